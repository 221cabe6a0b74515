/- Merged: The landed line: here. The landed line: Term, Last, meets. -/
import Derived.Test.YtgjplbanfnomkaaLnCX
import Derived.Test.YtgjplbanfnomkaaLtU
import Derived.Test.YtgjplbanfnomkaaLtP
namespace Go.Proofs.Ytgjplbanfnomkaa
section
set_option linter.unusedVariables false
set_option linter.unusedSimpArgs false

open Go.RowKit
set_option maxRecDepth 100000
/-- The item at an index, plain. -/
def Ln.itm (x : Ln) (i : Int) : Itm := if x.b < i ∧ i ≤ x.last then (x.l[(i - x.b - 1).toNat]?).getD ⟨0, []⟩ else ⟨0, []⟩
def Ln.hasB (x : Ln) (i : Int) : Bool := decide (x.b < i ∧ i ≤ x.last)
theorem Ln.itm_no {x : Ln} {i : Int} (h : ¬ (x.b < i ∧ i ≤ x.last)) : x.itm i = ⟨0, []⟩ := by unfold Ln.itm; rw [if_neg h]
theorem Ln.itm_yes {x : Ln} {i : Int} (h : x.b < i ∧ i ≤ x.last) {k : Nat} (hk : i - x.b - 1 = (k : Int)) {p : Itm} (hp : x.l[k]? = some p) : x.itm i = p := by
  unfold Ln.itm; rw [if_pos h, hk, Int.toNat_natCast, hp]; rfl
theorem results_it {fn : Func} {p u : Tmp} (h : fn.results = #[.cell p 36, .tmp u]) (tmps : Array Value) (w : World) (g : Nat) (cs : Array Value) (v : Value)
    (hp : tmps.getD p undef = .pointer (some ⟨g, 0, none⟩)) (hv : tmps.getD u undef = v) (hg : w.heap[g]? = some (.cells cs 36 (0, 0))) (hc : cs.size = 2) :
    (results fn tmps).run Try.prog w = .ok (.tuple #[.agg cs, v]) w := by
  rw [results_cell_tmp h, hp, hv]
  simp [asAddr, run_loadVar_row w g 36 36 cs (0, 0) _ hg Try.underlying36 rfl (by rw [hc]; kernel_rfl), Result.andThen]
theorem it_size : (Try.prog.info? 36).map (·.size) = some 2 := by kernel_rfl
/-- An item as a value. -/
abbrev itV (p : Itm) (S : Option Addr) (c : Nat) : Value := .agg #[.int .i64 p.t, .slice S p.b.length c]
abbrev itO (p : Itm) (S : Option Addr) (c : Nat) : Obj := .cells #[.int .i64 p.t, .slice S p.b.length c] 36
def HPost (x : Ln) (i : Int) (w : World) (r : Ending) (w' : World) : Prop := ∃ S c, r = .returned (.tuple #[itV (x.itm i) S c, .bool (x.hasB i)]) ∧ BtN w' (fun _ => False) S c (x.itm i).b ∧ (x.itm i).ok ∧ Turn (fun _ => False) w w'
theorem row2_range {w : World} {b o : Nat} {a c : Value} (h0 : w.cell? ⟨b, o, none⟩ = some a) (h1 : w.cell? ⟨b, o + 1, none⟩ = some c) : w.rangeAt b o [a, c] := fun j v hj => by
  match j, hj with
  | 0, hj => simp at hj; subst hj; exact h0
  | 1, hj => simp at hj; subst hj; exact h1
  | j + 2, hj => simp at hj
set_option maxHeartbeats 4000000 in
theorem lhere_any (g : Nat) (v : Value) (x : Ln) (w : World) (h : Lat w g v x) (i : Int) : Calls Try.prog 50 #[.pointer (some ⟨g, 0, none⟩), .int .i64 i] w (HPost x i w) := by
  unfold HPost
  obtain ⟨w0, hw0⟩ : ∃ w0, w0 = w.alloc (.cells #[.int .i64 0, .slice none 0 0] 36) := ⟨_, rfl⟩
  have t0 : Turn (fun _ => False) w w0 := by rw [hw0]; exact (Turn.refl _ _).alloc _
  have g0 : w0.heap[w.heap.size]? = some (.cells #[.int .i64 0, .slice none 0 0] 36 (0, 0)) := by rw [hw0]; exact heap_alloc_new _ _
  have T := lhas_any g v x w0 (h.quiet t0) i
  have HG0 := Lib.hid g0
  have HT0 := Lib.hid t0
  by_cases hi : x.b < i ∧ i ≤ x.last
  · rw [decide_eq_true hi] at T
    obtain ⟨k, hk, p, hp, -, -⟩ := Ln.at_there h.ok hi.1 hi.2
    have hit := Ln.itm_yes hi hk hp
    have hhas : x.hasB i = true := decide_eq_true hi
    rw [hit, hhas]
    have TP := Lib.hid (fun w' (t : Turn (fun _ => False) w w') => lplace_any g v x w' (h.quiet t) i hi.1 (by have := hi.2; omega))
    rw [hk] at TP
    obtain ⟨c0, c1, c2⟩ := h.cells
    obtain ⟨A, c, rfl, hc, hm, hA, hI⟩ := h.parts
    obtain ⟨hok, b, o, S, cp, hAe, -, hs, p0, p1⟩ := hI k p hp
    have hkn : k < x.l.length := (List.getElem?_eq_some_iff.1 hp).1
    have hn := h.ok.n
    have C2 := Lib.hid c2
    have P0 := Lib.hid p0
    have P1 := Lib.hid p1
    have HS := Lib.hid hs
    have HOK := Lib.hid hok
    subst hAe
    generalize x.l.length = n at *
    clear h hI hs c0 c1 c2 p0 p1 hi hit hhas hp hk t0 g0 hok
    have T := Lib.hid T
    go_enter Try.func50, Try.ntmps50
    go_upto_region 1 with fail
    change Code.wp _ _ _ _ (w.alloc (.cells #[.int .i64 0, .slice none 0 0] 36))
    rw [← hw0]
    clear hw0
    obtain ⟨W, hW⟩ : ∃ W, W = w.heap.size := ⟨_, rfl⟩
    rw [← hW] at HG0 ⊢
    have HWW := Lib.hid hW
    clear hW
    go_wp2_with (go_at_call 45; refine stop ?_)
    unfold Stop
    refine T.out.mono ?_
    rintro r wr ⟨rfl, n1, hw1⟩
    have t1 : Turn (fun _ => False) w0 wr := by rw [hw1]; exact (Turn.refl _ _).drewN _
    have HGR := Lib.hid (t1.heap HG0.out (fun h => h))
    have HTR := Lib.hid (HT0.out.trans t1 (fun _ _ h => h))
    clear hw1 t1 T HG0 HT0
    have HTd := Lib.hid HTR.out
    go_upto_region 3 with fail
    have HWS := Lib.hid (fun (w' : World) (k : Stp wr.drew w') => show Turn (fun _ => False) wr w' from Turn.of_below (stp_start k (Below.refl _ _)))
    refine wp_region_rel_tail 9 20 (by kernel_rfl) (by kernel_rfl) Stp [.one ?_, .one ?_, .one ?_, .one ?_, .one ?_, .one ?_, .one ?_, .one ?_, .one ?_] (by kernel_rfl) rfl (by kernel_rfl) Stp.refl Stp.trans trivial ?main
    case main =>
    simp only [List.take_succ_cons, List.take_zero, List.drop_succ_cons, List.drop_zero]
    iterate 3
      refine wpR_one (A' := ?_) Stp.refl (by rfl) _ rfl 20 (by rfl) (by rfl) ?_ ?_ ?_
      rotate_left 1
      · simp only [Act.put, List.setIfInBounds_toArray, List.set_cons_zero, List.set_cons_succ]; rfl
      · intro w1 hs hf K hK
        go_big_quiet_op
        first
          | go_big_quiet_on
          | (refine ⟨_, fun _ _ => rfl, ?_⟩; go_big_quiet_on)
        rfl
    refine wpR_one (A' := ?_) Stp.refl (by rfl) _ rfl 20 (by rfl) (by rfl) ?_ ?_ ?_
    rotate_left 1
    · simp only [Act.put, List.setIfInBounds_toArray, List.set_cons_zero, List.set_cons_succ]; rfl
    · intro w1 hs hf K hK
      refine cls_load_cell 27 (.tmp 13) rfl ⟨g, 2, none⟩ rfl (.slice (some ⟨b, o, none⟩) n c) (fun w h => by simp [go_sem, h]) (fun w2 h2 => ((HTR.out.trans (HWS.out w2 (Stp.trans _ _ _ hs h2)) (fun _ _ h => h)).cell C2.out (fun h => h))) ?_
      refine hK _ ?_
      simp only [Act.put, List.setIfInBounds_toArray, List.set_cons_zero, List.set_cons_succ]
      rfl
    iterate 2
      refine wpR_one (A' := ?_) Stp.refl (by rfl) _ rfl 20 (by rfl) (by rfl) ?_ ?_ ?_
      rotate_left 1
      · simp only [Act.put, List.setIfInBounds_toArray, List.set_cons_zero, List.set_cons_succ]; rfl
      · intro w1 hs hf K hK
        go_big_quiet_op
        first
          | go_big_quiet_on
          | (refine ⟨_, fun _ _ => rfl, ?_⟩; go_big_quiet_on)
        rfl
    refine wpR_one (A' := ?_) Stp.refl (by rfl) _ rfl 20 (by rfl) (by rfl) ?_ ?_ ?_
    rotate_left 1
    · simp only [Act.put, List.setIfInBounds_toArray, List.set_cons_zero, List.set_cons_succ]; rfl
    · intro w1 hs hf K hK
      go_big_quiet_op
      apply Exists.intro
      refine ⟨fun w2 h2 => ?_, ?_⟩
      · have T2 := (HWS.out w2 (Stp.trans _ _ _ hs h2))
        refine ((TP.out w2 (HTR.out.trans T2 (fun _ _ h => h))).mono (fun r w3 (h : r = _ ∧ w3 = w2) => show r = _ ∧ Turn (fun _ => False) w2 w3 from ⟨h.1, by rw [h.2]; exact Turn.refl _ _⟩)).mono ?_
        rintro e w3 ⟨rfl, t3⟩
        exact ⟨rfl, Stp.trans _ _ _ h2 (turn_stp' t3)⟩
      · go_big_quiet_on
        rfl
    iterate 1
      refine wpR_one (A' := ?_) Stp.refl (by rfl) _ rfl 20 (by rfl) (by rfl) ?_ ?_ ?_
      rotate_left 1
      · simp only [Act.put, List.setIfInBounds_toArray, List.set_cons_zero, List.set_cons_succ]; rfl
      · intro w1 hs hf K hK
        go_big_quiet_op
        first
          | go_big_quiet_on
          | (refine ⟨_, fun _ _ => rfl, ?_⟩; go_big_quiet_on)
        rfl
    refine wpR_one (A' := ?_) Stp.refl (by rfl) _ rfl 20 (by rfl) (by rfl) ?_ ?_ ?_
    rotate_left 1
    · simp only [Act.put, List.setIfInBounds_toArray, List.set_cons_zero, List.set_cons_succ]; rfl
    · intro w1 hs hf K hK
      refine cls_load 36 (.tmp 18) rfl (b) (o + k * 2) rfl ([.int .i64 p.t, .slice S p.b.length cp]) _ (fun w2 h2 => row2_range ((HTR.out.trans (HWS.out w2 (Stp.trans _ _ _ hs h2)) (fun _ _ h => h)).cell P0.out (fun h => h)) ((HTR.out.trans (HWS.out w2 (Stp.trans _ _ _ hs h2)) (fun _ _ h => h)).cell P1.out (fun h => h))) Try.underlying36 rfl it_size ?_
      refine hK _ ?_
      simp only [Act.put, List.setIfInBounds_toArray, List.set_cons_zero, List.set_cons_succ]
      rfl
    intro w9 hs9 hf9
    have T9 := Lib.hid (HWS.out w9 hs9)
    clear hs9 HWS
    have HG9 := Lib.hid (T9.out.heap HGR.out (fun h => h))
    obtain ⟨⟨d0, d1⟩, e0, e1⟩ := ys_row HG9.out
    go_wp2
    have h9 := ys_set (a' := .int .i64 p.t) (b' := .slice S p.b.length cp) HG9.out
    refine bodyPost_ret (v := .tuple #[itV p S cp, .bool true]) ?_ rfl ?_
    · exact results_it Try.results50 _ _ W _ _ rfl rfl h9.1 rfl
    · have T10 := (HTR.out.trans T9.out (fun _ _ h => h)).trans h9.2 (fun i hi e => by have e : i = W := e; have := HWW.out; omega)
      exact ⟨S, cp, rfl, HS.out.quiet T10, HOK.out, T10⟩
  · rw [decide_eq_false hi] at T
    have hhas : x.hasB i = false := decide_eq_false hi
    rw [Ln.itm_no hi, hhas]
    have T := Lib.hid T
    clear h hhas hi t0 g0
    go_enter Try.func50, Try.ntmps50
    go_upto_region 1 with fail
    change Code.wp _ _ _ _ (w.alloc (.cells #[.int .i64 0, .slice none 0 0] 36))
    rw [← hw0]
    clear hw0
    obtain ⟨W, hW⟩ : ∃ W, W = w.heap.size := ⟨_, rfl⟩
    rw [← hW] at HG0 ⊢
    have HWW := Lib.hid hW
    clear hW
    go_wp2_with (go_at_call 45; refine stop ?_)
    unfold Stop
    refine T.out.mono ?_
    rintro r wr ⟨rfl, n1, hw1⟩
    have t1 : Turn (fun _ => False) w0 wr := by rw [hw1]; exact (Turn.refl _ _).drewN _
    have HGR := Lib.hid (t1.heap HG0.out (fun h => h))
    have HTR := Lib.hid (HT0.out.trans t1 (fun _ _ h => h))
    clear hw1 t1 T HG0 HT0
    obtain ⟨⟨d0, d1⟩, e0, e1⟩ := ys_row HGR.out
    go_wp2
    have h9 := ys_set (a' := .int .i64 0) (b' := .slice none 0 0) HGR.out
    refine bodyPost_ret (v := .tuple #[itV ⟨0, []⟩ none 0, .bool false]) ?_ rfl ?_
    · exact results_it Try.results50 _ _ W _ _ rfl rfl h9.1 rfl
    · have T10 := HTR.out.trans h9.2 (fun i hi e => by have e : i = W := e; have := HWW.out; omega)
      exact ⟨none, 0, rfl, bt_nil, ⟨⟨by decide, by decide⟩, by simp⟩, T10⟩

end
section
set_option linter.unusedVariables false
set_option linter.unusedSimpArgs false

open Go.RowKit
set_option maxRecDepth 100000
def Ln.tm (x : Ln) (i : Int) : Int := if 0 ≤ x.at i then x.at i else 0
def Ln.th (x : Ln) (i : Int) : Bool := decide (0 ≤ x.at i)
theorem Ln.at_in {x : Ln} (h : x.Ok) {i : Int} (hi : x.b < i ∧ i ≤ x.last) : x.at i = (x.itm i).t ∧ 0 ≤ (x.itm i).t := by
  obtain ⟨k, hk, p, hp, h1, h2⟩ := Ln.at_there h hi.1 hi.2
  rw [Ln.itm_yes hi hk hp]; exact ⟨h1, h2⟩
theorem Ln.at_no {x : Ln} {i : Int} (hb : i ≠ x.b) (hi : ¬ (x.b < i ∧ i ≤ x.last)) : x.at i = -1 := by
  unfold Ln.at; rw [if_neg hb, if_pos (by omega)]
theorem Ln.tm_base {x : Ln} (h : x.Ok) : x.tm x.b = x.t ∧ x.th x.b = true := by
  unfold Ln.tm Ln.th; rw [Ln.at_base, if_pos h.t0]; exact ⟨rfl, decide_eq_true h.t0⟩
theorem Ln.tm_other {x : Ln} (h : x.Ok) {i : Int} (hb : i ≠ x.b) : (x.itm i).t = x.tm i ∧ x.hasB i = x.th i := by
  unfold Ln.tm Ln.th Ln.hasB
  by_cases hi : x.b < i ∧ i ≤ x.last
  · obtain ⟨h1, h2⟩ := Ln.at_in h hi
    rw [h1, if_pos h2, decide_eq_true hi, decide_eq_true h2]; exact ⟨rfl, rfl⟩
  · rw [Ln.at_no hb hi, if_neg (by omega), decide_eq_false hi, decide_eq_false (by omega), Ln.itm_no hi]; exact ⟨rfl, rfl⟩
theorem Ln.tm_range {x : Ln} (h : x.Ok) (i : Int) : 0 ≤ x.tm i ∧ x.tm i ≤ 1099511627776 := by
  by_cases hb : i = x.b
  · subst hb; rw [(Ln.tm_base h).1]; exact ⟨h.t0, h.t1⟩
  · rw [← (Ln.tm_other h hb).1]
    by_cases hi : x.b < i ∧ i ≤ x.last
    · obtain ⟨k, hk, p, hp, h1, h2⟩ := Ln.at_there h hi.1 hi.2
      rw [Ln.itm_yes hi hk hp]
      have := okIt_parts (h.it p (List.mem_of_getElem? hp))
      omega
    · rw [Ln.itm_no hi]; exact ⟨by decide, by decide⟩
set_option maxHeartbeats 4000000 in
theorem lterm_any (g : Nat) (v : Value) (x : Ln) (w : World) (h : Lat w g v x) (i : Int) : Calls Try.prog 24 #[.pointer (some ⟨g, 0, none⟩), .int .i64 i] w fun r w' => r = .returned (.tuple #[.int .i64 (x.tm i), .bool (x.th i)]) ∧ Turn (fun _ => False) w w' := by
  obtain ⟨c0, c1, c2⟩ := h.cells
  by_cases hb : i = x.b
  · subst hb
    obtain ⟨e1, e2⟩ := Ln.tm_base h.ok
    rw [e1, e2]
    clear h e1 e2
    generalize x.b = b at *
    generalize x.t = t at *
    go_enter Try.func24, Try.ntmps24
    go_wp2
    go_ret2
    exact ⟨rfl, Turn.refl _ _⟩
  · obtain ⟨e1, e2⟩ := Ln.tm_other h.ok hb
    have q0 : (i == x.b) = false := by rw [beq_eq_false_iff_ne]; exact hb
    have T := lhere_any g v x w h i
    unfold HPost at T
    rw [e2] at T
    have T := Lib.hid T
    have E1 := Lib.hid e1
    generalize x.itm i = p at *
    generalize x.tm i = t' at *
    generalize x.th i = ok at *
    generalize x.b = b at *
    clear h e1 e2 c1 c2 hb
    go_enter Try.func24, Try.ntmps24
    go_wp2_with (go_at_call 50; refine stop ?_)
    unfold Stop
    refine T.out.mono ?_
    rintro r w1 ⟨S, c, rfl, hs, hok, t1⟩
    have HT1 := Lib.hid t1
    clear hs hok t1 T c0
    go_upto_region 4 with fail
    obtain ⟨w2, hw2⟩ : ∃ w2, w2 = w1.alloc (itO p S c) := ⟨_, rfl⟩
    have g2 : w2.heap[w1.heap.size]? = some (.cells #[.int .i64 p.t, .slice S p.b.length c] 36 (0, 0)) := by rw [hw2]; exact heap_alloc_new _ _
    have HT2 := Lib.hid (show Turn (fun _ => False) w w2 by rw [hw2]; exact HT1.out.alloc _)
    change Code.wp _ _ _ _ (w1.alloc (itO p S c))
    rw [← hw2]
    clear hw2 HT1
    obtain ⟨⟨d0, d1⟩, -⟩ := ys_row g2
    clear g2
    go_wp2
    go_ret2
    exact ⟨by rw [← E1.out]; rfl, HT2.out⟩
set_option maxHeartbeats 4000000 in
theorem llastT_any (g : Nat) (v : Value) (x : Ln) (w : World) (h : Lat w g v x) : Calls Try.prog 22 #[.pointer (some ⟨g, 0, none⟩)] w fun r w' => r = .returned (.tuple #[.int .i64 x.last, .int .i64 (x.tm x.last)]) ∧ Turn (fun _ => False) w w' := by
  have T1 := Lib.hid (llast_any g v x w h)
  have T2 := Lib.hid (fun (w' : World) (t : Turn (fun _ => False) w w') => lterm_any g v x w' (h.quiet t) x.last)
  generalize x.tm x.last = t' at *
  generalize x.th x.last = ok at *
  generalize x.last = L at *
  clear h
  go_enter Try.func22, Try.ntmps22
  go_wp2_with (go_at_call 36; refine stop ?_)
  unfold Stop
  refine T1.out.mono ?_
  rintro r w1 ⟨rfl, n1, hw1⟩
  have t1 : Turn (fun _ => False) w w1 := by rw [hw1]; exact (Turn.refl _ _).drewN _
  have HT1 := Lib.hid t1
  clear hw1 t1 T1
  go_wp2_with (go_at_call 24; refine stop ?_)
  unfold Stop
  refine (T2.out w1 HT1.out).mono ?_
  rintro r w2 ⟨rfl, t2⟩
  have HT2 := Lib.hid (HT1.out.trans t2 (fun _ _ h => h))
  clear t2 T2 HT1
  go_wp2
  go_ret2
  exact ⟨rfl, HT2.out⟩
def Ln.meetB (x : Ln) (p t : Int) : Bool := if p < x.b then decide (0 ≤ p) else x.th p && decide (x.tm p = t)
set_option maxHeartbeats 4000000 in
theorem lmeets_any (g : Nat) (v : Value) (x : Ln) (w : World) (h : Lat w g v x) (i t : Int) : Calls Try.prog 39 #[.pointer (some ⟨g, 0, none⟩), .int .i64 i, .int .i64 t] w fun r w' => r = .returned (.bool (x.meetB i t)) ∧ Turn (fun _ => False) w w' := by
  obtain ⟨c0, c1, c2⟩ := h.cells
  have T := Lib.hid (lterm_any g v x w h i)
  have HM := Lib.hid (show x.meetB i t = if i < x.b then decide (0 ≤ i) else x.th i && decide (x.tm i = t) from rfl)
  generalize x.meetB i t = r at *
  generalize x.tm i = t' at *
  generalize x.th i = ok at *
  generalize x.b = b at *
  clear h c1 c2
  by_cases hb : i < b
  · have HR := Lib.hid (show decide (0 ≤ i) = r by rw [HM.out, if_pos hb])
    clear HM
    go_enter Try.func39, Try.ntmps39
    go_wp2
    go_ret
    exact ⟨ret_bool HR.out, Turn.refl _ _⟩
  · have HR := Lib.hid (show (ok && decide (t' = t)) = r by rw [HM.out, if_neg hb])
    clear HM
    cases ok with
    | false =>
      have HR := Lib.hid (show false = r from HR.out)
      go_enter Try.func39, Try.ntmps39
      go_wp2_with (go_at_call 24; refine stop ?_)
      unfold Stop
      refine T.out.mono ?_
      rintro r' w1 ⟨rfl, t1⟩
      have HT1 := Lib.hid t1
      clear t1 T
      go_wp2
      go_ret
      exact ⟨ret_bool HR.out, HT1.out⟩
    | true =>
      have HR := Lib.hid (show (t' == t) = r by rw [← HR.out, Bool.true_and]; rfl)
      go_enter Try.func39, Try.ntmps39
      go_wp2_with (go_at_call 24; refine stop ?_)
      unfold Stop
      refine T.out.mono ?_
      rintro r' w1 ⟨rfl, t1⟩
      have HT1 := Lib.hid t1
      clear t1 T
      go_wp2
      go_ret
      exact ⟨ret_bool HR.out, HT1.out⟩

end
end Go.Proofs.Ytgjplbanfnomkaa
