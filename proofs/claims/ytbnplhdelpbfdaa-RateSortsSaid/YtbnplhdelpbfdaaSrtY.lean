/- The document's Sort. -/
import Derived.Test.YtbnplhdelpbfdaaSrtX
import Derived.Deep.RegionLaw
import Derived.Laws.AppendOwnNone
import Derived.Maps.AppendAt
import Derived.Deep.AppendLies
set_option linter.unusedVariables false
set_option linter.unusedSimpArgs false
namespace Go.Proofs.Ytbnplhdelpbfdaa
open Go.RowKit
open Flt (nan key lessB cmpI S)
theorem step_append_any_at {P : Program} {w : World} {ops : Array Oper} {o : Oper} {a : Act} {K : Act → World → Prop} {Q : Exit → Act → World → Prop} {E : Prop} (hgd : o.guard = none) (s x : Operand) (t : TypeId)
    (ho : o.op = .call { callee := .builtin .append, args := #[s, x], argTypes := #[t, t] })
    (base : Nat) (e : TypeId) (i : TypeInfo) (z : Value) (bytes : Nat) (ht : P.underlying t = some (.slice e)) (hi : P.info? e = some i) (hz : i.zero = some z)
    (hsize : i.size = 1) (hby : i.bytes = bytes) (hzs : z.cells.size = 1)
    (v : Value) (n : Nat) (xs : List Value) (hs : a.eval s = v) (hown : w.ownsRow base e 1 v n xs)
    (A : Option Addr) (m c : Nat) (news : List Value) (hx : a.eval x = .slice A m c) (hA : A = none → c = 0) (hl : news.length = m) (hnews : ∀ (j : Nat) (u : Value), news[j]? = some u → ∃ ad, A = some ad ∧ w.cell? (ad.add j) = some u) (h1 : ∀ u ∈ news, u.oneCell' = true)
    (h63 : n + m ≤ maxLen) (hbytes : (n + m) * bytes ≤ 140737488355328) (hbase : base ≤ w.heap.size)
    (h : ∀ v' w', w'.ownsRow base e 1 v' (n + m) (xs ++ news) → w.grownBy w' v.ownBlock → (v'.ownBlock = v.ownBlock ∨ v'.ownBlock = some w.heap.size) → K (a.put o.dst v') w') :
    if Region.wanted o (yielded ops a.tmps) = true then Oper.wp P o a w K Q else E := by
  have hw : Region.wanted o (yielded ops a.tmps) = true := by simp [Region.wanted, hgd]
  rw [if_pos hw]
  cases A with
  | none =>
    obtain rfl := hA rfl
    have hn : news = [] := by
      cases news with
      | nil => rfl
      | cons u l => obtain ⟨ad, e, _⟩ := hnews 0 u rfl; cases e
    subst hn
    obtain rfl : m = 0 := by simpa using hl.symm
    have hrun := run_append_owned_none (P := P) (w := w) base t o.type e i 1 ht hi v n xs hown
    unfold Oper.wp
    simp [execOp, ho, resolve, invoke, builtin, hs, hx, hrun, Result.andThen]
    exact h v w (by simpa using hown) ⟨rfl, rfl, rfl, Nat.le_refl _, fun _ _ _ => rfl⟩ (.inl rfl)
  | some ad =>
    obtain ⟨v', w', hr, h2, h3, h4, h5⟩ := run_append_own_at (P := P) w base t o.type e i z 1 bytes ht hi hz hsize hby hzs (by decide) v n xs hown ad m c news (by omega) (fun j u hu => by
      obtain ⟨ad', e, hc⟩ := hnews j u hu
      injection e with e; subst e; exact hc) h1 h63 hbytes hbase
    unfold Oper.wp execOp
    simp only [ho, resolve, invoke, builtin, Sem.run_bind, Sem.run_pure, Result.andThen_ok, List.map_toArray, List.map_cons, List.map_nil, hs, hx, hr]
    exact h v' w' h2 h3 h5
theorem own_empty (w : World) (B : Nat) (e : TypeId) (hB : B ≤ w.heap.size) : (w.alloc (.cells #[] e)).ownsRow B e 1 (.slice (some ⟨w.heap.size, 0, none⟩) 0 0) 0 [] := by
  refine ⟨rfl, .inr ⟨w.heap.size, 0, #[], rfl, hB, heap_alloc_new _ _, ?_⟩⟩
  simp
theorem info_parts {P : Program} {t : TypeId} {z : Value} {s b : Nat} (h : (P.info? t).map (fun i => (i.zero, i.size, i.bytes)) = some (some z, s, b)) : ∃ i, P.info? t = some i ∧ i.zero = some z ∧ i.size = s ∧ i.bytes = b := by
  cases hi : P.info? t with
  | none => rw [hi] at h; cases h
  | some i => rw [hi] at h; simp at h; exact ⟨i, rfl, h.1, h.2.1, h.2.2⟩
theorem own_at {w : World} {H B : Nat} {e : TypeId} (h : w.heap[H]? = some (.cells #[] e (0, 0))) (hB : B ≤ H) : w.ownsRow B e 1 (.slice (some ⟨H, 0, none⟩) 0 0) 0 [] := by
  refine ⟨rfl, .inr ⟨H, 0, #[], rfl, hB, h, ?_⟩⟩
  simp
theorem news_at {w : World} {H : Nat} {x : Value} {e : TypeId} (h : w.heap[H]? = some (.cells #[x] e (0, 0))) (j : Nat) (u : Value) (hu : [x][j]? = some u) : ∃ ad, some (⟨H, 0, none⟩ : Addr) = some ad ∧ w.cell? (ad.add j) = some u :=
  ⟨_, rfl, World.news_of_block h j u hu⟩
def cutA (A : Option Addr) (cap n : Nat) : Option Addr := if cap = n then A else A.map (·.add n)
theorem size_f64 (w : World) : (sizeOf 26).run Try.prog w = .ok 1 w := by kernel_rfl
theorem slice_loF (A : Option Addr) (len cap n : Nat) (h : n ≤ len) (w : World) : (Instr.slice 22 (.slice A len cap) (some (.int .i64 (n : Int))) none none).run Try.prog w = .ok (.slice (cutA A cap n) (len - n) (cap - n)) w := by
  rw [run_slice_l (P := Try.prog) w 22 A len cap (by kernel_rfl) .i64 (n : Int) (by omega) (by omega)]
  rw [show Try.prog.elem 22 = 26 by kernel_rfl, size_f64]
  simp [Result.andThen, sliced, cutA]
theorem slice_hiF (A : Option Addr) (len cap n : Nat) (h : n ≤ len) (hc : len ≤ cap) (w : World) : (Instr.slice 22 (.slice A len cap) none (some (.int .i64 (n : Int))) none).run Try.prog w = .ok (.slice A n cap) w := by
  rw [run_slice_h (P := Try.prog) w 22 A len cap (by kernel_rfl) .i64 (n : Int) (by omega) (by omega)]
  rw [show Try.prog.elem 22 = 26 by kernel_rfl, size_f64]
  simp [Result.andThen, sliced]
  cases A with
  | none => simp
  | some a => simp [Addr.add]
theorem refCompare_quiet (a b : Nat) (w : World) (n : Nat) (wa : a < 18446744073709551616) (wb : b < 18446744073709551616) :
    Calls Try.prog 10 #[.float .f64 a, .float .f64 b] (w.drewN n) fun e w'' => e = .returned (.int .i64 (cmpI a b)) ∧ ∃ m, w'' = w.drewN m := (refCompare_any a b _ wa wb).mono fun _ _ ⟨h, e⟩ => ⟨h, n, e.symm⟩
theorem cmp_ge (a b : Nat) : decide (0 ≤ cmpI a b) = decide (key b ≤ key a) := by
  unfold cmpI
  rw [decide_eq_decide]
  (repeat' split) <;> omega
set_option maxRecDepth 100000 in
set_option maxHeartbeats 8000000 in
theorem refSort_any (A : Option Addr) (c n : Nat) (l : List Nat) (w : World) (h : Rs w A c n l) (hm : n ≤ 1000) :
    Calls Try.prog 6 #[.slice A n c] w fun e w' => ∃ (v : Value) (F : List Nat), e = .returned v ∧ F.Perm l ∧ Srt F ∧ w'.ownsRow w.heap.size 26 1 v n (F.map fv) ∧ Turn (fun _ => False) w w' := by
  obtain ⟨i0, hi, hz0, hz1, hz2⟩ := info_parts info_f64
  have H := Lib.hid h
  clear h
  go_enter Try.func6, Try.ntmps6
  go_wp2_with fail
  go_loopw [3, 4] (fun v i wr => ∃ (k : Nat) (F : List Nat), k ≤ n ∧ i = .int .i64 (k : Int) ∧ F.Perm (l.take k) ∧ Srt F ∧ wr.ownsRow w.heap.size 26 1 v k (F.map fv) ∧ Turn (fun _ => False) w wr) (fun _ i _ => n - (intOf i).toNat)
  case atStart => exact ⟨0, [], Nat.zero_le _, rfl, by simp, List.Pairwise.nil, World.ownsRow_nil _ _ _ _, Turn.refl _ _⟩
  case round =>
    obtain ⟨k, F, hk, rfl, hp, hs, ho, ht⟩ := hrel
    obtain ⟨Av, cv, rfl, hsl, hFl, hcv, hAv⟩ := own_sl ho
    rw [List.length_map] at hFl
    by_cases hlt : k < n
    · have t0 : decide ((k : Int) < (n : Int)) = true := by rw [decide_eq_true_eq]; omega
      have HL := (H.out.turn ht)
      obtain ⟨ad, hA, ck⟩ := HL.cell hlt
      subst hA
      obtain ⟨x, hx⟩ : ∃ x, x = gd l k := ⟨_, rfl⟩
      rw [← hx] at ck
      have wx : x < 18446744073709551616 := by rw [hx]; exact H.out.wf.gd (by rw [H.out.n]; exact hlt)
      have wF : Wf F := fun y hy => H.out.wf y (List.mem_of_mem_take (hp.mem_iff.1 hy))
      have HO := Lib.hid (And.intro hp (And.intro hs (And.intro ho (And.intro ht (And.intro hsl (And.intro hFl (And.intro hcv (And.intro hAv hx))))))))
      clear hp hs ho ht hsl hFl hcv hAv hx HL
      generalize wr = wo at *
      go_wp2_with fail
      go_loopw [5] (fun j w3 => ∃ (q : Nat), q ≤ k ∧ j = .int .i64 (q : Int) ∧ (∀ t, t < q → key x ≤ key (gd F t)) ∧ Turn (fun _ => False) wo w3) (fun j _ => k - (intOf j).toNat)
      case atStart => exact ⟨0, Nat.zero_le _, rfl, (fun t h => by omega), Turn.refl _ _⟩
      case round =>
        obtain ⟨q, hq, rfl, hge, t3⟩ := hrel
        by_cases hqk : q < k
        · have t1 : decide (q < k) = true := by simp [hqk]
          have t1' : decide ((q : Int) < (k : Int)) = true := by rw [decide_eq_true_eq]; omega
          obtain ⟨y, hy⟩ : ∃ y, y = gd F q := ⟨_, rfl⟩
          have hFl := HO.out.2.2.2.2.2.1
          obtain ⟨adv, rfl, -, cq⟩ := (t3.sl HO.out.2.2.2.2.1 (fun _ _ h => h)) q (.float .f64 y) (by rw [List.getElem?_map, gd_some (by omega), ← hy]; rfl)
          have ck3 := t3.cell ck (fun h => h)
          have CM := Lib.hid (fun w n => refCompare_quiet y x w n (by rw [hy]; exact wF.gd (by omega)) wx)
          have tc := cmp_ge y x
          have HG := Lib.hid (And.intro hge (And.intro t3 hy))
          have i1 : (q : Int) < (k : Int) := by omega
          have i2 : (k : Int) < (n : Int) := by omega
          by_cases hk2 : key x ≤ key y
          · rw [show decide (key x ≤ key y) = true by simp [hk2]] at tc
            have HK := Lib.hid hk2
            clear hge t3 hy hk2 hFl wF
            go_wp2_with fail
            go_quiet (exact CM.out _ _)
            go_wp2_with fail
            go_roundw
            case rel =>
              refine ⟨q + 1, by omega, by go_num, fun t ht => ?_, HG.out.2.1.drewN _⟩
              rcases Nat.lt_or_ge t q with h | h
              · exact HG.out.1 t h
              · obtain rfl : t = q := by omega
                rw [← HG.out.2.2]; exact HK.out
            case measure => simp [intOf]; omega
          · rw [show decide (key x ≤ key y) = false by simp; omega] at tc
            have HK := Lib.hid (show key y ≤ key x by omega)
            clear hge t3 hy hk2 hFl wF
            go_wp2_with fail
            go_quiet (exact CM.out _ _)
            have HQ := Lib.hid (show (∀ t, t < q → key x ≤ key (gd F t)) ∧ (q = k ∨ key (gd F q) ≤ key x) from ⟨HG.out.1, .inr (by rw [← HG.out.2.2]; exact HK.out)⟩)
            go_upto_region 8 with fail
            obtain ⟨w4, hw4⟩ : ∃ w4, w4 = wr.drewN nq := ⟨_, rfl⟩
            have t4 : Turn (fun _ => False) wo w4 := by rw [hw4]; exact HG.out.2.1.drewN _
            rw [← hw4]
            have c4 := t4.cell ck (fun h => h)
            have sh := slice_hiF (some adv) k cv q hq HO.out.2.2.2.2.2.2.1
            have sl := slice_loF (some adv) k cv q hq
            obtain ⟨hp, hs, ho, ht, hsl, hFl, hcv, hAv, hx⟩ := HO.out
            have SRC1 := Lib.hid (fun (W : World) (tW : Turn (fun _ => False) w4 W) => show ∀ j u, ((F.take q).map fv)[j]? = some u → ∃ a', (some adv) = some a' ∧ W.cell? (a'.add j) = some u from fun j u hu => by
              obtain ⟨a', e, -, hc⟩ := ((t4.trans tW (fun _ _ h => h)).sl hsl (fun _ _ h => h)).take q j u (by rw [← List.map_take]; exact hu)
              exact ⟨a', e, hc⟩)
            have SRC2 := Lib.hid (fun (W : World) (tW : Turn (fun _ => False) w4 W) => show ∀ j u, ((F.drop q).map fv)[j]? = some u → ∃ a', cutA (some adv) cv q = some a' ∧ W.cell? (a'.add j) = some u from fun j u hu => by
              obtain ⟨a', e, -, hc⟩ := ((t4.trans tW (fun _ _ h => h)).sl hsl (fun _ _ h => h)).cut cv q (by rw [List.length_map]; omega) j u (by rw [← List.map_drop]; exact hu)
              exact ⟨a', e, hc⟩)
            have RES := Lib.hid (show (F.take q ++ x :: F.drop q).Perm (l.take (k + 1)) ∧ Srt (F.take q ++ x :: F.drop q) by
              have lt : (F.take q).length = q := by rw [List.length_take]; omega
              constructor
              · have e1 : (F.take q ++ x :: F.drop q).Perm (x :: F) := by
                  have := List.perm_middle (a := x) (l₁ := F.take q) (l₂ := F.drop q)
                  rw [List.take_append_drop] at this; exact this
                have e2 : l.take (k + 1) = l.take k ++ [x] := by
                  rw [List.take_add_one, gd_some (by rw [H.out.n]; omega), ← hx]; rfl
                rw [e2]
                exact (e1.trans (hp.cons x)).trans (List.perm_append_singleton x (l.take k)).symm
              · refine srt_put (by rw [List.take_append_drop]; exact hs) ?_ ?_
                · rcases Nat.eq_zero_or_pos q with h0 | h0
                  · exact .inl (List.length_eq_zero_iff.1 (by omega))
                  · refine .inr ?_
                    rw [List.take_append_drop, lt]
                    exact HQ.out.1 (q - 1) (by omega)
                · rcases HQ.out.2 with h0 | h0
                  · exact .inl (List.length_eq_zero_iff.1 (by rw [List.length_drop]; omega))
                  · refine .inr ?_
                    rw [List.take_append_drop, lt]; exact h0)
            have HTB := Lib.hid (show Turn (fun _ => False) w w4 from ht.trans t4 (fun _ _ h => h))
            have N1 := Lib.hid (show ((F.take q).map fv).length = q by rw [List.length_map, List.length_take]; omega)
            have N2 := Lib.hid (show ((F.drop q).map fv).length = k - q by rw [List.length_map, List.length_drop]; omega)
            have A2 := Lib.hid (show cutA (some adv) cv q = none → cv - q = 0 by
              unfold cutA
              split
              · omega
              · intro h
                have : (some adv) = none := by cases hh : (some adv) <;> simp_all
                have := hAv this
                omega)
            have A1 := Lib.hid hAv
            have ONE := Lib.hid (fun (l : List Nat) => show ∀ v ∈ l.map fv, v.oneCell' = true by intro v hv; simp only [List.mem_map] at hv; obtain ⟨y, -, rfl⟩ := hv; rfl)
            have cA : (w4.alloc (.cells #[] 26)).cell? (ad.add k) = some (.float .f64 x) := ((Turn.refl (fun _ => False) w4).alloc _).cell c4 (fun h => h)
            have HT4 := Lib.hid t4
            have hkn : (k : Int) < (n : Int) := by omega
            have M1 := Lib.hid (show 0 + q ≤ maxLen by unfold maxLen; omega)
            have M2 := Lib.hid (show 0 + q + 1 ≤ maxLen by unfold maxLen; omega)
            have M3 := Lib.hid (show 0 + q + 1 + (k - q) ≤ maxLen by unfold maxLen; omega)
            have Y1 := Lib.hid (show (0 + q) * 8 ≤ 140737488355328 by omega)
            have Y2 := Lib.hid (show (0 + q + 1) * 8 ≤ 140737488355328 by omega)
            have Y3 := Lib.hid (show (0 + q + 1 + (k - q)) * 8 ≤ 140737488355328 by omega)
            obtain ⟨avq, havq⟩ : ∃ avq, avq = cutA (some adv) cv q := ⟨_, rfl⟩
            rw [← havq] at sl SRC2 A2
            clear hw4 t4 hp hs ho ht hsl hFl hcv hAv hx havq ck cq ck3 t1 t1' tc CM
            go_region_law (first
              | (refine step_append_any_at rfl (.tmp 30) (.tmp 33) 22 rfl w4.heap.size 26 i0 (.float .f64 0) 8 Try.underlying22 hi hz0 hz1 hz2 rfl _ 0 [] rfl (own_at (by first | exact heap_alloc_new _ _ | exact heap_alloc2_old _ _ _ | exact heap_alloc2_new _ _ _) (by simp <;> omega)) (some adv) q cv ((F.take q).map fv) rfl A1.out N1.out (SRC1.out _ (by first | exact ((Turn.refl _ _).alloc _).drew | exact (((Turn.refl _ _).alloc _).alloc _).drew)) (ONE.out _) M1.out Y1.out (by simp <;> omega) ?_
                 intro v1 w5 own1 gr1 at1
                 have T5 := Lib.hid (show Turn (fun _ => False) w4 w5 from Turn.grown (by first | exact ((Turn.refl _ _).alloc _).drew | exact (((Turn.refl _ _).alloc _).alloc _).drew) gr1 (fun i hi e => by first | (have e' := Option.some.inj (show some i = some w4.heap.size from e); omega) | (have e' := Option.some.inj (show some i = some (w4.heap.size + 1) from e); omega)))
                 have O1 := Lib.hid own1
                 have GR1 := Lib.hid gr1
                 have c5 := T5.out.cell c4 (fun h => h)
                 clear own1 gr1 at1)
              | (refine step_append_any_at rfl (.tmp 34) (.tmp 39) 22 rfl w4.heap.size 26 i0 (.float .f64 0) 8 Try.underlying22 hi hz0 hz1 hz2 rfl v1 (0 + q) _ rfl (by first | exact O1.out | exact O1.out.alloc _) (some _) 1 1 [.float .f64 x] rfl (fun h => by cases h) rfl (news_at (by first | exact heap_alloc_new _ _ | exact (GR1.out.block _ (by simp <;> omega) (fun e => by first | (have e' := Option.some.inj (show some w4.heap.size = some (w4.heap.size + 1) from e); omega) | (have e' := Option.some.inj (show some (w4.heap.size + 1) = some w4.heap.size from e); omega))).trans (heap_alloc2_new _ _ _) | exact (GR1.out.block _ (by simp <;> omega) (fun e => by first | (have e' := Option.some.inj (show some w4.heap.size = some (w4.heap.size + 1) from e); omega) | (have e' := Option.some.inj (show some (w4.heap.size + 1) = some w4.heap.size from e); omega))).trans (heap_alloc2_old _ _ _))) (by intro u hu; simp at hu; subst hu; rfl) M2.out Y2.out (by have h5 := T5.out.size; simp; omega) ?_
                 intro v2 w6 own2 gr2 at2
                 have T6 := Lib.hid (show Turn (fun _ => False) w4 w6 from Turn.grown (by first | exact T5.out | exact T5.out.alloc _) gr2 (fun i hi e => by have h1 := (O1.out.lt i e.symm).1; omega))
                 have O2 := Lib.hid own2
                 clear own2 gr2 at2)
              | (refine step_append_any_at rfl (.tmp 40) (.tmp 43) 22 rfl w4.heap.size 26 i0 (.float .f64 0) 8 Try.underlying22 hi hz0 hz1 hz2 rfl v2 (0 + q + 1) _ rfl O2.out avq (k - q) (cv - q) ((F.drop q).map fv) rfl A2.out N2.out (SRC2.out _ T6.out) (ONE.out _) M3.out Y3.out (by have h5 := T6.out.size; omega) ?_
                 intro v3 w7 own3 gr3 at3
                 have T7 := Lib.hid (show Turn (fun _ => False) w4 w7 from Turn.grown T6.out gr3 (fun i hi e => by have h1 := (O2.out.lt i e.symm).1; omega))
                 have O3 := Lib.hid own3
                 clear own3 gr3 at3))
            all_goals
              go_wp2_with fail
              go_roundw
              case rel =>
                refine ⟨k + 1, F.take q ++ x :: F.drop q, by omega, by go_num, RES.out.1, RES.out.2, ?_, HTB.out.trans T7.out (fun _ _ h => h)⟩
                have h3 := own_more O3.out HTB.out.size
                have e1 : 0 + q + 1 + (k - q) = k + 1 := by omega
                have e2 : (F.take q ++ x :: F.drop q).map fv = [] ++ (F.take q).map fv ++ [Value.float .f64 x] ++ (F.drop q).map fv := by simp [fv]
                rw [e2, ← e1]; exact h3
              case measure => simp [intOf]; omega
        · have HQK := Lib.hid (show q = k by omega)
          have t1 : decide (q < k) = false := by simp; omega
          have t1' : decide ((q : Int) < (k : Int)) = false := by rw [decide_eq_false_iff_not]; omega
          have HG := Lib.hid (And.intro hge t3)
          have HQ := Lib.hid (show (∀ t, t < q → key x ≤ key (gd F t)) ∧ (q = k ∨ key (gd F q) ≤ key x) from ⟨HG.out.1, .inl HQK.out⟩)
          clear hge t3 wF hqk
          go_wp2_with fail
          go_quiet (fail)
          go_upto_region 8 with fail
          obtain ⟨w4, hw4⟩ : ∃ w4, w4 = wr.drewN nq := ⟨_, rfl⟩
          have t4 : Turn (fun _ => False) wo w4 := by rw [hw4]; exact HG.out.2.drewN _
          rw [← hw4]
          have c4 := t4.cell ck (fun h => h)
          have sh := slice_hiF Av k cv q hq HO.out.2.2.2.2.2.2.1
          have sl := slice_loF Av k cv q hq
          obtain ⟨hp, hs, ho, ht, hsl, hFl, hcv, hAv, hx⟩ := HO.out
          have SRC1 := Lib.hid (fun (W : World) (tW : Turn (fun _ => False) w4 W) => show ∀ j u, ((F.take q).map fv)[j]? = some u → ∃ a', Av = some a' ∧ W.cell? (a'.add j) = some u from fun j u hu => by
            obtain ⟨a', e, -, hc⟩ := ((t4.trans tW (fun _ _ h => h)).sl hsl (fun _ _ h => h)).take q j u (by rw [← List.map_take]; exact hu)
            exact ⟨a', e, hc⟩)
          have SRC2 := Lib.hid (fun (W : World) (tW : Turn (fun _ => False) w4 W) => show ∀ j u, ((F.drop q).map fv)[j]? = some u → ∃ a', cutA Av cv q = some a' ∧ W.cell? (a'.add j) = some u from fun j u hu => by
            obtain ⟨a', e, -, hc⟩ := ((t4.trans tW (fun _ _ h => h)).sl hsl (fun _ _ h => h)).cut cv q (by rw [List.length_map]; omega) j u (by rw [← List.map_drop]; exact hu)
            exact ⟨a', e, hc⟩)
          have RES := Lib.hid (show (F.take q ++ x :: F.drop q).Perm (l.take (k + 1)) ∧ Srt (F.take q ++ x :: F.drop q) by
            have lt : (F.take q).length = q := by rw [List.length_take]; omega
            constructor
            · have e1 : (F.take q ++ x :: F.drop q).Perm (x :: F) := by
                have := List.perm_middle (a := x) (l₁ := F.take q) (l₂ := F.drop q)
                rw [List.take_append_drop] at this; exact this
              have e2 : l.take (k + 1) = l.take k ++ [x] := by
                rw [List.take_add_one, gd_some (by rw [H.out.n]; omega), ← hx]; rfl
              rw [e2]
              exact (e1.trans (hp.cons x)).trans (List.perm_append_singleton x (l.take k)).symm
            · refine srt_put (by rw [List.take_append_drop]; exact hs) ?_ ?_
              · rcases Nat.eq_zero_or_pos q with h0 | h0
                · exact .inl (List.length_eq_zero_iff.1 (by omega))
                · refine .inr ?_
                  rw [List.take_append_drop, lt]
                  exact HQ.out.1 (q - 1) (by omega)
              · rcases HQ.out.2 with h0 | h0
                · exact .inl (List.length_eq_zero_iff.1 (by rw [List.length_drop]; omega))
                · refine .inr ?_
                  rw [List.take_append_drop, lt]; exact h0)
          have HTB := Lib.hid (show Turn (fun _ => False) w w4 from ht.trans t4 (fun _ _ h => h))
          have N1 := Lib.hid (show ((F.take q).map fv).length = q by rw [List.length_map, List.length_take]; omega)
          have N2 := Lib.hid (show ((F.drop q).map fv).length = k - q by rw [List.length_map, List.length_drop]; omega)
          have A2 := Lib.hid (show cutA Av cv q = none → cv - q = 0 by
            unfold cutA
            split
            · omega
            · intro h
              have : Av = none := by cases hh : Av <;> simp_all
              have := hAv this
              omega)
          have A1 := Lib.hid hAv
          have ONE := Lib.hid (fun (l : List Nat) => show ∀ v ∈ l.map fv, v.oneCell' = true by intro v hv; simp only [List.mem_map] at hv; obtain ⟨y, -, rfl⟩ := hv; rfl)
          have cA : (w4.alloc (.cells #[] 26)).cell? (ad.add k) = some (.float .f64 x) := ((Turn.refl (fun _ => False) w4).alloc _).cell c4 (fun h => h)
          have HT4 := Lib.hid t4
          have hkn : (k : Int) < (n : Int) := by omega
          have M1 := Lib.hid (show 0 + q ≤ maxLen by unfold maxLen; omega)
          have M2 := Lib.hid (show 0 + q + 1 ≤ maxLen by unfold maxLen; omega)
          have M3 := Lib.hid (show 0 + q + 1 + (k - q) ≤ maxLen by unfold maxLen; omega)
          have Y1 := Lib.hid (show (0 + q) * 8 ≤ 140737488355328 by omega)
          have Y2 := Lib.hid (show (0 + q + 1) * 8 ≤ 140737488355328 by omega)
          have Y3 := Lib.hid (show (0 + q + 1 + (k - q)) * 8 ≤ 140737488355328 by omega)
          obtain ⟨avq, havq⟩ : ∃ avq, avq = cutA Av cv q := ⟨_, rfl⟩
          rw [← havq] at sl SRC2 A2
          clear hw4 t4 hp hs ho ht hsl hFl hcv hAv hx havq ck t1 t1'
          go_region_law (first
            | (refine step_append_any_at rfl (.tmp 30) (.tmp 33) 22 rfl w4.heap.size 26 i0 (.float .f64 0) 8 Try.underlying22 hi hz0 hz1 hz2 rfl _ 0 [] rfl (own_at (by first | exact heap_alloc_new _ _ | exact heap_alloc2_old _ _ _ | exact heap_alloc2_new _ _ _) (by simp <;> omega)) Av q cv ((F.take q).map fv) rfl A1.out N1.out (SRC1.out _ (by first | exact ((Turn.refl _ _).alloc _).drew | exact (((Turn.refl _ _).alloc _).alloc _).drew)) (ONE.out _) M1.out Y1.out (by simp <;> omega) ?_
               intro v1 w5 own1 gr1 at1
               have T5 := Lib.hid (show Turn (fun _ => False) w4 w5 from Turn.grown (by first | exact ((Turn.refl _ _).alloc _).drew | exact (((Turn.refl _ _).alloc _).alloc _).drew) gr1 (fun i hi e => by first | (have e' := Option.some.inj (show some i = some w4.heap.size from e); omega) | (have e' := Option.some.inj (show some i = some (w4.heap.size + 1) from e); omega)))
               have O1 := Lib.hid own1
               have GR1 := Lib.hid gr1
               have c5 := T5.out.cell c4 (fun h => h)
               clear own1 gr1 at1)
            | (refine step_append_any_at rfl (.tmp 34) (.tmp 39) 22 rfl w4.heap.size 26 i0 (.float .f64 0) 8 Try.underlying22 hi hz0 hz1 hz2 rfl v1 (0 + q) _ rfl (by first | exact O1.out | exact O1.out.alloc _) (some _) 1 1 [.float .f64 x] rfl (fun h => by cases h) rfl (news_at (by first | exact heap_alloc_new _ _ | exact (GR1.out.block _ (by simp <;> omega) (fun e => by first | (have e' := Option.some.inj (show some w4.heap.size = some (w4.heap.size + 1) from e); omega) | (have e' := Option.some.inj (show some (w4.heap.size + 1) = some w4.heap.size from e); omega))).trans (heap_alloc2_new _ _ _) | exact (GR1.out.block _ (by simp <;> omega) (fun e => by first | (have e' := Option.some.inj (show some w4.heap.size = some (w4.heap.size + 1) from e); omega) | (have e' := Option.some.inj (show some (w4.heap.size + 1) = some w4.heap.size from e); omega))).trans (heap_alloc2_old _ _ _))) (by intro u hu; simp at hu; subst hu; rfl) M2.out Y2.out (by have h5 := T5.out.size; simp; omega) ?_
               intro v2 w6 own2 gr2 at2
               have T6 := Lib.hid (show Turn (fun _ => False) w4 w6 from Turn.grown (by first | exact T5.out | exact T5.out.alloc _) gr2 (fun i hi e => by have h1 := (O1.out.lt i e.symm).1; omega))
               have O2 := Lib.hid own2
               clear own2 gr2 at2)
            | (refine step_append_any_at rfl (.tmp 40) (.tmp 43) 22 rfl w4.heap.size 26 i0 (.float .f64 0) 8 Try.underlying22 hi hz0 hz1 hz2 rfl v2 (0 + q + 1) _ rfl O2.out avq (k - q) (cv - q) ((F.drop q).map fv) rfl A2.out N2.out (SRC2.out _ T6.out) (ONE.out _) M3.out Y3.out (by have h5 := T6.out.size; omega) ?_
               intro v3 w7 own3 gr3 at3
               have T7 := Lib.hid (show Turn (fun _ => False) w4 w7 from Turn.grown T6.out gr3 (fun i hi e => by have h1 := (O2.out.lt i e.symm).1; omega))
               have O3 := Lib.hid own3
               clear own3 gr3 at3))
          all_goals
            go_wp2_with fail
            go_roundw
            case rel =>
              refine ⟨k + 1, F.take q ++ x :: F.drop q, by omega, by go_num, RES.out.1, RES.out.2, ?_, HTB.out.trans T7.out (fun _ _ h => h)⟩
              have h3 := own_more O3.out HTB.out.size
              have e1 : 0 + q + 1 + (k - q) = k + 1 := by omega
              have e2 : (F.take q ++ x :: F.drop q).map fv = [] ++ (F.take q).map fv ++ [Value.float .f64 x] ++ (F.drop q).map fv := by simp [fv]
              rw [e2, ← e1]; exact h3
            case measure => simp [intOf]; omega
    · obtain rfl : k = n := by omega
      have t0 : decide ((k : Int) < (k : Int)) = false := by rw [decide_eq_false_iff_not]; omega
      have HO := Lib.hid (And.intro hp (And.intro hs (And.intro ho ht)))
      clear hp hs ho ht hsl hFl hcv hAv
      go_wp2
      go_ret
      refine ⟨_, F, rfl, ?_, HO.out.2.1, HO.out.2.2.1, HO.out.2.2.2⟩
      have := HO.out.1
      rw [List.take_of_length_le (by rw [H.out.n]; omega)] at this
      exact this
end Go.Proofs.Ytbnplhdelpbfdaa
