/- The landed line: copied, Item. -/
import Derived.Test.YtgjplbanfnomkaaLnEX
set_option linter.unusedVariables false
set_option linter.unusedSimpArgs false
namespace Go.Proofs.Ytgjplbanfnomkaa
open Go.RowKit
set_option maxRecDepth 100000
theorem bt_own {w : World} {B n : Nat} {S : Option Addr} {c : Nat} {b : List B8} (h : w.ownsRow B 5 1 (.slice S n c) n (b.map bv)) (hn : b.length = n) : BtN w (Nu w) S c b := by
  obtain ⟨A, c', e, -, -, hc, ha⟩ := own_sl h
  injection e with e1 e2 e3
  subst e1 e3
  refine ⟨fun j u hu => ?_, ha, by omega⟩
  rcases h.2 with ⟨e, h0⟩ | ⟨g, cap, cur, e, hB, hg, -⟩
  · have hl := h.1
    have := (List.getElem?_eq_some_iff.1 hu).1
    omega
  · injection e with e1 e2 e3
    subst e1
    exact ⟨_, rfl, fun hq => hq ⟨cur, (0, 0), hg⟩, h.cells (g := g) rfl j u hu⟩
/-- An item with bytes of its own. -/
def CPost (p : Itm) (w : World) (r : Ending) (w' : World) : Prop := ∃ S c, r = .returned (itV p S c) ∧ w'.ownsRow w.heap.size 5 1 (.slice S p.b.length c) p.b.length (p.b.map bv) ∧ Turn (fun _ => False) w w'
theorem own_lessN {w : World} {base base' s n : Nat} {e : TypeId} {v : Value} {xs : List Value} (h : w.ownsRow base e s v n xs) (hb : base' ≤ base) : w.ownsRow base' e s v n xs := by
  obtain ⟨h1, h2⟩ := h
  refine ⟨h1, ?_⟩
  rcases h2 with h2 | ⟨g, c, cur, e, hg, r⟩
  · exact .inl h2
  · exact .inr ⟨g, c, cur, e, Nat.le_trans hb hg, r⟩
set_option maxHeartbeats 4000000 in
theorem lcopied_any (p : Itm) (S : Option Addr) (c : Nat) (N : Nat → Prop) (w : World) (hs : BtN w N S c p.b) (hm : p.b.length ≤ 1099511627776) : Calls Try.prog 37 #[itV p S c] w (CPost p w) := by
  unfold CPost
  obtain ⟨wr, hwr⟩ : ∃ wr, wr = (w.alloc (itO p S c)).alloc (.cells #[.int .i64 0, .slice none 0 0] 36) := ⟨_, rfl⟩
  have t0 : Turn (fun _ => False) w wr := by rw [hwr]; exact ((Turn.refl _ _).alloc _).alloc _
  have g0 : wr.heap[w.heap.size]? = some (.cells #[.int .i64 p.t, .slice S p.b.length c] 36 (0, 0)) := by rw [hwr]; exact heap_alloc2_old _ _ _
  have g1 : wr.heap[w.heap.size + 1]? = some (.cells #[.int .i64 0, .slice none 0 0] 36 (0, 0)) := by rw [hwr]; exact heap_alloc2_new _ _ _
  obtain ⟨W, hW⟩ : ∃ W, W = w.heap.size := ⟨_, rfl⟩
  rw [← hW] at g0 g1
  obtain ⟨⟨c0, c1⟩, -⟩ := ys_row g0
  have C0 := Lib.hid c0
  have C1 := Lib.hid c1
  have G1 := Lib.hid g1
  have HT0 := Lib.hid t0
  have HW := Lib.hid hW
  have HSZ := Lib.hid (show w.heap.size + 2 ≤ wr.heap.size by rw [hwr]; simp)
  have CL := Lib.hid (fun (w' : World) (t : Turn (fun _ => False) wr w') => clone_at S c p.b.length N p.b w' ((hs.quiet t0).quiet t).s rfl hs.a hs.c hm)
  obtain ⟨lb, hlb⟩ : ∃ n, n = p.b.length := ⟨_, rfl⟩
  obtain ⟨bs, hbs⟩ : ∃ l, l = p.b.map bv := ⟨_, rfl⟩
  rw [← hlb, ← hbs] at CL
  rw [← hlb] at C1
  rw [← hlb, ← hbs]
  have HLB := Lib.hid hlb
  clear t0 g0 g1 c0 c1 hs hm hlb hbs
  go_enter Try.func37, Try.ntmps37
  go_upto_region 1 with fail
  change Code.wp _ _ _ _ ((w.alloc (.cells #[.int .i64 p.t, .slice S p.b.length c] 36)).alloc (.cells #[.int .i64 0, .slice none 0 0] 36))
  rw [← hwr, ← hW]
  clear hwr hW
  have HWS := Lib.hid (fun (w' : World) (k : Stp wr.drew w') => show Turn (fun _ => False) wr w' from Turn.of_below (stp_start k (Below.refl _ _)))
  refine wp_region_rel_tail 5 9 (by kernel_rfl) (by kernel_rfl) Stp [.one ?_, .one ?_, .one ?_, .one ?_, .rel (fun v w => ∃ A7 c7, v = .slice A7 lb c7 ∧ w.ownsRow wr.heap.size 5 1 (.slice A7 lb c7) lb bs)] (by kernel_rfl) rfl (by kernel_rfl) Stp.refl Stp.trans ⟨fun v w w' h1 h2 => by { obtain ⟨A7, c7, e, h1⟩ := h1; exact ⟨A7, c7, e, own_below h1 h2⟩ }, trivial⟩ ?main
  case main =>
  simp only [List.take_succ_cons, List.take_zero, List.drop_succ_cons, List.drop_zero]
  iterate 1
    refine wpR_one (A' := ?_) Stp.refl (by rfl) _ rfl 9 (by rfl) (by rfl) ?_ ?_ ?_
    rotate_left 1
    · simp only [Act.put, List.setIfInBounds_toArray, List.set_cons_zero, List.set_cons_succ]; rfl
    · intro w1 hs hf K hK
      go_big_quiet_op
      first
        | go_big_quiet_on
        | (refine ⟨_, fun _ _ => rfl, ?_⟩; go_big_quiet_on)
      rfl
  refine wpR_one (A' := ?_) Stp.refl (by rfl) _ rfl 9 (by rfl) (by rfl) ?_ ?_ ?_
  rotate_left 1
  · simp only [Act.put, List.setIfInBounds_toArray, List.set_cons_zero, List.set_cons_succ]; rfl
  · intro w1 hs hf K hK
    refine cls_load_cell 3 (.tmp 3) rfl ⟨W, 0, none⟩ rfl (.int .i64 p.t) (fun w h => by simp [go_sem, h]) (fun w2 h2 => ((HWS.out w2 (Stp.trans _ _ _ hs h2)).cell C0.out (fun h => h))) ?_
    refine hK _ ?_
    simp only [Act.put, List.setIfInBounds_toArray, List.set_cons_zero, List.set_cons_succ]
    rfl
  iterate 1
    refine wpR_one (A' := ?_) Stp.refl (by rfl) _ rfl 9 (by rfl) (by rfl) ?_ ?_ ?_
    rotate_left 1
    · simp only [Act.put, List.setIfInBounds_toArray, List.set_cons_zero, List.set_cons_succ]; rfl
    · intro w1 hs hf K hK
      go_big_quiet_op
      first
        | go_big_quiet_on
        | (refine ⟨_, fun _ _ => rfl, ?_⟩; go_big_quiet_on)
      rfl
  refine wpR_one (A' := ?_) Stp.refl (by rfl) _ rfl 9 (by rfl) (by rfl) ?_ ?_ ?_
  rotate_left 1
  · simp only [Act.put, List.setIfInBounds_toArray, List.set_cons_zero, List.set_cons_succ]; rfl
  · intro w1 hs hf K hK
    refine cls_load_cell 34 (.tmp 5) rfl ⟨W, 1, none⟩ rfl (.slice S lb c) (fun w h => by simp [go_sem, h]) (fun w2 h2 => ((HWS.out w2 (Stp.trans _ _ _ hs h2)).cell C1.out (fun h => h))) ?_
    refine hK _ ?_
    simp only [Act.put, List.setIfInBounds_toArray, List.set_cons_zero, List.set_cons_succ]
    rfl
  refine wpR_rel (A' := ?_) (by rfl) ?_ ?_ ?_
  · intro w1 hs hf
    have hz : wr.heap.size ≤ w1.heap.size := Below.size (w := wr.drew) hs
    refine does_call (w' := w1) (f := 59) (args := #[.slice S lb c]) (by kernel_rfl) ((CL.out w1 (HWS.out w1 hs)).mono ?_)
    rintro e w3 ⟨v, rfl, ho, h3⟩
    obtain ⟨A7, c7, rfl, -⟩ := own_sl ho
    exact ⟨_, rfl, ⟨A7, c7, rfl, own_lessN ho hz⟩, turn_stp' h3⟩
  rotate_left 1
  · intro x
    simp only [Act.put, List.setIfInBounds_toArray, List.set_cons_zero, List.set_cons_succ]; rfl
  intro x7
  intro w9 hs9 hf9
  have T9 := Lib.hid (HWS.out w9 hs9)
  clear hs9 HWS
  obtain ⟨⟨A7, c7, rfl, h7⟩, -⟩ := hf9
  have HO := Lib.hid h7
  have HG9 := Lib.hid (T9.out.heap G1.out (fun h => h))
  clear h7
  obtain ⟨⟨d0, d1⟩, e0, e1⟩ := ys_row HG9.out
  go_wp2
  have h9 := ys_set (a' := .int .i64 p.t) (b' := .slice A7 lb c7) HG9.out
  have hne : ∀ g, (Value.slice A7 lb c7).ownBlock = some g → ¬ g = W + 1 := fun g hg e => by
    obtain ⟨cur, hc, hB⟩ := row_block HO.out hg
    have := HSZ.out
    have := HW.out
    omega
  refine bodyPost_ret (v := .agg #[.int .i64 p.t, .slice A7 lb c7]) ?_ rfl ?_
  · exact results_cell_row Try.results37 _ _ (W + 1) _ #[.int .i64 p.t, .slice A7 lb c7] (0, 0) _ rfl h9.1 Try.underlying36 rfl it_size
  · exact ⟨A7, c7, by rw [HLB.out], (own_lessN (own_turn2 h9.2 HO.out hne) (by have := HSZ.out; have := HW.out; have := T9.out.size; omega)), (HT0.out.trans T9.out (fun _ _ h => h)).trans h9.2 (fun i hi e => by have e : i = W + 1 := e; have := HW.out; omega)⟩
set_option maxHeartbeats 4000000 in
theorem litem_any (g : Nat) (v : Value) (x : Ln) (w : World) (h : Lat w g v x) (i : Int) : Calls Try.prog 48 #[.pointer (some ⟨g, 0, none⟩), .int .i64 i] w (HPost x i w) := by
  unfold HPost
  obtain ⟨w0, hw0⟩ : ∃ w0, w0 = w.alloc (.cells #[.int .i64 0, .slice none 0 0] 36) := ⟨_, rfl⟩
  have t0 : Turn (fun _ => False) w w0 := by rw [hw0]; exact (Turn.refl _ _).alloc _
  have g0 : w0.heap[w.heap.size]? = some (.cells #[.int .i64 0, .slice none 0 0] 36 (0, 0)) := by rw [hw0]; exact heap_alloc_new _ _
  have hlen : (x.itm i).b.length ≤ 8192 := by
    by_cases hi : x.b < i ∧ i ≤ x.last
    · obtain ⟨k, hk, p, hp, -, -⟩ := Ln.at_there h.ok hi.1 hi.2
      rw [Ln.itm_yes hi hk hp]
      exact (okIt_parts (h.ok.it p (List.mem_of_getElem? hp))).2.2
    · rw [Ln.itm_no hi]; simp
  have T := lhere_any g v x w0 (h.quiet t0) i
  unfold HPost at T
  have T := Lib.hid T
  have HG0 := Lib.hid g0
  have HT0 := Lib.hid t0
  have HL := Lib.hid hlen
  generalize x.itm i = p at *
  generalize x.hasB i = ok at *
  obtain ⟨W, hW⟩ : ∃ W, W = w.heap.size := ⟨_, rfl⟩
  rw [← hW] at HG0
  clear h g0 t0 hlen
  go_enter Try.func48, Try.ntmps48
  go_upto_region 1 with fail
  change Code.wp _ _ _ _ (w.alloc (.cells #[.int .i64 0, .slice none 0 0] 36))
  rw [← hw0, ← hW]
  have HWW := Lib.hid hW
  clear hw0 hW
  go_wp2_with (go_at_call 50; refine stop ?_)
  unfold Stop
  refine T.out.mono ?_
  rintro r w1 ⟨S, c, rfl, hs, hok, t1⟩
  have HT1 := Lib.hid (HT0.out.trans t1 (fun _ _ h => h))
  have HG1 := Lib.hid (t1.heap HG0.out (fun h => h))
  have HS1 := Lib.hid hs
  have HOK := Lib.hid hok
  clear hs hok t1 T HT0 HG0
  go_upto_region 2 with fail
  obtain ⟨w2, hw2⟩ : ∃ w2, w2 = w1.alloc (itO p S c) := ⟨_, rfl⟩
  have t2 : Turn (fun _ => False) w1 w2 := by rw [hw2]; exact (Turn.refl _ _).alloc _
  have g2 : w2.heap[w1.heap.size]? = some (.cells #[.int .i64 p.t, .slice S p.b.length c] 36 (0, 0)) := by rw [hw2]; exact heap_alloc_new _ _
  have HT2 := Lib.hid (HT1.out.trans t2 (fun _ _ h => h))
  have HG2 := Lib.hid (t2.heap HG1.out (fun h => h))
  have CP := lcopied_any p S c _ w2 (HS1.out.quiet t2) (by have := HL.out; omega)
  unfold CPost at CP
  have CP := Lib.hid CP
  change Code.wp _ _ _ _ (w1.alloc (itO p S c))
  rw [← hw2]
  clear hw2 HT1 HG1 t2
  generalize w1.heap.size = q at *
  obtain ⟨⟨d0, d1⟩, -⟩ := ys_row g2
  clear g2
  go_wp2_with (go_at_call 37; refine stop ?_)
  unfold Stop
  refine CP.out.mono ?_
  rintro r w3 ⟨S3, c3, rfl, ho3, t3⟩
  have HT3 := Lib.hid (HT2.out.trans t3 (fun _ _ h => h))
  have HG3 := Lib.hid (t3.heap HG2.out (fun h => h))
  have HO3 := Lib.hid (bt_own ho3 rfl)
  clear ho3 t3 CP HT2 HG2 d0 d1
  obtain ⟨⟨d0, d1⟩, e0, e1⟩ := ys_row HG3.out
  go_wp2
  have h9 := ys_set (a' := .int .i64 p.t) (b' := .slice S3 p.b.length c3) HG3.out
  refine bodyPost_ret (v := .tuple #[itV p S3 c3, .bool ok]) ?_ rfl ?_
  · exact results_it Try.results48 _ _ W _ _ rfl rfl h9.1 rfl
  · refine ⟨S3, c3, rfl, (HO3.out.turn h9.2 (fun i e => ?_) (fun _ _ h => h.elim)), HOK.out, HT3.out.trans h9.2 (fun i hi e => by have e : i = W := e; have := HWW.out; omega)⟩
    have e : i = W := e
    subst e
    rintro ⟨cs, m, e⟩
    rw [HG3.out] at e
    injection e with e
    injection e with _ e
    exact absurd e (by decide)
end Go.Proofs.Ytgjplbanfnomkaa
