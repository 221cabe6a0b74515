/- The contract of 'Check'. -/
import Derived.Test.YteaoaabjdgdcmaaTxH
set_option linter.unusedVariables false
set_option linter.unusedSimpArgs false
namespace Go.Proofs.Yteaoaabjdgdcmaa
open Go.RowKit
set_option maxRecDepth 100000 in
theorem zeroB_eq (l : List Nat) : decide (0 ∈ l) = zeroB l := by
  unfold zeroB
  rw [Bool.eq_iff_iff]
  simp
section
variable {w : World}
set_option maxRecDepth 100000 in
/-- Where there is no room a new block is made, and nothing turns. -/
theorem append_full (ty : TypeId) (base g n : Nat) (xs : List Value) (ho : w.ownsRow base 26 1 (.slice (some ⟨g, 0, none⟩) n n) n xs) (ad : Addr) (m c : Nat) (news : List Value) (hl : news.length = m)
    (hn : ∀ j u, news[j]? = some u → w.cell? (ad.add j) = some u) (hm : 0 < m) (hsm : n + m ≤ 1000001) (hbase : base ≤ w.heap.size) :
    ∃ v w', (Builtin.append_ #[60, 60] ty #[.slice (some ⟨g, 0, none⟩) n n, .slice (some ad) m c]).run Try.prog w = .ok v w' ∧ w'.ownsRow base 26 1 v (n + m) (xs ++ news) ∧ Below w.heap.size w w' := by
  obtain ⟨i, hi, hz, hs, hby⟩ := info_parts info_u64
  have holds : ∀ j u, xs[j]? = some u → w.cell? ((⟨g, 0, none⟩ : Addr).add j) = some u := ho.cells (g := g) rfl
  have hr := run_append_grow (P := Try.prog) w 60 ty 26 i (.int .u64 0) Try.underlying60 hi hz ⟨g, 0, none⟩ n n xs (by rw [hs]; exact ho.1) holds ad m c news (by rw [hs]; omega) hn (by omega) (by omega) (growslice_fits (by omega) (by rw [hby]; omega))
  have hge := grownCap_ge w (n + m) n 26
  have hcm := grownCap_le_maxLen w (n + m) n 26 (by unfold maxLen; omega)
  have h1 := ho.1
  have hlen : (xs ++ news).length = n + m := by rw [List.length_append]; omega
  refine ⟨_, _, hr, ⟨by omega, .inr ⟨w.heap.size, _, _, rfl, hbase, heap_alloc_new w.drew _, hge, hcm, ?_, ?_⟩⟩, ((Below.refl w.heap.size w).drew).alloc (Nat.le_refl _) _⟩
  · have hz32 : (Value.int .u64 0).cells.size = 1 := rfl
    simp only [Array.size_append, List.size_toArray, size_zeroCells, hz32]
    rw [← List.length_append, hlen]
    omega
  · simp only [Array.toList_append, List.append_assoc]
    rw [← List.append_assoc, Nat.mul_one, ← hlen]
    exact List.take_left
set_option maxRecDepth 100000 in
theorem wpList_append_full {ops : Array Oper} {rest : List Oper} {o : Oper} {a : Act} {Q : Exit → Act → World → Prop} (hgd : o.guard = none) (s x : Operand)
    (ho : o.op = .call { callee := .builtin .append, args := #[s, x], argTypes := #[60, 60] }) (base g n : Nat) (xs : List Value) (hs : a.eval s = .slice (some ⟨g, 0, none⟩) n n)
    (hown : w.ownsRow base 26 1 (.slice (some ⟨g, 0, none⟩) n n) n xs) (ad : Addr) (m c : Nat) (news : List Value) (hx : a.eval x = .slice (some ad) m c) (hl : news.length = m)
    (hn : ∀ j u, news[j]? = some u → w.cell? (ad.add j) = some u) (hm : 0 < m) (hsm : n + m ≤ 1000001) (hbase : base ≤ w.heap.size)
    (h : ∀ v' w', w'.ownsRow base 26 1 v' (n + m) (xs ++ news) → Below w.heap.size w w' → wpList Try.prog ops Q rest (a.put o.dst v') w') : wpList Try.prog ops Q (o :: rest) a w := by
  obtain ⟨v', w', hr, h2, h3⟩ := append_full o.type base g n xs hown ad m c news hl hn hm hsm hbase
  refine wpList_plain hgd fun K hK => ?_
  unfold Oper.wp execOp
  simp only [ho, resolve, invoke, builtin, Sem.run_bind, Sem.run_pure, Result.andThen_ok, List.map_toArray, List.map_cons, List.map_nil, hs, hx, hr]
  exact hK _ _ (h v' w' h2 h3)
end
set_option maxRecDepth 100000 in
theorem cls_load_cell {P : Program} {C : World → Prop} {o : Oper} {a : Act} {K : Act → Prop} (ty : TypeId) (x : Operand) (ho : o.op = .load ty x) (ad : Addr) (hx : a.eval x = .pointer (some ad)) (v : Value) (hr : ∀ w, w.cell? ad = some v → (Instr.loadAt ty (.pointer (some ad))).run P w = .ok v w)
    (hS : ∀ w, C w → w.cell? ad = some v) (hK : K (a.put o.dst v)) : o.quiet P a C K :=
  ⟨_, fun w hw => by
    unfold Oper.quietAt execOp
    simp only [ho, hx, Sem.run_bind, hr w (hS w hw), Result.andThen_ok, Sem.run_pure, Oper.quietUpon, and_self], hK⟩
def RowF (B n : Nat) (xs : List Value) (v : Value) (w : World) : Prop := ∃ g, v = .slice (some ⟨g, 0, none⟩) n n ∧ w.ownsRow B 26 1 v n xs
set_option maxRecDepth 100000 in
theorem RowF.stable {B n : Nat} {xs : List Value} (v : Value) (w w' : World) (h : RowF B n xs v w) (hs : Stp w w') : RowF B n xs v w' := by
  obtain ⟨g, e, ho⟩ := h
  exact ⟨g, e, own_below ho hs⟩
set_option maxRecDepth 100000 in
theorem RowF.sl {B n : Nat} {xs : List Value} {v : Value} {w : World} (h : RowF B n xs v w) : ∃ g, v = .slice (some ⟨g, 0, none⟩) n n ∧ Sl w w.heap.size (some ⟨g, 0, none⟩) xs := by
  obtain ⟨g, rfl, ho⟩ := h
  obtain ⟨A, c, e, hs, -⟩ := own_sl ho
  injection e with e1 e2 e3; subst e1
  exact ⟨g, rfl, hs⟩
set_option maxRecDepth 100000 in
theorem turn_stp {w w' : World} (h : Turn (fun _ => False) w w') : Stp w w' := h.below (fun _ _ h => h.elim) (Nat.le_refl _)
set_option maxRecDepth 100000 in
theorem u64s_lt {l : List Pin} (h : ∀ p ∈ l, p.n < 18446744073709551616) : ∀ x ∈ insN l, x < 18446744073709551616 := by
  intro x hx
  simp only [insN, List.mem_map] at hx
  obtain ⟨p, hp, rfl⟩ := hx
  exact h p hp
set_option maxRecDepth 100000 in
theorem InsAt.oks {w : World} {B : Nat} {A : Option Addr} {l : List Pin} (h : InsAt w B A l) : ∀ p ∈ l, p.ok := fun p hp => by
  obtain ⟨i, hi⟩ := List.getElem?_of_mem hp
  exact (h i p hi).1
set_option maxRecDepth 100000 in
theorem OutsAt.oks {w : World} {B : Nat} {A : Option Addr} {l : List Pout} (h : OutsAt w B A l) : ∀ p ∈ l, p.ok := fun p hp => by
  obtain ⟨i, hi⟩ := List.getElem?_of_mem hp
  exact (h i p hi).1
set_option maxRecDepth 100000 in
theorem within_len {t : Ptx} (h : withinB t = true) : t.ins.length ≤ 16 ∧ t.outs.length ≤ 16 := by
  unfold withinB at h
  simp at h
  omega
set_option maxRecDepth 100000 in
theorem insN_len (l : List Pin) : (insN l).length = l.length := by simp [insN]
set_option maxRecDepth 100000 in
theorem outsN_len (l : List Pout) : (outsN l).length = l.length := by simp [outsN]
set_option maxRecDepth 100000 in
set_option maxHeartbeats 4000000 in
theorem check_any (Ai Ao : Option Addr) (ci co B : Nat) (t : Ptx) (w : World) (h : TxAt w B Ai ci Ao co t) :
    Calls Try.prog 8 #[txV Ai ci Ao co t] w fun e w' => e = .returned (.int .i64 ((chk t : Nat) : Int)) ∧ Turn (fun _ => False) w w' := by
  obtain ⟨i0, hi, hz0, hz1, hz2⟩ := info_parts info_u64
  obtain ⟨w0, hw0⟩ : ∃ w0, w0 = w.alloc (.cells #[.slice Ai t.ins.length ci, .slice Ao t.outs.length co, .int .u64 (t.fee : Int), .int .i64 t.exp] 28) := ⟨_, rfl⟩
  have hT0 : Turn (fun _ => False) w w0 := by rw [hw0]; exact (Turn.refl _ _).alloc _
  have hg0 : w0.heap[w.heap.size]? = some (.cells #[.slice Ai t.ins.length ci, .slice Ao t.outs.length co, .int .u64 (t.fee : Int), .int .i64 t.exp] 28 (0, 0)) := by rw [hw0]; exact heap_alloc_new _ _
  have CF := Lib.hid (show ∀ w', Turn (fun _ => False) w0 w' → w'.cell? ⟨w.heap.size, 0, none⟩ = some (.slice Ai t.ins.length ci) ∧ w'.cell? ⟨w.heap.size, 1, none⟩ = some (.slice Ao t.outs.length co) ∧ w'.cell? ⟨w.heap.size, 2, none⟩ = some (.int .u64 (t.fee : Int)) ∧ w'.cell? ⟨w.heap.size, 3, none⟩ = some (.int .i64 t.exp) from fun w' k => by
    have g := k.heap hg0 (fun h => h)
    refine ⟨?_, ?_, ?_, ?_⟩ <;> rw [cell_of_row _ _ _ _ _ _ g] <;> rfl)
  obtain ⟨c0, c1, c2, c3⟩ := CF.out _ (Turn.refl _ _)
  have HW := Lib.hid (fun w' k => within_any Ai Ao ci co B t w' (h.turn (hT0.trans k (fun _ _ h => h)) (fun _ _ h => h)))
  have HTW := Lib.hid (fun w' k => twice_any B Ai ci t.ins w' (h.ins.turn (hT0.trans k (fun _ _ h => h)) (fun _ _ h => h)) h.ic h.im)
  obtain ⟨z, hz⟩ : ∃ z, z = chk t := ⟨_, rfl⟩
  rw [← hz]
  unfold chk at hz
  have HX := Lib.hid hz
  clear hz
  have him := h.im
  have hom := h.om
  unfold maxLen at him hom
  have HT0 := Lib.hid hT0
  have HH := Lib.hid h
  have hfee := h.fee
  unfold txV at HW ⊢
  clear h hT0 hg0
  cases hwi : withinB t
  · rw [hwi] at HW HX
    have HZ := Lib.hid (show (4 : Int) = (z : Int) by rw [HX.out]; rfl)
    clear hwi HX
    go_enter Try.func8, Try.ntmps8
    go_upto_region 1 with fail
    change Code.wp _ _ _ _ (w.alloc (.cells #[.slice Ai t.ins.length ci, .slice Ao t.outs.length co, .int .u64 (t.fee : Int), .int .i64 t.exp] 28))
    rw [← hw0]
    clear hw0
    go_wp2_with (go_at_call 20; refine (HW.out _ (Turn.refl _ _)).mono ?_; rintro r w1 ⟨rfl, t1⟩)
    go_ret
    exact ⟨ret_int HZ.out, HT0.out.trans t1 (fun _ _ h => h)⟩
  · obtain ⟨hil, hol⟩ := within_len hwi
    rw [hwi] at HW HX
    clear hwi
    cases htw : twiceB t.ins
    · rw [htw] at HTW HX
      clear htw
      have HI := Lib.hid (fun w' k => insAmounts_any B Ai ci t.ins w' (HH.out.ins.turn (HT0.out.trans k (fun _ _ h => h)) (fun _ _ h => h)) (by omega))
      have HO := Lib.hid (fun w' k => outsAmounts_any B Ao co t.outs w' (HH.out.outs.turn (HT0.out.trans k (fun _ _ h => h)) (fun _ _ h => h)) (by omega))
      have HL1 := Lib.hid (u64s_lt fun p hp => (HH.out.ins.oks p hp).n)
      have HL2 := Lib.hid (show ∀ x ∈ outsN t.outs ++ [t.fee], x < 18446744073709551616 from fun x hx => by
        rcases List.mem_append.1 hx with hx | hx
        · simp only [outsN, List.mem_map] at hx
          obtain ⟨p, hp, rfl⟩ := hx
          exact (HH.out.outs.oks p hp).n
        · simp at hx; omega)
      have HN1 := Lib.hid (insN_len t.ins)
      have HN2 := Lib.hid (outsN_len t.outs)
      have Z1 := Lib.hid (zeroB_eq (insN t.ins))
      have Z2 := Lib.hid (zeroB_eq (outsN t.outs))
      go_enter Try.func8, Try.ntmps8
      go_upto_region 1 with fail
      change Code.wp _ _ _ _ (w.alloc (.cells #[.slice Ai t.ins.length ci, .slice Ao t.outs.length co, .int .u64 (t.fee : Int), .int .i64 t.exp] 28))
      rw [← hw0]
      clear hw0
      go_wp2_with (first
        | (go_at_call 20; refine (HW.out _ (Turn.refl _ _)).mono ?_; rintro r w1 ⟨rfl, t1⟩; have HT1 := Lib.hid t1; clear c0 c1 c2 c3; obtain ⟨c0, c1, c2, c3⟩ := CF.out _ t1; clear t1)
        | (go_at_call 21; refine (HTW.out _ HT1.out).mono ?_; rintro r w2 ⟨rfl, t2⟩; have HT2 := Lib.hid (HT1.out.trans t2 (fun _ _ h => h)); clear c0 c1 c2 c3; obtain ⟨c0, c1, c2, c3⟩ := CF.out _ HT2.out; clear t2))
      have HT3 := Lib.hid (show Turn (fun _ => False) w0 w2.drew from HT2.out.drew)
      have hcf : ∀ w', Stp w2.drew w' → w'.cell? ⟨w.heap.size, 0, none⟩ = some (.slice Ai t.ins.length ci) ∧ w'.cell? ⟨w.heap.size, 1, none⟩ = some (.slice Ao t.outs.length co) := fun w' k => ⟨(CF.out w' (HT3.out.trans (Turn.of_below k) (fun _ _ h => h))).1, (CF.out w' (HT3.out.trans (Turn.of_below k) (fun _ _ h => h))).2.1⟩
      have HCF := Lib.hid hcf
      clear hcf
      refine wp_region_rel_tail 6 30 (by kernel_rfl) (by kernel_rfl) Stp [.one ?_, .one ?_, .rel (RowF w2.heap.size t.ins.length (u64s (insN t.ins))), .one ?_, .one ?_, .rel (RowF w2.heap.size t.outs.length (u64s (outsN t.outs)))] (by kernel_rfl) rfl (by kernel_rfl) Stp.refl Stp.trans ⟨RowF.stable, RowF.stable, trivial⟩ ?main
      case main =>
      simp only [List.take_succ_cons, List.take_zero, List.drop_succ_cons, List.drop_zero]
      iterate 1
        refine wpR_one (A' := ?_) Stp.refl (by rfl) _ rfl 30 (by rfl) (by rfl) ?_ ?_ ?_
        rotate_left 1
        · simp only [Act.put, List.setIfInBounds_toArray, List.set_cons_zero, List.set_cons_succ]; rfl
        · intro w1 hs hf K hK
          go_big_quiet_op
          first
            | go_big_quiet_on
            | (refine ⟨_, fun _ _ => rfl, ?_⟩; go_big_quiet_on)
          rfl
      refine wpR_one (A' := ?_) Stp.refl (by rfl) _ rfl 30 (by rfl) (by rfl) ?_ ?_ ?_
      rotate_left 1
      · simp only [Act.put, List.setIfInBounds_toArray, List.set_cons_zero, List.set_cons_succ]; rfl
      · intro w1 hs hf K hK
        refine cls_load_cell 24 (.tmp 11) rfl ⟨w.heap.size, 0, none⟩ rfl (.slice Ai t.ins.length ci) (fun w h => by simp [go_sem, h]) (fun w2 h2 => (HCF.out w2 (Stp.trans _ _ _ hs h2)).1) ?_
        refine hK _ ?_
        simp only [Act.put, List.setIfInBounds_toArray, List.set_cons_zero, List.set_cons_succ]
        rfl
      refine wpR_rel (A' := ?_) (by rfl) ?_ ?_ ?_
      · intro w1 hs hf
        have k1 := HT3.out.trans (Turn.of_below hs) (fun _ _ h => h)
        refine does_call (w' := w1) (f := 22) (args := #[.slice Ai t.ins.length ci]) (by kernel_rfl) ((HI.out w1 k1).mono ?_)
        rintro e w3 ⟨rfl, ho, h3⟩
        exact ⟨_, rfl, ⟨_, rfl, own_more ho (show w2.drew.heap.size ≤ w1.heap.size from Below.size hs)⟩, turn_stp h3⟩
      rotate_left 1
      · intro x
        simp only [Act.put, List.setIfInBounds_toArray, List.set_cons_zero, List.set_cons_succ]; rfl
      intro x13
      iterate 1
        refine wpR_one (A' := ?_) Stp.refl (by rfl) _ rfl 30 (by rfl) (by rfl) ?_ ?_ ?_
        rotate_left 1
        · simp only [Act.put, List.setIfInBounds_toArray, List.set_cons_zero, List.set_cons_succ]; rfl
        · intro w1 hs hf K hK
          go_big_quiet_op
          first
            | go_big_quiet_on
            | (refine ⟨_, fun _ _ => rfl, ?_⟩; go_big_quiet_on)
          rfl
      refine wpR_one (A' := ?_) Stp.refl (by rfl) _ rfl 30 (by rfl) (by rfl) ?_ ?_ ?_
      rotate_left 1
      · simp only [Act.put, List.setIfInBounds_toArray, List.set_cons_zero, List.set_cons_succ]; rfl
      · intro w1 hs hf K hK
        refine cls_load_cell 25 (.tmp 14) rfl ⟨w.heap.size, 1, none⟩ rfl (.slice Ao t.outs.length co) (fun w h => by simp [go_sem, h]) (fun w2 h2 => (HCF.out w2 (Stp.trans _ _ _ hs h2)).2) ?_
        refine hK _ ?_
        simp only [Act.put, List.setIfInBounds_toArray, List.set_cons_zero, List.set_cons_succ]
        rfl
      refine wpR_rel (A' := ?_) (by rfl) ?_ ?_ ?_
      · intro w1 hs hf
        have k1 := HT3.out.trans (Turn.of_below hs) (fun _ _ h => h)
        refine does_call (w' := w1) (f := 23) (args := #[.slice Ao t.outs.length co]) (by kernel_rfl) ((HO.out w1 k1).mono ?_)
        rintro e w3 ⟨rfl, ho, h3⟩
        exact ⟨_, rfl, ⟨_, rfl, own_more ho (show w2.drew.heap.size ≤ w1.heap.size from Below.size hs)⟩, turn_stp h3⟩
      rotate_left 1
      · intro x
        simp only [Act.put, List.setIfInBounds_toArray, List.set_cons_zero, List.set_cons_succ]; rfl
      intro x16
      intro w9 hs hf
      obtain ⟨hr2, hr1, -⟩ := hf
      have HT9 := Lib.hid (HT3.out.trans (Turn.of_below hs) (fun _ _ h => h))
      clear c0 c1 c2 c3
      obtain ⟨c0, c1, c2, c3⟩ := CF.out _ HT9.out
      have hb9 : w2.heap.size ≤ w9.heap.size := (show w2.drew.heap.size ≤ w9.heap.size from Below.size hs)
      obtain ⟨g1, rfl, s1⟩ := hr1.sl
      obtain ⟨g2, rfl, s2⟩ := hr2.sl
      obtain ⟨g2', e2, ho2⟩ := hr2
      injection e2 with e2 e2' e2''
      injection e2 with e2
      injection e2 with e2
      subst e2
      have C1 := contains_any 0 (some ⟨g1, 0, none⟩) t.ins.length w9.heap.size (insN t.ins) w9 s1 (by rw [HN1.out]; unfold maxLen; omega)
      rw [HN1.out, Z1.out] at C1
      have C2 := contains_any 0 (some ⟨g2, 0, none⟩) t.outs.length w9.heap.size (outsN t.outs) w9 s2 (by rw [HN2.out]; unfold maxLen; omega)
      rw [HN2.out, Z2.out] at C2
      change Calls _ _ #[_, .int .u64 0] _ _ at C1
      change Calls _ _ #[_, .int .u64 0] _ _ at C2
      have HS1 := Lib.hid s1
      have HO2 := Lib.hid ho2
      clear hr1 s1 s2 ho2 hs e2' e2''
      cases hz1 : zeroB (insN t.ins)
      · rw [hz1] at C1 HX
        cases hz2 : zeroB (outsN t.outs)
        · rw [hz2] at C2 HX
          have HC1 := Lib.hid C1
          have HC2 := Lib.hid C2
          have HZ := Lib.hid (show ((balE (insN t.ins) (outsN t.outs ++ [t.fee]) : Nat) : Int) = (z : Int) by rw [HX.out]; rfl)
          clear hz1 hz2 C1 C2 HX
          go_wp2_with (first
            | (at_builtin; refine stop ?_)
            | (go_at_call 24; refine HC1.out.mono ?_; rintro r w' ⟨rfl, rfl⟩)
            | (go_at_call 24; refine HC2.out.mono ?_; rintro r w' ⟨rfl, rfl⟩))
          unfold Stop
          refine wpList_append_full (o := ⟨some 28, _, _, _, _, _⟩) rfl _ _ rfl w2.heap.size g2 t.outs.length (u64s (outsN t.outs)) rfl (HO2.out.alloc _) ⟨w9.heap.size, 0, none⟩ 1 1 [.int .u64 (t.fee : Int)] rfl rfl (World.news_of_block (heap_alloc_new w9 (.cells #[.int .u64 (t.fee : Int)] 26))) (by omega) (by omega) (by simp; omega) ?_
          intro v5 w5 own5 bl5
          obtain ⟨A5, c5, rfl, s5, -⟩ := own_sl own5
          have ha9 : Below w9.heap.size w9 (w9.alloc (.cells #[.int .u64 (t.fee : Int)] 26)) := (Below.refl _ _).alloc (Nat.le_refl _) _
          have hb5 := ha9.trans (bl5.mono ha9.size)
          have CB := Lib.hid (balance_any (some ⟨g1, 0, none⟩) A5 t.ins.length c5 w9.heap.size w5.heap.size (insN t.ins) (outsN t.outs ++ [t.fee]) t.ins.length (t.outs.length + 1) w5 (HS1.out.below hb5) (by unfold u64s; rw [List.map_append]; exact s5) (by rw [HN1.out]; unfold maxLen; omega) (by rw [List.length_append, HN2.out]; unfold maxLen; simp; omega) HN1.out (by rw [List.length_append, HN2.out]; rfl) HL1.out HL2.out)
          have HT5 := Lib.hid (HT0.out.trans (HT9.out.trans (Turn.of_below hb5) (fun _ _ h => h)) (fun _ _ h => h))
          clear own5 bl5 s5 ha9 hb5
          go_wp2_with fail
          refine CB.out.mono ?_
          rintro r w6 ⟨rfl, rfl⟩
          go_wp2
          go_ret
          exact ⟨ret_int HZ.out, HT5.out⟩
        · rw [hz2] at C2 HX
          have HC1 := Lib.hid C1
          have HC2 := Lib.hid C2
          have HZ := Lib.hid (show (8 : Int) = (z : Int) by rw [HX.out]; rfl)
          clear hz1 hz2 C1 C2 HX
          go_wp2_with (first
            | (go_at_call 24; refine HC1.out.mono ?_; rintro r w' ⟨rfl, rfl⟩)
            | (go_at_call 24; refine HC2.out.mono ?_; rintro r w' ⟨rfl, rfl⟩))
          go_ret
          exact ⟨ret_int HZ.out, HT0.out.trans HT9.out (fun _ _ h => h)⟩
      · rw [hz1] at C1 HX
        have HC1 := Lib.hid C1
        have HZ := Lib.hid (show (8 : Int) = (z : Int) by rw [HX.out]; rfl)
        clear hz1 C1 C2 HX
        go_wp2_with (first
          | (go_at_call 24; refine HC1.out.mono ?_; rintro r w' ⟨rfl, rfl⟩))
        go_ret
        exact ⟨ret_int HZ.out, HT0.out.trans HT9.out (fun _ _ h => h)⟩
    · rw [htw] at HTW HX
      have HZ := Lib.hid (show (7 : Int) = (z : Int) by rw [HX.out]; rfl)
      clear htw HX
      go_enter Try.func8, Try.ntmps8
      go_upto_region 1 with fail
      change Code.wp _ _ _ _ (w.alloc (.cells #[.slice Ai t.ins.length ci, .slice Ao t.outs.length co, .int .u64 (t.fee : Int), .int .i64 t.exp] 28))
      rw [← hw0]
      clear hw0
      go_wp2_with (first
        | (go_at_call 20; refine (HW.out _ (Turn.refl _ _)).mono ?_; rintro r w1 ⟨rfl, t1⟩; have HT1 := Lib.hid t1; clear c0 c1 c2 c3; obtain ⟨c0, c1, c2, c3⟩ := CF.out _ t1; clear t1)
        | (go_at_call 21; refine (HTW.out _ HT1.out).mono ?_; rintro r w2 ⟨rfl, t2⟩; have HT2 := Lib.hid (HT1.out.trans t2 (fun _ _ h => h)); clear t2))
      go_ret
      exact ⟨ret_int HZ.out, HT0.out.trans HT2.out (fun _ _ h => h)⟩
end Go.Proofs.Yteaoaabjdgdcmaa
