/- The document's example. -/
import Derived.Test.YtnhakcmnpmlopaaDoorTgI
set_option linter.unusedVariables false
namespace Go.Proofs.YtnhakcmnpmlopaaDoor
open Go.RowKit
attribute [local go_sem ↓] loadAt_id
attribute [local go_sem] rowOf_drew rowOf_drewN run_idLoad
theorem neq_id (a b : List B8) (ha : a.length = 32) (hb : b.length = 32) (w : World) : (binOp .neq 24 (.agg (a.map bv).toArray) (.agg (b.map bv).toArray)).run Tryd.prog w = .ok (.bool (!decide (a = b))) w := by
  have h := eq_id a b ha hb w
  have e : (Op.equal 24 (.agg (a.map bv).toArray) (.agg (b.map bv).toArray)).run Tryd.prog w = .ok (decide (a = b)) w := h
  simp only [binOp, Sem.run_bind, e, Result.andThen_ok, Sem.run_pure]
theorem row_below {w w' : World} {g : Nat} {C : Array Value} {t : TypeId} (hb : Below w.heap.size w w') (h : w.heap[g]? = some (.cells C t (0, 0))) : w'.heap[g]? = some (.cells C t (0, 0)) := heap_below hb h
set_option maxRecDepth 100000 in
set_option maxHeartbeats 4000000 in
theorem awake_any (w : World) (hG : Glob w) : Calls Tryd.prog 7 #[] w fun e w' => e = .returned (.bool true) ∧ Below w.heap.size w w' := by
  have HG := Lib.hid hG
  clear hG
  obtain ⟨A0, hA0⟩ : ∃ X, X = signD [1] 0 [5] := ⟨_, rfl⟩
  obtain ⟨A1, hA1⟩ : ∃ X, X = signD [1] 1 [5] := ⟨_, rfl⟩
  have hne : decide (A0 = A1) = false := by rw [hA0, hA1]; exact awake_ne
  have hne' : decide (A1 = A0) = false := by
    rw [decide_eq_false_iff_not] at hne ⊢; exact fun e => hne e.symm
  have l0 : A0.length = 32 := by rw [hA0]; exact signD_len _ _ _
  have l1 : A1.length = 32 := by rw [hA1]; exact signD_len _ _ _
  obtain ⟨C0, hC0⟩ : ∃ C, C = (A0.map bv).toArray := ⟨_, rfl⟩
  obtain ⟨C1, hC1⟩ : ∃ C, C = (A1.map bv).toArray := ⟨_, rfl⟩
  have q1 : ∀ w, (binOp .neq 24 (.agg C0) (.agg C1)).run Tryd.prog w = .ok (.bool true) w := fun w => by rw [hC0, hC1, neq_id A0 A1 l0 l1 w, hne]; rfl
  have s0 : C0.size = 32 := by rw [hC0]; simp [l0]
  have s1 : C1.size = 32 := by rw [hC1]; simp [l1]
  have X3 := Lib.hid (show C0.all (·.oneCell') = true by rw [hC0]; exact bvs_one _)
  have X1 := Lib.hid (show (Tryd.prog.info? 24).map (·.size) = some C0.size by rw [s0]; kernel_rfl)
  have X2 := Lib.hid (show ZId.size = C0.size by rw [s0]; rfl)
  have Y3 := Lib.hid (show C1.all (·.oneCell') = true by rw [hC1]; exact bvs_one _)
  have Y1 := Lib.hid (show (Tryd.prog.info? 24).map (·.size) = some C1.size by rw [s1]; kernel_rfl)
  have Y2 := Lib.hid (show ZId.size = C1.size by rw [s1]; rfl)
  have K := Lib.hid (fun g (w : World) hK hG => keys_some (some ⟨g, 0, none⟩) 1 2 [1] w hK (by decide) hG (by decide) (by decide) (by decide))
  have L := Lib.hid (fun gr gk (w : World) hR => len_any gr gk 2 [1] w hR)
  have S0 := Lib.hid (fun gr gk g (w : World) hR hB hG => sign_some gr gk 2 0 [1] [5] (some ⟨g, 0, none⟩) 1 w hR (by decide) (by decide) hB (by decide) hG (by decide))
  have S1 := Lib.hid (fun gr gk g (w : World) hR hB hG => sign_some gr gk 2 1 [1] [5] (some ⟨g, 0, none⟩) 1 w hR (by decide) (by decide) hB (by decide) hG (by decide))
  have I0 := Lib.hid (fun gr gk g (w : World) hR hB hG => ringIs_some gr gk 2 0 [1] [5] A0 (some ⟨g, 0, none⟩) 1 w hR (by decide) (by decide) hB (by decide) hG (by decide) l0)
  have I1 := Lib.hid (fun gr gk g (w : World) hR hB hG => ringIs_some gr gk 2 1 [1] [5] A0 (some ⟨g, 0, none⟩) 1 w hR (by decide) (by decide) hB (by decide) hG (by decide) l0)
  rw [← hA0, show signV (some A0) = .tuple #[.agg C0, .bool true] by rw [hC0]; rfl] at S0
  rw [← hA1, show signV (some A1) = .tuple #[.agg C1, .bool true] by rw [hC1]; rfl] at S1
  rw [← hA0, show decide (A0 = A0) = true by simp, ← hC0] at I0
  rw [← hA1, hne', ← hC0] at I1
  have HL0 := Lib.hid l0
  have HC0 := Lib.hid hC0
  have HL1 := Lib.hid l1
  have HC1 := Lib.hid hC1
  clear hA0 hA1 hne hne' l0 l1 hC0 hC1 s0 s1
  obtain ⟨w1, hw1⟩ : ∃ w1, w1 = w.alloc (.cells #[.int .u8 1] 5) := ⟨_, rfl⟩
  have hb1 : Below w.heap.size w w1 := by rw [hw1]; exact (Below.refl _ _).alloc (Nat.le_refl _) _
  have hx1 : Bts w1 (some ⟨w.heap.size, 0, none⟩) [1] := by rw [hw1]; exact bts_one w 1 _ rfl _
  go_enter Tryd.func7, Tryd.ntmps7
  go_wp2_with (go_at_call 11; refine stop ?_)
  unfold Stop
  change Calls _ _ _ (w.alloc (.cells #[.int .u8 1] 5)) _
  rw [← hw1]
  clear hw1
  refine (K.out _ w1 hx1 (glob_below HG.out hb1 (Nat.le_refl _))).mono ?_
  rintro e w2 ⟨gr, gk, rfl, hR2, hb2⟩
  have hb12 := hb1.trans (hb2.mono hb1.size)
  have HR2 := Lib.hid hR2
  have HB2 := Lib.hid hb12
  have HG2 := Lib.hid (glob_below HG.out hb12 (Nat.le_refl _))
  have L2 := Lib.hid (L.out gr gk w2 hR2)
  clear hb1 hx1 hR2 hb2 hb12 K L HG
  unfold ringV at L2 S0 S1 I0 I1 ⊢
  go_wp2_with (first
    | (go_at_call 13; refine L2.out.mono ?_; rintro e wx ⟨rfl, hwx⟩; rw [hwx]; clear hwx wx)
    | (go_at_call 12; refine stop ?_))
  unfold Stop
  have hb3 : Below w2.heap.size w2 (w2.alloc (.cells #[.int .u8 5] 5)) := (Below.refl _ _).alloc (Nat.le_refl _) _
  refine (S0.out gr gk w2.heap.size _ (HR2.out.below hb3) (bts_one w2 5 _ rfl _) (glob_below HG2.out hb3 (Nat.le_refl _))).mono ?_
  rintro e w3 ⟨rfl, hb3'⟩
  have hb23 : Below w2.heap.size w2 w3 := hb3.trans (hb3'.mono hb3.size)
  have hba : Below w3.heap.size w3 (w3.alloc (.cells ZId 24)) := (Below.refl _ _).alloc (Nat.le_refl _) _
  have HZ3 := Lib.hid (show (w3.alloc (.cells ZId 24)).heap[w3.heap.size]? = some (.cells ZId 24 (0, 0)) from heap_alloc_new _ _)
  have HB24 := Lib.hid (below_setRow (hb23.trans (hba.mono hb23.size)) hb23.size C0)
  clear hb3 hb3' hb23 hba S0
  go_wp2_with (refine wpList_store_row rfl _ _ _ rfl w3.heap.size C0 rfl rfl _ ZId HZ3.out X1.out X2.out X3.out ?_; refine stop ?_)
  unfold Stop
  obtain ⟨w4, hw4⟩ : ∃ w4, w4 = (w3.alloc (.cells ZId 24)).setRow w3.heap.size C0 := ⟨_, rfl⟩
  change wpList _ _ _ _ _ ((w3.alloc (.cells ZId 24)).setRow w3.heap.size C0)
  rw [← hw4] at HB24 ⊢
  have HD4 := Lib.hid (show w4.heap[w3.heap.size]? = some (.cells (A0.map bv).toArray 24 (0, 0)) by rw [hw4, ← HC0.out]; exact setRow_heap _ w3.heap.size ZId C0 _ _ HZ3.out)
  have HR4 := Lib.hid (HR2.out.below HB24.out)
  have HG4 := Lib.hid (glob_below HG2.out HB24.out (Nat.le_refl _))
  have HB4 := Lib.hid (HB2.out.trans (HB24.out.mono HB2.out.size))
  clear hw4 HZ3 HB24 HR2 HG2 HB2 L2
  go_wp2_with (go_at_call 12; refine stop ?_)
  unfold Stop
  have hb3 : Below w4.heap.size w4 (w4.alloc (.cells #[.int .u8 5] 5)) := (Below.refl _ _).alloc (Nat.le_refl _) _
  refine (S1.out gr gk w4.heap.size _ (HR4.out.below hb3) (bts_one w4 5 _ rfl _) (glob_below HG4.out hb3 (Nat.le_refl _))).mono ?_
  rintro e w5 ⟨rfl, hb3'⟩
  have hb23 : Below w4.heap.size w4 w5 := hb3.trans (hb3'.mono hb3.size)
  have hba : Below w5.heap.size w5 (w5.alloc (.cells ZId 24)) := (Below.refl _ _).alloc (Nat.le_refl _) _
  have HZ5 := Lib.hid (show (w5.alloc (.cells ZId 24)).heap[w5.heap.size]? = some (.cells ZId 24 (0, 0)) from heap_alloc_new _ _)
  have HB46 := Lib.hid (below_setRow (hb23.trans (hba.mono hb23.size)) hb23.size C1)
  clear hb3 hb3' hb23 hba S1
  go_wp2_with (refine wpList_store_row rfl _ _ _ rfl w5.heap.size C1 rfl rfl _ ZId HZ5.out Y1.out Y2.out Y3.out ?_; refine stop ?_)
  unfold Stop
  obtain ⟨w6, hw6⟩ : ∃ w6, w6 = (w5.alloc (.cells ZId 24)).setRow w5.heap.size C1 := ⟨_, rfl⟩
  change wpList _ _ _ _ _ ((w5.alloc (.cells ZId 24)).setRow w5.heap.size C1)
  rw [← hw6] at HB46 ⊢
  have HD6 := Lib.hid (show w6.heap[w5.heap.size]? = some (.cells (A1.map bv).toArray 24 (0, 0)) by rw [hw6, ← HC1.out]; exact setRow_heap _ w5.heap.size ZId C1 _ _ HZ5.out)
  have HD6' := Lib.hid (heap_below HB46.out HD4.out)
  have HR6 := Lib.hid (HR4.out.below HB46.out)
  have HG6 := Lib.hid (glob_below HG4.out HB46.out (Nat.le_refl _))
  have HB6 := Lib.hid (HB4.out.trans (HB46.out.mono HB4.out.size))
  clear hw6 HZ5 HB46 HR4 HG4 HB4 HD4
  have r1 : rowOf w6 w3.heap.size 0 32 = some C0 := by rw [HC0.out]; exact rowOf_id HL0.out HD6'.out
  have r2 : rowOf w6 w5.heap.size 0 32 = some C1 := by rw [HC1.out]; exact rowOf_id HL1.out HD6.out
  have hb7 : Below w6.heap.size w6 (w6.alloc (.cells #[.int .u8 5] 5)) := (Below.refl _ _).alloc (Nat.le_refl _) _
  have r3 : rowOf (w6.alloc (.cells #[.int .u8 5] 5)) w3.heap.size 0 32 = some C0 := by rw [HC0.out]; exact rowOf_id HL0.out (heap_below hb7 HD6'.out)
  clear hb7
  go_wp2_with (go_at_call 14; refine stop ?_)
  unfold Stop
  have hb7 : Below w6.heap.size w6 (w6.alloc (.cells #[.int .u8 5] 5)) := (Below.refl _ _).alloc (Nat.le_refl _) _
  refine (I0.out gr gk w6.heap.size _ (HR6.out.below hb7) (bts_one w6 5 _ rfl _) (glob_below HG6.out hb7 (Nat.le_refl _))).mono ?_
  rintro e w7 ⟨rfl, hb7'⟩
  have hb67 : Below w6.heap.size w6 w7 := hb7.trans (hb7'.mono hb7.size)
  have hb8 : Below w7.heap.size w7 (w7.alloc (.cells #[.int .u8 5] 5)) := (Below.refl _ _).alloc (Nat.le_refl _) _
  have hb68 : Below w6.heap.size w6 (w7.alloc (.cells #[.int .u8 5] 5)) := hb67.trans (hb8.mono hb67.size)
  have r4 : rowOf (w7.alloc (.cells #[.int .u8 5] 5)) w3.heap.size 0 32 = some C0 := by rw [HC0.out]; exact rowOf_id HL0.out (heap_below hb68 HD6'.out)
  have HR8 := Lib.hid (HR6.out.below hb68)
  have HG8 := Lib.hid (glob_below HG6.out hb68 (Nat.le_refl _))
  have HB8 := Lib.hid (HB6.out.trans (hb68.mono HB6.out.size))
  clear hb7 hb7' hb67 hb8 hb68 r1 r2 r3 HR6 HG6 HB6
  go_wp2_with (go_at_call 14; refine stop ?_)
  unfold Stop
  refine (I1.out gr gk w7.heap.size _ HR8.out (bts_one w7 5 _ rfl _) HG8.out).mono ?_
  rintro e w9 ⟨rfl, hb9⟩
  have HB9 := Lib.hid (HB8.out.trans (hb9.mono HB8.out.size))
  clear hb9
  go_wp2_with fail
  go_ret
  exact ⟨rfl, HB9.out⟩
end Go.Proofs.YtnhakcmnpmlopaaDoor
