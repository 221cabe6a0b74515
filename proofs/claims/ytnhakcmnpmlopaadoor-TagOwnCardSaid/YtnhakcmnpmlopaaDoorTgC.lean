/- The contract of the code's 'Of': the tag of bytes under a key. -/
import Derived.Test.YtnhakcmnpmlopaaDoorTgB
import Derived.Test.YtnhakcmnpmlopaaDoorPair
import Derived.Test.YtnhakcmnpmlopaaDoorCls
set_option linter.unusedVariables false
namespace Go.Proofs.YtnhakcmnpmlopaaDoor
open Go.RowKit
theorem range_row {w : World} {g : Nat} {cs : List Value} {t : TypeId} {fr : Nat × Nat} (h : w.heap[g]? = some (.cells cs.toArray t fr)) : w.rangeAt g 0 cs := fun j v hj => by
  rw [Nat.zero_add, cell_of_row w g j _ _ _ h, List.getElem?_toArray]; exact hj
/-- A block that was made from B on, and its address. -/
def PtrZ (B : Nat) (C : Array Value) (t : TypeId) (v : Value) (w : World) : Prop := ∃ g, B ≤ g ∧ v = .pointer (some ⟨g, 0, none⟩) ∧ w.heap[g]? = some (.cells C t (0, 0))
theorem PtrZ.stable {B : Nat} {C : Array Value} {t : TypeId} (v : Value) (w w' : World) (h : PtrZ B C t v w) (hs : Stp w w') : PtrZ B C t v w' := by
  obtain ⟨g, hB, e, hg⟩ := h
  exact ⟨g, hB, e, heap_below hs hg⟩
theorem PtrZ.pt {B : Nat} {C : Array Value} {t : TypeId} (v : Value) (w : World) (h : PtrZ B C t v w) : Pt v w := by
  obtain ⟨g, hB, e, hg⟩ := h
  exact ⟨g, lt_of_block hg, e⟩
theorem does_ptr {P : Program} {o : Oper} {a : Act} {w : World} {B : Nat} (C : Array Value) (t : TypeId) (d : Tmp) (hd : o.dst = some d) (hB : B ≤ w.heap.size) (hr : ∀ w, (execOp a.eval o).run P w = .ok (.value (.pointer (some ⟨w.heap.size, 0, none⟩))) (w.alloc (.cells C t))) :
    doesR P o a w (fun u w' => PtrZ B C t (retV o u) w' ∧ Stp w w') := by
  refine does_run (hr w) ⟨?_, (Below.refl _ _).alloc (Nat.le_refl _) _⟩
  have e : ∀ u, retV o u = u := fun u => by unfold retV; rw [hd]
  rw [e]
  exact ⟨w.heap.size, hB, rfl, heap_alloc_new w _⟩
theorem lst_two {w : World} {g : Nat} {A A' : Option Addr} {c c' : Nat} {xs ys : List B8} {n n' : Nat} (hn : n = xs.length) (hn' : n' = ys.length) {t : TypeId} (h : w.heap[g]? = some (.cells #[.slice A n c, .slice A' n' c'] t (0, 0))) (hc : xs.length ≤ c) (hc' : ys.length ≤ c') (hx : Bts w A xs) (hy : Bts w A' ys) : Lst w (some ⟨g, 0, none⟩) [xs, ys] := fun i zs hi => by
  subst hn hn'
  match i, hi with
  | 0, hi =>
    obtain rfl : xs = zs := by simpa using hi
    exact ⟨_, A, c, rfl, by rw [add_row, cell_of_row _ _ _ _ _ _ h]; rfl, hc, hx⟩
  | 1, hi =>
    obtain rfl : ys = zs := by simpa using hi
    exact ⟨_, A', c', rfl, by rw [add_row, cell_of_row _ _ _ _ _ _ h]; rfl, hc', hy⟩
set_option maxRecDepth 100000 in
set_option maxHeartbeats 4000000 in
theorem tagOf_any (A A' : Option Addr) (c c' : Nat) (key b : List B8) (w : World) (hK : Bts w A key) (hc : key.length ≤ c) (hB : Bts w A' b) (hc' : b.length ≤ c') (hG : Glob w) (hk : key.length ≤ 1000000) (hb : b.length ≤ 1000000) :
    Calls Tryd.prog 9 #[.slice A key.length c, .slice A' b.length c'] w fun e w' => e = .returned (.agg ((tagD key b).map bv).toArray) ∧ Below w.heap.size w w' := by
  obtain ⟨C, hC⟩ : ∃ C, C = ((tagD key b).map bv).toArray := ⟨_, rfl⟩
  have hC32 : C.size = 32 := by rw [hC]; simp [tagD_len]
  have H3 := Lib.hid (show C.all (·.oneCell') = true by rw [hC]; exact bvs_one _)
  have H1 := Lib.hid (show (Tryd.prog.info? 24).map (·.size) = some C.size by rw [hC32]; kernel_rfl)
  have H2 := Lib.hid (show ZId.size = C.size by rw [hC32]; rfl)
  obtain ⟨FL, hFL⟩ : ∃ FL, FL = (fillK key).map bv := ⟨_, rfl⟩
  have hFL64 : FL.length = 64 := by rw [hFL]; simp [fillK_len]
  obtain ⟨IL, hIL⟩ : ∃ IL, IL = turnK 54 (fillK key) := ⟨_, rfl⟩
  have hIL64 : IL.length = 64 := by rw [hIL, turnK_len, fillK_len]
  obtain ⟨OL, hOL⟩ : ∃ OL, OL = turnK 92 (fillK key) := ⟨_, rfl⟩
  have hOL64 : OL.length = 64 := by rw [hOL, turnK_len, fillK_len]
  obtain ⟨IA, hIA⟩ : ∃ IA, IA = (IL.map bv).toArray := ⟨_, rfl⟩
  obtain ⟨OA, hOA⟩ : ∃ OA, OA = (OL.map bv).toArray := ⟨_, rfl⟩
  have F1 := Lib.hid (show (Tryd.prog.info? 40).map (·.size) = some FL.toArray.size by rw [List.size_toArray, hFL64]; kernel_rfl)
  have F2 := Lib.hid (show Z64.size = FL.toArray.size by simp [zeros_len, hFL64])
  have F3 := Lib.hid (show FL.toArray.all (·.oneCell') = true by rw [hFL]; exact bvs_one _)
  have I1 := Lib.hid (show (Tryd.prog.info? 40).map (·.size) = some IA.size by rw [hIA, List.size_toArray, List.length_map, hIL64]; kernel_rfl)
  have I2 := Lib.hid (show Z64.size = IA.size by simp [hIA, zeros_len, hIL64])
  have I3 := Lib.hid (show IA.all (·.oneCell') = true by rw [hIA]; exact bvs_one _)
  have O1 := Lib.hid (show (Tryd.prog.info? 40).map (·.size) = some OA.size by rw [hOA, List.size_toArray, List.length_map, hOL64]; kernel_rfl)
  have O2 := Lib.hid (show Z64.size = OA.size by simp [hOA, zeros_len, hOL64])
  have O3 := Lib.hid (show OA.all (·.oneCell') = true by rw [hOA]; exact bvs_one _)
  have FLS := Lib.hid hFL64
  have CF := Lib.hid (fun w hB hG => filled_any A c key w hB hc hG hk)
  have T1 := Lib.hid (fun w => tturned_any (fillK key) 54 w (fillK_len _))
  have T2 := Lib.hid (fun w => tturned_any (fillK key) 92 w (fillK_len _))
  rw [show ((((54 : B8).toNat : Nat)) : Int) = 54 from rfl, ← hFL, ← hIL, ← hIA] at T1
  rw [show ((((92 : B8).toNat : Nat)) : Int) = 92 from rfl, ← hFL, ← hOL, ← hOA] at T2
  rw [← hFL] at CF
  obtain ⟨DL, hDL⟩ : ∃ DL, DL = dig (IL ++ b) := ⟨_, rfl⟩
  have hDL32 : DL.length = 32 := by rw [hDL]; exact dig_len _
  obtain ⟨DA, hDA⟩ : ∃ DA, DA = (DL.map bv).toArray := ⟨_, rfl⟩
  have D1 := Lib.hid (show (Tryd.prog.info? 24).map (·.size) = some DA.size by rw [hDA, List.size_toArray, List.length_map, hDL32]; kernel_rfl)
  have D2 := Lib.hid (show ZId.size = DA.size by simp [hDA, zeros_len, hDL32])
  have D3 := Lib.hid (show DA.all (·.oneCell') = true by rw [hDA]; exact bvs_one _)
  have S1 := Lib.hid (fun (g : Nat) (w : World) (hL : Lst w (some ⟨g, 0, none⟩) [IL, b]) (hG : Glob w) => sum_any (some ⟨g, 0, none⟩) 2 _ w hL hG (by simp; omega) (by simp))
  have S2 := Lib.hid (fun (g : Nat) (w : World) (hL : Lst w (some ⟨g, 0, none⟩) [OL, DL]) (hG : Glob w) => sum_any (some ⟨g, 0, none⟩) 2 _ w hL hG (by simp; omega) (by simp))
  rw [show [IL, b].flatten = IL ++ b by simp, ← hDL, ← hDA] at S1
  rw [show [OL, DL].flatten = OL ++ DL by simp, show dig (OL ++ DL) = tagD key b by rw [hOL, hDL, hIL]; rfl, ← hC] at S2
  rw [← hC]
  have HIA := Lib.hid hIA
  have HOA := Lib.hid hOA
  have HDA := Lib.hid hDA
  have HIL := Lib.hid hIL64
  have HOL := Lib.hid hOL64
  have HDL := Lib.hid hDL32
  obtain ⟨w1, hw1⟩ : ∃ w1, w1 = w.alloc (.cells ZId 24) := ⟨_, rfl⟩
  have hb1 : Below w.heap.size w w1 := by rw [hw1]; exact (Below.refl _ _).alloc (Nat.le_refl _) _
  have HS1 := Lib.hid (show w1.heap.size = w.heap.size + 1 by rw [hw1]; simp)
  have HB1 := Lib.hid hb1
  have HZ1 := Lib.hid (show w1.heap[w.heap.size]? = some (.cells ZId 24 (0, 0)) by rw [hw1]; exact heap_alloc_new _ _)
  have HK1 := Lib.hid (hK.below hb1)
  have HX1 := Lib.hid (hB.below hb1)
  have HG1 := Lib.hid (glob_below hG hb1 (Nat.le_refl _))
  have sl := slice_64
  have sl2 := slice_32
  clear hC hC32 hFL hFL64 hIL hIL64 hOL hOL64 hIA hOA hDL hDL32 hDA hb1 hK hB hG
  go_enter Tryd.func9, Tryd.ntmps9
  go_upto_region 1 with fail
  change Code.wp _ _ _ _ (w.alloc (.cells ZId 24))
  rw [← hw1]
  clear hw1
  go_wp2_with (go_at_call 18; refine stop ?_)
  unfold Stop
  refine (CF.out w1 HK1.out HG1.out).mono ?_
  rintro e wa ⟨rfl, hba⟩
  have hbn : Below wa.heap.size wa (wa.alloc (.cells Z64 40)) := (Below.refl _ _).alloc (Nat.le_refl _) _
  have HZa := Lib.hid (show (wa.alloc (.cells Z64 40)).heap[wa.heap.size]? = some (.cells Z64 40 (0, 0)) from heap_alloc_new _ _)
  have hb2 : Below w1.heap.size w1 ((wa.alloc (.cells Z64 40)).setRow wa.heap.size FL.toArray) := below_setRow (hba.trans (hbn.mono hba.size)) hba.size FL.toArray
  have HF2 := Lib.hid (show ((wa.alloc (.cells Z64 40)).setRow wa.heap.size FL.toArray).heap[wa.heap.size]? = some (.cells FL.toArray 40 (0, 0)) from setRow_heap _ wa.heap.size Z64 FL.toArray _ _ HZa.out)
  have HB2' := Lib.hid hb2
  have hsa : w.heap.size + 1 ≤ wa.heap.size := by have := hba.size; rw [HS1.out] at this; exact this
  clear hba hbn hb2
  go_wp2_with (refine wpList_store_row rfl _ _ _ rfl wa.heap.size FL.toArray rfl rfl _ Z64 HZa.out F1.out F2.out F3.out ?_; refine stop ?_)
  unfold Stop
  obtain ⟨w2, hw2⟩ : ∃ w2, w2 = (wa.alloc (.cells Z64 40)).setRow wa.heap.size FL.toArray := ⟨_, rfl⟩
  change wpList _ _ _ _ _ ((wa.alloc (.cells Z64 40)).setRow wa.heap.size FL.toArray)
  rw [← hw2] at HB2' HF2 ⊢
  have hsz2 : wa.heap.size + 1 ≤ w2.heap.size := by rw [hw2]; simp [World.setRow]
  clear hw2 HZa
  have HB2 := Lib.hid (HB1.out.trans (HB2'.out.mono HB1.out.size))
  have HX2 := Lib.hid (HX1.out.below HB2'.out)
  have HG2 := Lib.hid (glob_below HG1.out HB2'.out (Nat.le_refl _))
  have HZ2 := Lib.hid (heap_below HB2'.out HZ1.out)
  have HF2d := Lib.hid (show w2.drew.heap[wa.heap.size]? = some (.cells FL.toArray 40 (0, 0)) from HF2.out)
  clear HB2' HX1 HG1 HZ1 HK1
  go_wp2_with fail
  refine wp_region_rel_tail2 6 23 4 5 _ _ (by decide) (by rfl) (by rfl) (makes_alloc rfl rfl (fun w => ⟨w.alloc (.cells Z64 40), by kernel_rfl⟩)) (makes_alloc rfl rfl (fun w => ⟨w.alloc (.cells Z64 40), by kernel_rfl⟩)) (by kernel_rfl) (by kernel_rfl) Stp [.one ?_, .one ?_, .one ?_, .one ?_, .rel (PtrZ w2.heap.size Z64 40), .rel (PtrZ w2.heap.size Z64 40)] _ _ (by rfl) (by rfl) PtrZ.pt PtrZ.pt (by kernel_rfl) rfl (by kernel_rfl) Stp.refl Stp.trans ⟨PtrZ.stable, PtrZ.stable, trivial⟩ ?main
  case main =>
  simp only [List.take_succ_cons, List.take_zero, List.drop_succ_cons, List.drop_zero]
  refine wpR_one (A' := ?_) Stp.refl (by rfl) _ rfl 23 (by rfl) (by rfl) ?_ ?_ ?_
  rotate_left 1
  · simp only [Act.put, List.setIfInBounds_toArray, List.set_cons_zero, List.set_cons_succ]; rfl
  · intro w1 hs hf K hK
    refine cls_load 40 (.tmp 5) rfl (wa.heap.size) (0) rfl (FL) _ (fun w2 h2 => range_row (heap_below h2 (heap_below hs HF2d.out))) Tryd.underlying40 rfl (by rw [FLS.out]; kernel_rfl) ?_
    refine hK _ ?_
    simp only [Act.put, List.setIfInBounds_toArray, List.set_cons_zero, List.set_cons_succ]
    rfl
  refine wpR_one (A' := ?_) Stp.refl (by rfl) _ rfl 23 (by rfl) (by rfl) ?_ ?_ ?_
  rotate_left 1
  · simp only [Act.put, List.setIfInBounds_toArray, List.set_cons_zero, List.set_cons_succ]; rfl
  · intro w1 hs hf K hK
    go_big_quiet_op
    apply Exists.intro
    refine ⟨fun w4 h2 => ?_, ?_⟩
    · refine (T1.out w4).mono ?_
      rintro e w3 ⟨rfl, h3⟩
      exact ⟨rfl, Stp.trans _ _ _ h2 h3⟩
    · go_big_quiet_on
      rfl
  refine wpR_one (A' := ?_) Stp.refl (by rfl) _ rfl 23 (by rfl) (by rfl) ?_ ?_ ?_
  rotate_left 1
  · simp only [Act.put, List.setIfInBounds_toArray, List.set_cons_zero, List.set_cons_succ]; rfl
  · intro w1 hs hf K hK
    refine cls_load 40 (.tmp 5) rfl (wa.heap.size) (0) rfl (FL) _ (fun w2 h2 => range_row (heap_below h2 (heap_below hs HF2d.out))) Tryd.underlying40 rfl (by rw [FLS.out]; kernel_rfl) ?_
    refine hK _ ?_
    simp only [Act.put, List.setIfInBounds_toArray, List.set_cons_zero, List.set_cons_succ]
    rfl
  refine wpR_one (A' := ?_) Stp.refl (by rfl) _ rfl 23 (by rfl) (by rfl) ?_ ?_ ?_
  rotate_left 1
  · simp only [Act.put, List.setIfInBounds_toArray, List.set_cons_zero, List.set_cons_succ]; rfl
  · intro w1 hs hf K hK
    go_big_quiet_op
    apply Exists.intro
    refine ⟨fun w4 h2 => ?_, ?_⟩
    · refine (T2.out w4).mono ?_
      rintro e w3 ⟨rfl, h3⟩
      exact ⟨rfl, Stp.trans _ _ _ h2 h3⟩
    · go_big_quiet_on
      rfl
  refine wpR_rel (A' := ?_) (by rfl) ?_ ?_ ?_
  · intro w1 hs hf
    exact does_ptr Z64 40 _ rfl (Below.size (w := w2.drew) hs) (fun w => by kernel_rfl)
  rotate_left 1
  · intro x
    simp only [Act.put, List.setIfInBounds_toArray, List.set_cons_zero, List.set_cons_succ]; rfl
  intro x4
  refine wpR_rel (A' := ?_) (by rfl) ?_ ?_ ?_
  · intro w1 hs hf
    exact does_ptr Z64 40 _ rfl (Below.size (w := w2.drew) hs) (fun w => by kernel_rfl)
  rotate_left 1
  · intro x
    simp only [Act.put, List.setIfInBounds_toArray, List.set_cons_zero, List.set_cons_succ]; rfl
  intro x5
  intro w9 hs hf hne0
  have hne : x4 ≠ x5 := hne0
  clear hne0
  obtain ⟨⟨g5, hB5, h5, hr5⟩, ⟨g4, hB4, h4, hr4⟩, -⟩ := hf
  change x5 = _ at h5
  change x4 = _ at h4
  subst h4 h5
  have h45 : g5 ≠ g4 := fun e => hne (by rw [e])
  have hs2 : Below w2.heap.size w2 w9 := (Below.refl _ _).drew.trans hs
  have HR4 := Lib.hid hr4
  have HR5 := Lib.hid (show (w9.setRow g4 IA).heap[g5]? = some (.cells Z64 40 (0, 0)) from (setRow_other w9 g4 g5 IA h45).trans hr5)
  obtain ⟨w3, hw3⟩ : ∃ w3, w3 = (w9.setRow g4 IA).setRow g5 OA := ⟨_, rfl⟩
  have HB3' := Lib.hid (show Below w2.heap.size w2 w3 by rw [hw3]; exact below_setRow (below_setRow hs2 hB4 IA) hB5 OA)
  have H34 := Lib.hid (show w3.heap[g4]? = some (.cells (IL.map bv).toArray 40 (0, 0)) by rw [hw3, ← HIA.out]; exact (setRow_other _ g5 g4 OA (Ne.symm h45)).trans (setRow_heap w9 g4 Z64 IA _ _ hr4))
  have H35 := Lib.hid (show w3.heap[g5]? = some (.cells (OL.map bv).toArray 40 (0, 0)) by rw [hw3, ← HOA.out]; exact setRow_heap _ g5 Z64 OA _ _ HR5.out)
  clear hs hne h45 hs2 hr4 hr5
  go_wp2_with (first
    | (refine wpList_store_row rfl _ _ _ rfl g4 IA rfl rfl _ Z64 HR4.out I1.out I2.out I3.out ?_)
    | (refine wpList_store_row rfl _ _ _ rfl g5 OA rfl rfl _ Z64 HR5.out O1.out O2.out O3.out ?_; refine stop ?_))
  unfold Stop
  rw [← hw3]
  clear hw3 HR4 HR5
  have HB3 := Lib.hid (HB2.out.trans (HB3'.out.mono HB2.out.size))
  have HX3 := Lib.hid (HX2.out.below HB3'.out)
  have HG3 := Lib.hid (glob_below HG2.out HB3'.out (Nat.le_refl _))
  have HZ3 := Lib.hid (heap_below HB3'.out HZ2.out)
  clear HB3' HX2 HG2 HZ2 HB2 HF2 HF2d
  go_wp2_with (go_at_call 20; refine stop ?_)
  unfold Stop
  obtain ⟨w4, hw4⟩ : ∃ w4, w4 = w3.alloc (.cells #[.slice (some ⟨g4, 0, none⟩) 64 64, .slice A' b.length c'] 22) := ⟨_, rfl⟩
  have hb4 : Below w3.heap.size w3 w4 := by rw [hw4]; exact (Below.refl _ _).alloc (Nat.le_refl _) _
  have hL : Lst w4 (some ⟨w3.heap.size, 0, none⟩) [IL, b] := lst_two HIL.out.symm rfl (by rw [hw4]; exact heap_alloc_new w3 _) (by rw [HIL.out]; exact Nat.le_refl _) hc' ((bts_row H34.out).below hb4) (HX3.out.below hb4)
  rw [← hw4]
  clear hw4
  refine (S1.out _ w4 hL (glob_below HG3.out hb4 (Nat.le_refl _))).mono ?_
  rintro e w5 ⟨rfl, hb5⟩
  have hb35 : Below w3.heap.size w3 w5 := hb4.trans (hb5.mono hb4.size)
  have hb56 : Below w5.heap.size w5 (w5.alloc (.cells ZId 24)) := (Below.refl _ _).alloc (Nat.le_refl _) _
  have HZ6 := Lib.hid (show (w5.alloc (.cells ZId 24)).heap[w5.heap.size]? = some (.cells ZId 24 (0, 0)) from heap_alloc_new _ _)
  have HB6' := Lib.hid (below_setRow (hb35.trans (hb56.mono hb35.size)) hb35.size DA)
  have HD6 := Lib.hid (show ((w5.alloc (.cells ZId 24)).setRow w5.heap.size DA).heap[w5.heap.size]? = some (.cells (DL.map bv).toArray 24 (0, 0)) by rw [← HDA.out]; exact setRow_heap _ w5.heap.size ZId DA _ _ HZ6.out)
  clear hL hb4 hb5 hb35 hb56
  go_wp2_with (refine wpList_store_row rfl _ _ _ rfl w5.heap.size DA rfl rfl _ ZId HZ6.out D1.out D2.out D3.out ?_; refine stop ?_)
  unfold Stop
  obtain ⟨w6, hw6⟩ : ∃ w6, w6 = (w5.alloc (.cells ZId 24)).setRow w5.heap.size DA := ⟨_, rfl⟩
  change wpList _ _ _ _ _ ((w5.alloc (.cells ZId 24)).setRow w5.heap.size DA)
  rw [← hw6] at HB6' HD6 ⊢
  clear hw6 HZ6
  have HB6 := Lib.hid (HB3.out.trans (HB6'.out.mono HB3.out.size))
  have HG6 := Lib.hid (show Glob w6.drew from glob_below (w' := w6) HG3.out HB6'.out (Nat.le_refl _))
  have HZ6 := Lib.hid (heap_below HB6'.out HZ3.out)
  have HO6 := Lib.hid (show Bts w6.drew (some ⟨g5, 0, none⟩) OL from bts_row (heap_below HB6'.out H35.out))
  have HD6d := Lib.hid (show Bts w6.drew (some ⟨w5.heap.size, 0, none⟩) DL from bts_row HD6.out)
  have L2 := Lib.hid (fun (v : Value) (w : World) (h : MadeL [(some ⟨g5, 0, none⟩, 64, 64), (some ⟨w5.heap.size, 0, none⟩, 32, 32)] v w) (hO : Bts w (some ⟨g5, 0, none⟩) OL) (hD : Bts w (some ⟨w5.heap.size, 0, none⟩) DL) => h.lst [OL, DL] (fun i xs hi => by
    match i, hi with
    | 0, hi => obtain rfl : OL = xs := by simpa using hi
               exact ⟨_, 64, by rw [HOL.out]; rfl, by rw [HOL.out]; omega, hO⟩
    | 1, hi => obtain rfl : DL = xs := by simpa using hi
               exact ⟨_, 32, by rw [HDL.out]; rfl, by rw [HDL.out]; omega, hD⟩))
  clear HB3 HX3 HG3 HZ3 HB6' HD6
  go_wp2_with fail
  refine wp_region_rel_tail 4 23 (by kernel_rfl) (by kernel_rfl) Stp [.one ?_, .one ?_, .rel (MadeL [(some ⟨g5, 0, none⟩, 64, 64), (some ⟨w5.heap.size, 0, none⟩, 32, 32)]), .one ?_] (by kernel_rfl) rfl (by kernel_rfl) Stp.refl Stp.trans ⟨fun v w w' h1 h2 => MadeL.stable _ v w w' h1 h2, trivial⟩ ?main
  case main =>
  simp only [List.take_succ_cons, List.take_zero, List.drop_succ_cons, List.drop_zero]
  iterate 2
    refine wpR_one (A' := ?_) Stp.refl (by rfl) _ rfl 23 (by rfl) (by rfl) ?_ ?_ ?_
    rotate_left 1
    · simp only [Act.put, List.setIfInBounds_toArray, List.set_cons_zero, List.set_cons_succ]; rfl
    · intro w1 hs hf K hK
      go_big_quiet_op
      first
        | go_big_quiet_on
        | (refine ⟨_, fun _ _ => rfl, ?_⟩; go_big_quiet_on)
      rfl
  refine wpR_rel (A' := ?_) (by rfl) ?_ ?_ ?_
  · intro w1 hs hf
    exact does_made _ 22 _ rfl (fun w => by kernel_rfl)
  rotate_left 1
  · intro x
    simp only [Act.put, List.setIfInBounds_toArray, List.set_cons_zero, List.set_cons_succ]; rfl
  intro x6
  refine wpR_one (A' := ?_) Stp.refl (by rfl) _ rfl 23 (by rfl) (by rfl) ?_ ?_ ?_
  rotate_left 1
  · simp only [Act.put, List.setIfInBounds_toArray, List.set_cons_zero, List.set_cons_succ]; rfl
  · intro w1 hs hf K hK
    obtain ⟨gl, hgl, hl⟩ := L2.out _ _ (AllF_at hf 0 rfl (by kernel_rfl)) (bts_stp HO6.out hs) (bts_stp HD6d.out hs)
    change x6 = _ at hgl
    subst hgl
    go_big_quiet_op
    apply Exists.intro
    refine ⟨fun w4 h2 => ?_, ?_⟩
    · refine (S2.out gl w4 (lst_stp hl h2) (glob_stp (glob_stp HG6.out hs) h2)).mono ?_
      rintro e w3 ⟨rfl, h3⟩
      exact ⟨rfl, Stp.trans _ _ _ h2 h3⟩
    · go_big_quiet_on
      rfl
  intro w9 hs hf
  have HB9 := Lib.hid (HB6.out.trans (((Below.refl _ _).drew.trans hs).mono HB6.out.size))
  have HA := Lib.hid (heap_below (w := w6.drew) hs HZ6.out)
  clear hs hf
  go_wp2_with (refine wpList_store_row rfl _ _ _ rfl w.heap.size C rfl rfl _ ZId HA.out H1.out H2.out H3.out ?_)
  have hA2 := setRow_heap w9 w.heap.size ZId C 24 (0, 0) HA.out
  refine bodyPost_ret (v := .agg C) ?_ rfl ⟨rfl, below_setRow HB9.out (Nat.le_refl _) C⟩
  exact results_cell_row Tryd.results9 _ _ w.heap.size _ C (0, 0) _ rfl hA2 Tryd.underlying24 rfl H1.out
end Go.Proofs.YtnhakcmnpmlopaaDoor
