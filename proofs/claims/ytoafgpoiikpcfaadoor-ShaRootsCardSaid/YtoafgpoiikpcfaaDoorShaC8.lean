/- 'ShaRoots': its walk. -/
import Derived.Test.YtoafgpoiikpcfaaDoorShaC7
import Derived.Test.YtoafgpoiikpcfaaDoorShaT1
set_option linter.unusedVariables false
namespace Go.Proofs.YtoafgpoiikpcfaaDoor
open Go.RowKit
theorem lst_one {w : World} (A : Option Addr) (b : List B8) (c : Nat) (hB : Bts w A b) (hc : b.length ≤ c) (t : TypeId) :
    Lst (w.alloc (.cells #[.slice A b.length c] t)) (some ⟨w.heap.size, 0, none⟩) [b] := by
  intro i xs hi
  match i, hi with
  | 0, hi =>
    obtain rfl : b = xs := by simpa using hi
    refine ⟨_, A, c, rfl, ?_, hc, hB.below ((Below.refl _ _).alloc (Nat.le_refl _) _)⟩
    show World.cell? _ ⟨w.heap.size, 0, none⟩ = _
    rw [cell_of_row _ _ _ _ _ _ (heap_alloc_new w _)]; rfl
theorem uv32_wv (l : List W) : (l.map BitVec.toNat).map uv32 = l.map wv := by
  rw [List.map_map]
  apply List.map_congr_left
  intro x _
  rfl
theorem wds_own {w : World} {B n : Nat} {A : Option Addr} {c : Nat} {l : List W} (h : w.ownsRow B 34 1 (.slice A n c) n (l.map wv)) : Wds w A l := fun j u hu => by
  rcases h.2 with ⟨e, h0⟩ | ⟨g, cap, cur, e, -⟩
  · exfalso
    have h1 := h.1
    have h2 := (List.getElem?_eq_some_iff.1 hu).1
    omega
  · injection e with e1 e2 e3
    subst e1
    exact ⟨_, rfl, h.cells rfl j u hu⟩
set_option maxRecDepth 100000 in
set_option maxHeartbeats 2000000 in
theorem lawroots_any (A : Option Addr) (c : Nat) (b : List B8) (w : World) (hb : Bts w A b) (hA : A = none → c = 0) (hc : b.length ≤ c) (hm : b.length ≤ maxLen) (hG : Glob w) :
    Calls Tryd.prog 3 #[.slice A b.length c] w fun e w' => e = .returned (.bool true) ∧ Below w.heap.size w w' := by
  have HG := Lib.hid hG
  unfold maxLen at hm
  by_cases h100 : b.length ≤ 100
  · have t0 : decide ((100 : Int) < (b.length : Int)) = false := by rw [decide_eq_false_iff_not]; omega
    obtain ⟨wa, hwa⟩ : ∃ wa, wa = w.alloc (.cells #[.slice A b.length c] 22) := ⟨_, rfl⟩
    have hba : Below w.heap.size w wa := by rw [hwa]; exact (Below.refl _ _).alloc (Nat.le_refl _) _
    have hL : Lst wa (some ⟨w.heap.size, 0, none⟩) [b] := by rw [hwa]; exact lst_one A b c hb hc _
    obtain ⟨C, hC⟩ : ∃ C, C = ((dig b).map bv).toArray := ⟨_, rfl⟩
    have eqC : ∀ w, (Op.equalIn 10000 25 (.agg C) (.agg C)).run Tryd.prog w = .ok true w := fun w => by
      rw [hC, eq_id _ _ (dig_len b) (dig_len b) w]; simp
    have S1 := Lib.hid (sum_any (some ⟨w.heap.size, 0, none⟩) 1 [b] wa hL (hG.below hba hG.1) (by simp; omega) (by simp))
    rw [show [b].flatten = b by simp, ← hC] at S1
    have K1 := Lib.hid (fun w => (constants_any 8 2 w (by omega) (by omega) (by omega) (H8.list.map BitVec.toNat) const_h rfl : Calls Tryd.prog 7 #[.int .i64 8, .int .i64 2] w fun e w' => ∃ v, e = .returned v ∧ w'.ownsRow w.heap.size 34 1 v 8 ((H8.list.map BitVec.toNat).map uv32) ∧ Below w.heap.size w w'))
    have K2 := Lib.hid (fun w => (constants_any 64 3 w (by omega) (by omega) (by omega) (K64.map BitVec.toNat) const_k rfl : Calls Tryd.prog 7 #[.int .i64 64, .int .i64 3] w fun e w' => ∃ v, e = .returned v ∧ w'.ownsRow w.heap.size 34 1 v 64 ((K64.map BitVec.toNat).map uv32) ∧ Below w.heap.size w w'))
    rw [uv32_wv] at K1 K2
    have HBA := Lib.hid hba
    have HX := Lib.hid (hb.below hba)
    have HCC := Lib.hid hC
    clear hba hL hC hG hb
    go_enter Tryd.func3, Tryd.ntmps3
    go_wp2_with (go_at_call 5; refine stop ?_)
    unfold Stop
    rw [← hwa]
    clear hwa
    refine S1.out.mono ?_
    rintro e w1 ⟨rfl, hb1⟩
    have HB1 := Lib.hid (HBA.out.trans (hb1.mono HBA.out.size))
    have HX1 := Lib.hid (HX.out.below hb1)
    clear hb1
    go_wp2_with (go_at_call 7; refine stop ?_)
    unfold Stop
    refine (K1.out w1).mono ?_
    rintro e w2 ⟨v11, rfl, ho, hb2⟩
    obtain ⟨A11, c11, rfl⟩ := own_slice' ho
    have HO2 := Lib.hid ho
    have HB2 := Lib.hid (HB1.out.trans (hb2.mono HB1.out.size))
    have HX2 := Lib.hid (HX1.out.below hb2)
    clear ho hb2
    go_wp2_with (go_at_call 7; refine stop ?_)
    unfold Stop
    refine (K2.out w2).mono ?_
    rintro e w3 ⟨v12, rfl, ho, hb3⟩
    obtain ⟨g12, c12, rfl, -, -⟩ := World.ownsRow.form ho (by omega)
    have HW3 := Lib.hid (wds_own (own_below' HO2.out hb3))
    have HK3 := Lib.hid (show ∀ i, i < 64 → w3.cell? ⟨g12, i, none⟩ = some (.int .u32 ((K64.getD i 0).toNat : Int)) from fun i hi => by
      rw [ho.cellAt i (by omega), List.getElem?_map, List.getD_eq_getElem?_getD, List.getElem?_eq_getElem (show i < K64.length from hi)]; rfl)
    have HB3 := Lib.hid (HB2.out.trans (hb3.mono HB2.out.size))
    have HX3 := Lib.hid (HX2.out.below hb3)
    clear ho hb3 HO2
    have RS := Lib.hid (rsum_any A c b A11 c11 H8 g12 c12 K64 w3 HX3.out hA hc HW3.out HK3.out (by omega))
    have ed : digK K64 H8 b = dig b := rfl
    rw [ed, ← HCC.out] at RS
    clear ed
    go_wp2_with (first
      | (go_at_call 6; refine RS.out.mono ?_; rintro e w4 ⟨rfl, hb4⟩; have HB4 := Lib.hid (HB3.out.trans (hb4.mono HB3.out.size)); clear hb4)
      | (go_at_call 4; refine (awake_any w4 (HG.out.below HB4.out HG.out.1)).mono ?_; rintro e w5 ⟨rfl, hb5⟩))
    go_ret
    exact ⟨rfl, HB4.out.trans (hb5.mono HB4.out.size)⟩
  · have t0 : decide ((100 : Int) < (b.length : Int)) = true := by rw [decide_eq_true_eq]; omega
    clear hG hb
    go_enter Tryd.func3, Tryd.ntmps3
    go_wp2_with (go_at_call 4; refine (awake_any _ HG.out).mono ?_; rintro e w' ⟨rfl, hb4⟩)
    go_ret
    exact ⟨rfl, hb4⟩
theorem lawroots_law (A : Option Addr) (c : Nat) (b : List B8) (w : World) (hb : Sl w w.heap.size A (b.map bv)) (hm : b.length ≤ maxLen) (hA : A = none → c = 0) (hc : b.length ≤ c) (hG : Glob w) :
    Calls Tryd.prog 3 #[.slice A b.length c] w fun e w' => e = .returned (.bool true) ∧ Below w.heap.size w w' := lawroots_any A c b w (Bts.of_sl hb) hA hc hm hG
end Go.Proofs.YtoafgpoiikpcfaaDoor
