/- The walks of 'TreeTells' and 'TreeAny'. -/
import Derived.Test.YtppkjlmnnpfcfaaDoorTrP
import Derived.Test.YtppkjlmnnpfcfaaDoorTrQ
set_option linter.unusedVariables false
namespace Go.Proofs.YtppkjlmnnpfcfaaDoor
open Go.RowKit
attribute [local go_sem ↓] loadAt_id
attribute [local go_sem] rowOf_drew rowOf_drewN run_idLoad
theorem glob_below {w w' : World} {B : Nat} (h : Glob w) (hb : Below B w w') (hB : w.heap.size ≤ B) : Glob w' := h.below (hb.mono hB) h.1
theorem pathZ_small (ls : List (List B8)) (z : Int) (h : ls.length ≤ 1000000) : (pathZ ls z).length ≤ 1000000 ∧ ∀ d ∈ pathZ ls z, d.length = 32 := by
  unfold pathZ
  split
  · exact ⟨by simp, by simp⟩
  · exact ⟨Nat.le_trans (pathD_size _ _ _ (Nat.le_refl _)) h, pathD_ids _ _ _ (Nat.le_refl _)⟩
set_option maxRecDepth 100000 in
set_option maxHeartbeats 4000000 in
theorem tells_any (A : Option Addr) (c : Nat) (ls : List (List B8)) (z : Int) (w : World) (hL : LstN w A ls) (hA : A = none → c = 0) (hc : ls.length ≤ c) (hm : ls.length ≤ maxLen) (hG : Glob w) :
    Calls Tryd.prog 3 #[.slice A ls.length c, .int .i64 z] w fun e w' => e = .returned (.bool true) ∧ Below w.heap.size w w' := by
  have HG := Lib.hid hG
  have HL := Lib.hid hL
  have HA := Lib.hid hA
  have GR := Lib.hid (great_any A c ls w hL hm)
  clear hG hL hA
  go_enter Tryd.func3, Tryd.ntmps3
  go_wp2_with (go_at_call 8; refine stop ?_)
  unfold Stop
  refine GR.out.mono ?_
  rintro e w' ⟨⟨r, rfl, hr⟩, hw⟩
  rw [hw]
  clear hw w' GR
  cases r with
  | true =>
    clear hr
    go_wp2_with (go_at_call 9; refine (awake_any _ HG.out).mono ?_; rintro e w' ⟨rfl, hb4⟩)
    go_ret
    exact ⟨rfl, hb4⟩
  | false =>
    obtain ⟨h40, h60'⟩ := hr rfl
    have h60 : ∀ xs ∈ ls, xs.length ≤ 1000000 := fun xs hx => by have := h60' xs hx; omega
    have R1 := Lib.hid (root_any ls.length ls (Nat.le_refl _) (by omega) h60 A c w HL.out.lst hc HG.out)
    have R2 := Lib.hid (fun w (hL : LstN w A ls) => rroot_any ls.length ls (Nat.le_refl _) (by omega) h60 A c w hL hc HA.out)
    have P1 := Lib.hid (fun w (hL : LstN w A ls) hG => path_any ls.length ls (Nat.le_refl _) (by omega) h60 A c z w hL.lst hc hG)
    have P2 := Lib.hid (fun w (hL : LstN w A ls) => rpath_any ls.length ls (Nat.le_refl _) (by omega) h60 A c z w hL hc HA.out)
    obtain ⟨ps1, ps2⟩ := pathZ_small ls z (by omega)
    have PS2 := Lib.hid ps2
    obtain ⟨D, hD⟩ : ∃ D, D = ((rootD ls).map bv).toArray := ⟨_, rfl⟩
    have eqC : ∀ w, (Op.equalIn 10000 26 (.agg D) (.agg D)).run Tryd.prog w = .ok true w := fun w => by
      rw [hD, eq_id _ _ (rootD_len _) (rootD_len _) w]; simp
    rw [← hD] at R1 R2
    clear hr h60' h60 hD ps2
    generalize pathZ ls z = pd at *
    go_wp2_with (first
      | (go_at_call 10; refine R1.out.mono ?_; rintro e wa ⟨rfl, hb⟩; have HBa := Lib.hid hb; have HLa := Lib.hid (HL.out.below hb); have HGa := Lib.hid (glob_below HG.out hb (Nat.le_refl _)); clear hb)
      | (go_at_call 11; refine (R2.out wa HLa.out).mono ?_; rintro e wb ⟨rfl, hb⟩; have HBb := Lib.hid (HBa.out.trans (hb.mono HBa.out.size)); have HLb := Lib.hid (HLa.out.below hb); have HGb := Lib.hid (glob_below HGa.out hb (Nat.le_refl _)); clear hb)
      | (go_at_call 13; refine (P1.out wb HLb.out HGb.out).mono ?_; rintro e wc ⟨v1, rfl, ho1, hb⟩; have HO1 := Lib.hid ho1; have HBc := Lib.hid (HBb.out.trans (hb.mono HBb.out.size)); have HLc := Lib.hid (HLb.out.below hb); have HGc := Lib.hid (glob_below HGb.out hb (Nat.le_refl _)); clear hb ho1)
      | (go_at_call 14; refine (P2.out wc HLc.out).mono ?_; rintro e wd ⟨v2, rfl, ho2, hb⟩; have HO2 := Lib.hid ho2; have HOd := Lib.hid (own_below HO1.out hb); have HBd := Lib.hid (HBc.out.trans (hb.mono HBc.out.size)); have HGd := Lib.hid (glob_below HGc.out hb (Nat.le_refl _)); clear hb ho2; refine stop ?_))
    unfold Stop
    obtain ⟨A1, c1, rfl⟩ := own_slice HOd.out
    obtain ⟨A2, c2, rfl⟩ := own_slice HO2.out
    have S := Lib.hid (rsame_any A1 A2 c1 c2 pd pd wd (IdsAt.of_own HOd.out PS2.out) (IdsAt.of_own HO2.out PS2.out) (by unfold maxLen; omega) (by unfold maxLen; omega))
    go_wp2_with (first
      | (go_at_call 12; refine S.out.mono ?_; rintro e we ⟨rfl, n, rfl⟩; rw [show decide (pd = pd) = true by simp])
      | (go_at_call 9; refine (awake_any (wd.drewN n) (glob_below HGd.out (below_drewN (Below.refl wd.heap.size wd)) (Nat.le_refl _))).mono ?_; rintro e wf ⟨rfl, hb⟩; have HBf := Lib.hid ((below_drewN HBd.out).trans (hb.mono HBd.out.size)); clear hb))
    go_ret
    exact ⟨rfl, HBf.out⟩
theorem tells_law (A : Option Addr) (c : Nat) (ls : List (List B8)) (z : Int) (w : World) (hL : LstN w A ls) (hm : ls.length ≤ maxLen) (hA : A = none → c = 0) (hc : ls.length ≤ c) {p : Prop} (_ : p) (hG : Glob w) :
    Calls Tryd.prog 3 #[.slice A ls.length c, .int .i64 z] w fun e w' => e = .returned (.bool true) ∧ Below w.heap.size w w' := tells_any A c ls z w hL hA hc hm hG
end Go.Proofs.YtppkjlmnnpfcfaaDoor
