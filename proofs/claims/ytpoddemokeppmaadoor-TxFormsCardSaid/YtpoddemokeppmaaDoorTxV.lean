/- 'TxOwners': its walk. -/
import Derived.Test.YtpoddemokeppmaaDoorTxU
set_option linter.unusedVariables false
set_option linter.unusedSimpArgs false
namespace Go.Proofs.YtpoddemokeppmaaDoor
open Go.RowKit
set_option maxRecDepth 100000 in
theorem awake_b (w : World) : Calls Tryd.prog 7 #[] w fun e w' => e = .returned (.bool true) ∧ Below w.heap.size w w' := (awake_any w).mono fun _ _ ⟨h1, h2⟩ => ⟨h1, turn_stp h2⟩
set_option maxRecDepth 100000 in
theorem txOwners_walk (A : Option Addr) (c : Nat) (a : List B8) (A' : Option Addr) (c' : Nat) (b : List B8) (w : World) (hs : Sl w w.heap.size A (a.map bv)) (hm : a.length ≤ maxLen) (hA : A = none → c = 0) (hc : a.length ≤ c)
    (hs' : Sl w w.heap.size A' (b.map bv)) (hm' : b.length ≤ maxLen) (hA' : A' = none → c' = 0) (hc' : b.length ≤ c') (hG : Glob w) :
    Calls Tryd.prog 5 #[.slice A a.length c, .slice A' b.length c'] w fun e w' => e = .returned (.bool true) ∧ Below w.heap.size w w' := by
  have hmm := hm
  have hmm' := hm'
  unfold maxLen at hmm hmm'
  have AW := Lib.hid awake_b
  by_cases hbig : 100 < a.length ∨ 100 < b.length
  · have HB := Lib.hid hbig
    generalize a.length = n at *
    generalize b.length = m at *
    clear hs hs' hbig
    go_enter Tryd.func5, Tryd.ntmps5
    go_wp2_with (go_at_call 7; refine (AW.out _).mono ?_; rintro r w1 ⟨rfl, h1⟩)
    all_goals
      first
        | (go_ret; exact ⟨rfl, h1⟩)
        | (exfalso; have := HB.out; omega)
  · have h100 : a.length ≤ 100 ∧ b.length ≤ 100 := by omega
    obtain ⟨ha, hb⟩ := h100
    have R := Lib.hid (rbytes_any A A' c c' _ _ a b w hs hs' hm hm')
    have HBa := Lib.hid (Bts.of_sl hs)
    have HBb := Lib.hid (Bts.of_sl hs')
    have HGl := Lib.hid hG
    obtain ⟨CA, hCA⟩ : ∃ CA, CA = ((ownD a).map bv).toArray := ⟨_, rfl⟩
    obtain ⟨CB, hCB⟩ : ∃ CB, CB = ((ownD b).map bv).toArray := ⟨_, rfl⟩
    have eqA := fun w => eql_id (ownD a) (ownD a) (ownD_len a) (ownD_len a) w
    have eqB := fun w => eql_id (ownD a) (ownD b) (ownD_len a) (ownD_len b) w
    have OA := Lib.hid (fun (w' : World) (k : Below w.heap.size w w') => owner_any A c a w' (HBa.out.below k) hc (HGl.out.below k HGl.out.1) (by omega))
    have OB := Lib.hid (fun (w' : World) (k : Below w.heap.size w w') => owner_any A' c' b w' (HBb.out.below k) hc' (HGl.out.below k HGl.out.1) (by omega))
    have RA := Lib.hid (fun (w' : World) (k : Below w.heap.size w w') => rowner_any A c a w' (HBa.out.below k) hA hc (by omega))
    have RB := Lib.hid (fun (w' : World) (k : Below w.heap.size w w') => rowner_any A' c' b w' (HBb.out.below k) hA' hc' (by omega))
    rw [← hCA] at eqA eqB OA RA
    rw [← hCB] at eqB OB RB
    rw [show decide (ownD a = ownD a) = true by simp] at eqA
    have HSAME := Lib.hid (fun h : a = b => show decide (ownD a = ownD b) = true by rw [h]; simp)
    generalize decide (ownD a = ownD b) = r at *
    have he1 : ¬ (100 : Int) < (a.length : Int) := by omega
    have he2 : ¬ (100 : Int) < (b.length : Int) := by omega
    have HST := Lib.hid (fun (x y : World) (h : Below w.heap.size w x) (k : Below x.heap.size x y) => show Below w.heap.size w y from h.trans (k.mono h.size))
    by_cases hab : a = b
    · have hr := HSAME.out hab
      rw [show decide (a = b) = true by simp [hab]] at R
      subst hr
      have EA := Lib.hid eqA
      clear hs hs' hG hCA hCB hab hbig ha hb HSAME
      go_enter Tryd.func5, Tryd.ntmps5
      go_wp2_with fail
      refine R.out.mono ?_
      rintro e w1 ⟨rfl, n1, rfl⟩
      have H1 := Lib.hid (show Below w.heap.size w (w.drewN n1) from ⟨rfl, rfl, rfl, Nat.le_refl _, fun _ _ => rfl⟩)
      generalize w.drewN n1 = w1 at *
      go_wp2_with fail
      refine (OA.out _ H1.out).mono ?_
      rintro e w2 ⟨rfl, k2⟩
      have H2 := Lib.hid (HST.out _ _ H1.out k2)
      clear k2
      go_wp2_with fail
      refine (RA.out _ H2.out).mono ?_
      rintro e w3 ⟨rfl, k3⟩
      have H3 := Lib.hid (HST.out _ _ H2.out k3)
      clear k3
      go_wp2_with fail
      refine (OA.out _ H3.out).mono ?_
      rintro e w4 ⟨rfl, k4⟩
      have H4 := Lib.hid (HST.out _ _ H3.out k4)
      clear k4
      go_wp2_with fail
      refine (OB.out _ H4.out).mono ?_
      rintro e w5 ⟨rfl, k5⟩
      have H5 := Lib.hid (HST.out _ _ H4.out k5)
      clear k5
      go_wp2_with fail
      refine (AW.out _).mono ?_
      rintro e w6 ⟨rfl, k6⟩
      have H6 := Lib.hid (HST.out _ _ H5.out k6)
      clear k6
      go_wp2
      go_ret
      exact ⟨rfl, H6.out⟩
    · rw [show decide (a = b) = false by simp [hab]] at R
      clear hs hs' hG hCA hCB hab hbig ha hb HSAME
      cases r
      · go_enter Tryd.func5, Tryd.ntmps5
        go_wp2_with fail
        refine R.out.mono ?_
        rintro e w1 ⟨rfl, n1, rfl⟩
        have H1 := Lib.hid (show Below w.heap.size w (w.drewN n1) from ⟨rfl, rfl, rfl, Nat.le_refl _, fun _ _ => rfl⟩)
        generalize w.drewN n1 = w1 at *
        go_wp2_with fail
        refine (RA.out _ H1.out).mono ?_
        rintro e w2 ⟨rfl, k2⟩
        have H2 := Lib.hid (HST.out _ _ H1.out k2)
        clear k2
        go_wp2_with fail
        refine (RB.out _ H2.out).mono ?_
        rintro e w3 ⟨rfl, k3⟩
        have H3 := Lib.hid (HST.out _ _ H2.out k3)
        clear k3
        go_wp2_with fail
        refine (OA.out _ H3.out).mono ?_
        rintro e w4 ⟨rfl, k4⟩
        have H4 := Lib.hid (HST.out _ _ H3.out k4)
        clear k4
        go_wp2_with fail
        refine (RA.out _ H4.out).mono ?_
        rintro e w5 ⟨rfl, k5⟩
        have H5 := Lib.hid (HST.out _ _ H4.out k5)
        clear k5
        go_wp2_with fail
        refine (OA.out _ H5.out).mono ?_
        rintro e w6 ⟨rfl, k6⟩
        have H6 := Lib.hid (HST.out _ _ H5.out k6)
        clear k6
        go_wp2_with fail
        refine (OB.out _ H6.out).mono ?_
        rintro e w7 ⟨rfl, k7⟩
        have H7 := Lib.hid (HST.out _ _ H6.out k7)
        clear k7
        go_wp2_with fail
        refine (AW.out _).mono ?_
        rintro e w8 ⟨rfl, k8⟩
        have H8 := Lib.hid (HST.out _ _ H7.out k8)
        clear k8
        go_wp2
        go_ret
        exact ⟨rfl, H8.out⟩
      · go_enter Tryd.func5, Tryd.ntmps5
        go_wp2_with fail
        refine R.out.mono ?_
        rintro e w1 ⟨rfl, n1, rfl⟩
        have H1 := Lib.hid (show Below w.heap.size w (w.drewN n1) from ⟨rfl, rfl, rfl, Nat.le_refl _, fun _ _ => rfl⟩)
        generalize w.drewN n1 = w1 at *
        go_wp2_with fail
        refine (RA.out _ H1.out).mono ?_
        rintro e w2 ⟨rfl, k2⟩
        have H2 := Lib.hid (HST.out _ _ H1.out k2)
        clear k2
        go_wp2_with fail
        refine (RB.out _ H2.out).mono ?_
        rintro e w3 ⟨rfl, k3⟩
        have H3 := Lib.hid (HST.out _ _ H2.out k3)
        clear k3
        go_wp2_with fail
        refine (AW.out _).mono ?_
        rintro e w8 ⟨rfl, k8⟩
        have H8 := Lib.hid (HST.out _ _ H3.out k8)
        clear k8
        go_wp2
        go_ret
        exact ⟨rfl, H8.out⟩
end Go.Proofs.YtpoddemokeppmaaDoor
