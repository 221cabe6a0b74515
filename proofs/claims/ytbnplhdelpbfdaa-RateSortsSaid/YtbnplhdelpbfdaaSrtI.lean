/- The library's stable sort at rates: a stretch sorted by insertion. -/
import Derived.Test.YtbnplhdelpbfdaaSrtR
set_option linter.unusedVariables false
set_option linter.unusedSimpArgs false
namespace Go.Proofs.Ytbnplhdelpbfdaa
open Go.RowKit
open Flt (nan key lessB cmpI S)
attribute [local go_sem] run_store_f
theorem FD.drewN {w : World} {g : Nat} {D : List Nat} (h : FD w g D) (n : Nat) : FD (w.drewN n) g D := h
theorem cmp_quiet (a b : Nat) (w : World) (n : Nat) (wa : a < 18446744073709551616) (wb : b < 18446744073709551616) :
    Calls Try.prog 15 #[.float .f64 a, .float .f64 b] (w.drewN n) fun e w'' => e = .returned (.int .i64 (cmpI b a)) ∧ ∃ m, w'' = w.drewN m := (cmp_any a b _ wa wb).mono fun _ _ ⟨h, e⟩ => ⟨h, n, e.symm⟩
def Wf (l : List Nat) : Prop := ∀ x ∈ l, x < 18446744073709551616
theorem Wf.perm {a b : List Nat} (h : Wf a) (p : b.Perm a) : Wf b := fun x hx => h x (p.mem_iff.1 hx)
theorem Wf.gd {l : List Nat} (h : Wf l) {i : Nat} (hi : i < l.length) : gd l i < 18446744073709551616 := h _ (gd_mem hi)
theorem srt_ins {S1 S2 : List Nat} {z : Nat} (h : Srt (S1 ++ S2)) (h2 : ∀ y ∈ S2, key y ≤ key z) (h1 : ∀ y ∈ S1, key z ≤ key y) : Srt (S1 ++ z :: S2) := by
  obtain ⟨a, b, c⟩ := srt_app.1 h
  refine srt_app.2 ⟨a, List.pairwise_cons.2 ⟨h2, b⟩, fun x hx y hy => ?_⟩
  rcases List.mem_cons.1 hy with rfl | hy
  · exact h1 x hx
  · exact c x hx y hy
theorem srt_last {S1 : List Nat} {u : Nat} (h : Srt (S1 ++ [u])) : ∀ y ∈ S1 ++ [u], key u ≤ key y := by
  intro y hy
  obtain ⟨a, b, c⟩ := srt_app.1 h
  rcases List.mem_append.1 hy with hy | hy
  · exact c y hy u (by simp)
  · simp at hy; subst hy; exact Nat.le_refl _
set_option maxRecDepth 100000 in
set_option maxHeartbeats 4000000 in
theorem insert_any (g c N a b : Nat) (P X R : List Nat) (w : World) (hD : FD w g (P ++ (X ++ R))) (hN : (P ++ (X ++ R)).length = N) (hN2 : N ≤ 1099511627776) (ha : a = P.length) (hb : b = P.length + X.length) (hwf : Wf X) :
    Calls Try.prog 24 #[.slice (some ⟨g, 0, none⟩) N c, .int .i64 (a : Int), .int .i64 (b : Int), (.func (.func 15) #[] #[])] w fun e w' => e = .returned (.tuple #[]) ∧ (∃ Y : List Nat, Y.Perm X ∧ Srt Y ∧ FD w' g (P ++ (Y ++ R))) ∧ Turn (fun i => i = g) w w' := by
  have hbN : b ≤ N := by have := hN; simp at this; omega
  have haN : a ≤ b := by omega
  cases X with
  | nil =>
    have t0 : decide ((a : Int) + 1 < (b : Int)) = false := by rw [decide_eq_false_iff_not]; simp at hb; omega
    have HD := Lib.hid hD
    clear hN ha hb hwf hD
    go_enter Try.func24, Try.ntmps24
    go_wp2_with fail
    go_loopw [8] (fun i wr => i = .int .i64 ((a : Int) + 1) ∧ wr = w) (fun i _ => 0)
    case atStart => exact ⟨rfl, rfl⟩
    case round =>
      obtain ⟨rfl, rfl⟩ := hrel
      go_wp2
      go_end0
      exact ⟨rfl, ⟨[], List.Perm.refl _, List.Pairwise.nil, HD.out⟩, Turn.refl _ _⟩
  | cons x0 X0 =>
    have HD := Lib.hid hD
    have HB := Lib.hid (And.intro ha hb)
    have HN := Lib.hid hN
    have HW := Lib.hid hwf
    have hab : a < b := by simp at hb; omega
    clear hD ha hb hN hwf
    go_enter Try.func24, Try.ntmps24
    go_wp2_with fail
    go_loopw [8, 9] (fun i _ wr => ∃ (k : Nat) (Y Z : List Nat), a < k ∧ k ≤ b ∧ i = .int .i64 (k : Int) ∧ k = P.length + Y.length ∧ (Y ++ Z).Perm (x0 :: X0) ∧ Srt Y ∧ FD wr g (P ++ (Y ++ (Z ++ R))) ∧ Turn (fun i => i = g) w wr) (fun i _ _ => b - (intOf i).toNat)
    case atStart => exact ⟨a + 1, [x0], X0, by omega, by omega, by go_num, by rw [HB.out.1]; rfl, List.Perm.refl _, List.pairwise_singleton _ _, HD.out, Turn.refl _ _⟩
    case round =>
      obtain ⟨k, Y, Z, hak, hkb, rfl, hk, hp, hs, hF, ht⟩ := hrel
      by_cases hlt : k < b
      · have t0 : decide ((k : Int) < (b : Int)) = true := by rw [decide_eq_true_eq]; omega
        have hzl : Z.length = b - k := by
          have h1 := hp.length_eq
          have h2 := HB.out.2
          simp at h1 h2; omega
        obtain ⟨z, Z', rfl⟩ : ∃ z Z', Z = z :: Z' := by
          cases Z with
          | nil => simp at hzl; omega
          | cons z Z' => exact ⟨z, Z', rfl⟩
        have HF := Lib.hid hF
        have HP := Lib.hid (And.intro hp hs)
        have HT := Lib.hid ht
        have HK := Lib.hid hk
        have wz : z < 18446744073709551616 := HW.out z (hp.mem_iff.1 (by simp))
        have WY := Lib.hid (fun y (hy : y ∈ Y) => HW.out y (hp.mem_iff.1 (List.mem_append_left _ hy)))
        clear hF hp hs ht hk hzl
        go_wp2_with fail
        go_loopw [9] (fun j w3 => ∃ (q : Nat) (S1 S2 : List Nat), a ≤ q ∧ q ≤ k ∧ j = .int .i64 (q : Int) ∧ q = P.length + S1.length ∧ Y = S1 ++ S2 ∧ (∀ y ∈ S2, key y < key z) ∧ FD w3 g (P ++ (S1 ++ z :: (S2 ++ (Z' ++ R)))) ∧ Turn (fun i => i = g) w w3) (fun j _ => (intOf j).toNat)
        case atStart => exact ⟨k, Y, [], by omega, Nat.le_refl _, rfl, HK.out, by simp, (fun y h => by cases h), HF.out, HT.out⟩
        case round =>
          obtain ⟨q, S1, S2, haq, hqk, rfl, hq, hY, h2, hF3, ht3⟩ := hrel
          rcases List.eq_nil_or_concat S1 with rfl | ⟨S1', u, hSS⟩
          · have t1 : decide (a < q) = false := by rw [decide_eq_false_iff_not]; have := HB.out.1; simp at hq; omega
            have HE := Lib.hid (And.intro hY (And.intro h2 (And.intro hF3 ht3)))
            clear hY h2 hF3 ht3 hq
            go_wp2_with fail
            go_quiet (fail)
            go_wp2_with fail
            go_roundw
            case rel =>
              refine ⟨k + 1, [] ++ z :: S2, Z', by omega, by omega, by go_num, ?_, ?_, ?_, ?_, HE.out.2.2.2.drewN _⟩
              · have h1 := HK.out
                have h3 := HE.out.1
                rw [h3] at h1; simp at h1 ⊢; omega
              · have h3 := HE.out.1
                rw [h3] at HP
                refine List.Perm.trans ?_ HP.out.1
                simp only [List.nil_append, List.cons_append]
                exact List.perm_middle.symm
              · have h3 := HE.out.1
                rw [h3] at HP
                exact srt_ins HP.out.2 (fun y hy => Nat.le_of_lt (HE.out.2.1 y hy)) (fun y hy => by cases hy)
              · have h4 := HE.out.2.2.1.drewN
                simpa using h4 _
            case measure => simp [intOf]; omega
          · rw [List.concat_eq_append] at hSS
            subst hSS
            obtain ⟨p, hp'⟩ : ∃ p, p = P.length + S1'.length := ⟨_, rfl⟩
            obtain rfl : q = p + 1 := by simp at hq; omega
            have t1 : decide (a < p + 1) = true := by rw [decide_eq_true_eq]; have := HB.out.1; omega
            have t1' : decide ((a : Int) < (p : Int) + 1) = true := by rw [decide_eq_true_eq]; have := HB.out.1; omega
            have wu : u < 18446744073709551616 := WY.out u (by rw [hY]; simp)
            obtain ⟨E, hE⟩ : ∃ E, E = P ++ ((S1' ++ [u]) ++ z :: (S2 ++ (Z' ++ R))) := ⟨_, rfl⟩
            have hE2 : E = (P ++ S1') ++ u :: z :: (S2 ++ (Z' ++ R)) := by rw [hE]; simp
            have hpl : p = (P ++ S1').length := by rw [hp']; simp
            rw [← hE] at hF3
            have hEl : p + 1 < E.length := by rw [hE2, hpl]; simp; omega
            have eu : gd E p = u := by rw [hE2, hpl]; exact gd_at
            have ez : gd E (p + 1) = z := by
              have := gd_mid (a := P ++ S1') (b := u :: z :: (S2 ++ (Z' ++ R))) 1
              rw [hE2, hpl]; exact this
            obtain ⟨c1, z1⟩ := hF3.cell (c := p + 1) hEl
            obtain ⟨c2, z2⟩ := hF3.cell (c := p) (by omega)
            rw [ez] at c1
            rw [eu] at c2
            have hqN : (p : Int) + 1 < (N : Int) := by omega
            have hqN0 : (0 : Int) ≤ (p : Int) + 1 := by omega
            have hqN1 : (p : Int) < (N : Int) := by omega
            have hwp : IntKind.i64.wrap (p : Int) = (p : Int) := IntWalk.i64_in _ (by omega)
            have hqN2 : ((p : Int) + 1).toNat = p + 1 := by omega
            have CM := Lib.hid (fun w n => cmp_quiet z u w n wz wu)
            have tc := cmp_neg z u
            by_cases hzu : key u < key z
            · rw [show decide (key u < key z) = true by simp [hzu]] at tc
              have HE := Lib.hid (And.intro hY (And.intro h2 (And.intro hF3 (And.intro ht3 (And.intro hE2 hpl)))))
              have HU := Lib.hid (And.intro hzu (And.intro eu ez))
              clear hY h2 hF3 ht3 hq hp' hE hE2 hpl hEl eu ez wz wu hzu
              go_wp2_with fail
              go_quiet (exact CM.out _ _)
              go_wp2_with fail
              go_upto_region 6 with fail
              go_region
              go_wp2_with fail
              go_roundw
              case rel =>
                have hsw : FD (((wr.drewN (nq + 1)).setCell ⟨g, p + 1, none⟩ (.float .f64 u)).setCell ⟨g, p, none⟩ (.float .f64 z)) g (swp E (p + 1) p) := by
                  have := (HE.out.2.2.1.drewN (nq + 1)).swp (p + 1) p
                  rw [HU.out.2.1, HU.out.2.2] at this; exact this
                rw [HE.out.2.2.2.2.1, swp_prev HE.out.2.2.2.2.2 (by rw [HE.out.2.2.2.2.2])] at hsw
                refine ⟨p, S1', u :: S2, ?_, by omega, by go_num, ?_, ?_, ?_, ?_, ?_⟩
                · have := HB.out.1; have := HE.out.2.2.2.2.2; simp at this; omega
                · have := HE.out.2.2.2.2.2; simpa using this
                · rw [HE.out.1]; simp
                · intro y hy
                  rcases List.mem_cons.1 hy with rfl | hy
                  · exact HU.out.1
                  · exact HE.out.2.1 y hy
                · simpa using hsw
                · exact (HE.out.2.2.2.1.drewN (nq + 1)).trans (swp_turn _ g (p + 1) p _ _) (fun _ _ h => h)
              case measure => simp [intOf]
            · rw [show decide (key u < key z) = false by simp; omega] at tc
              have HE := Lib.hid (And.intro hY (And.intro h2 (And.intro hF3 (And.intro ht3 (And.intro hE2 hpl)))))
              have HU := Lib.hid (show key z ≤ key u by omega)
              clear hY h2 hF3 ht3 hq hp' hE hE2 hpl hEl eu ez wz wu hzu
              go_wp2_with fail
              go_quiet (exact CM.out _ _)
              go_wp2_with fail
              go_roundw
              case rel =>
                have hYe := HE.out.1
                rw [hYe] at HP
                refine ⟨k + 1, (S1' ++ [u]) ++ z :: S2, Z', by omega, by omega, by go_num, ?_, ?_, ?_, ?_, HE.out.2.2.2.1.drewN _⟩
                · have h1 := HK.out
                  rw [hYe] at h1; simp at h1 ⊢; omega
                · refine List.Perm.trans ?_ HP.out.1
                  rw [List.append_assoc, List.append_assoc (S1' ++ [u])]
                  refine List.Perm.append_left _ ?_
                  exact List.perm_middle.symm
                · have hsl := srt_last (srt_app.1 HP.out.2).1
                  exact srt_ins HP.out.2 (fun y hy => Nat.le_of_lt (HE.out.2.1 y hy)) (fun y hy => Nat.le_trans HU.out (hsl y hy))
                · have h4 := HE.out.2.2.1.drewN nq
                  rw [HE.out.2.2.2.2.1] at h4
                  simpa using h4
              case measure => simp [intOf]; omega
      · obtain rfl : k = b := by omega
        have t0 : decide ((k : Int) < (k : Int)) = false := by rw [decide_eq_false_iff_not]; omega
        have hZ : Z = [] := by
          have h1 := hp.length_eq
          have h2 := HB.out.2
          simp at h1 h2
          exact List.length_eq_zero_iff.1 (by omega)
        subst hZ
        rw [List.append_nil] at hp
        have HE := Lib.hid (And.intro hp (And.intro hs (And.intro hF ht)))
        clear hp hs hF ht hk
        go_wp2
        go_end0
        exact ⟨rfl, ⟨Y, HE.out.1, HE.out.2.1, by simpa using HE.out.2.2.1⟩, HE.out.2.2.2⟩
end Go.Proofs.Ytbnplhdelpbfdaa
