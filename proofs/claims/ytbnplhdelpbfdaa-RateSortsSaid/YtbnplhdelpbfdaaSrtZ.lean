/- 'RateSorts': its walk. -/
import Derived.Test.YtbnplhdelpbfdaaSrtY
set_option linter.unusedVariables false
set_option linter.unusedSimpArgs false
namespace Go.Proofs.Ytbnplhdelpbfdaa
open Go.RowKit
open Flt (nan key lessB cmpI S)
theorem best_none (A : Option Addr) (c : Nat) (w : World) :
    Calls Try.prog 8 #[.slice A 0 c] w fun e w' => e = .returned (.tuple #[.int .i64 0, .bool false]) ∧ w = w' := by
  go_enter Try.func8, Try.ntmps8
  go_wp2
  go_ret2
  exact ⟨rfl, rfl⟩
theorem middle_none (A : Option Addr) (c : Nat) (w : World) :
    Calls Try.prog 9 #[.slice A 0 c] w fun e w' => e = .returned (.float .f64 nanBits) ∧ w = w' := by
  go_enter Try.func9, Try.ntmps9
  go_wp2_with fail
  refine (nan_any _).mono ?_
  rintro e w' ⟨rfl, rfl⟩
  go_wp2
  go_ret
  exact ⟨rfl, rfl⟩
set_option maxRecDepth 100000 in
theorem middle_any (A : Option Addr) (c n : Nat) (l : List Nat) (w : World) (h : Rs w A c n l) (hm : n ≤ 1000) (h0 : 0 < n) :
    Calls Try.prog 9 #[.slice A n c] w fun e w' => (∃ E : List Nat, E.Perm l ∧ Srt E ∧ e = .returned (.float .f64 (gd E (n / 2)))) ∧ Turn (fun _ => False) w w' := by
  have C := Lib.hid (sort_any A c n l w h.s h.a h.c h.n hm h.wf)
  have HN := Lib.hid h.n
  have tz : ((n : Int) == 0) = false := by rw [beq_eq_false_iff_ne]; omega
  obtain ⟨k, hk⟩ : ∃ k, k = n / 2 := ⟨_, rfl⟩
  have hkI : (n : Int).tdiv 2 = (k : Int) := by rw [Int.tdiv_eq_ediv_of_nonneg (by omega)]; omega
  have hkI2 : (n : Int) / 2 = (k : Int) := by omega
  have hkn : (k : Int) < (n : Int) := by omega
  have hkn' : k < n := by omega
  have HK := Lib.hid hk
  rw [← hk]
  clear h hk
  go_enter Try.func9, Try.ntmps9
  go_wp2_with fail
  refine C.out.mono ?_
  rintro r w1 ⟨g, rfl, hg, ⟨E, p1, p2, p3⟩, t1⟩
  obtain ⟨c1, z1⟩ := p3.cell (c := k) (by rw [p1.length_eq, HN.out]; exact hkn')
  have HR := Lib.hid (And.intro p1 (And.intro p2 t1))
  clear p1 p2 p3 t1
  go_wp2_with fail
  go_ret
  exact ⟨⟨E, HR.out.1, HR.out.2.1, rfl⟩, HR.out.2.2⟩
theorem same_quiet (a b : Nat) (w : World) (n : Nat) (wa : a < 18446744073709551616) (wb : b < 18446744073709551616) :
    Calls Try.prog 7 #[.float .f64 a, .float .f64 b] (w.drewN n) fun e w'' => e = .returned (.bool (decide (key a = key b))) ∧ ∃ m, w'' = w.drewN m := (same_any a b _ wa wb).mono fun _ _ ⟨h, e⟩ => ⟨h, n, e.symm⟩
theorem keys_eq {E F : List Nat} (h1 : Srt E) (h2 : Srt F) (p : E.Perm F) {i : Nat} (hi : i < E.length) : key (gd E i) = key (gd F i) := by
  have h := srt_perm h1 h2 p
  have e1 : (E.map key)[i]? = some (key (gd E i)) := by rw [List.getElem?_map, gd_some hi]; rfl
  have e2 : (F.map key)[i]? = some (key (gd F i)) := by rw [List.getElem?_map, gd_some (by rw [← p.length_eq]; exact hi)]; rfl
  rw [h, e2] at e1
  exact (Option.some.inj e1).symm
theorem best_key {l F : List Nat} {b : Nat} (h : BestAt l b) (hb : b < l.length) (hs : Srt F) (p : F.Perm l) : key (gd l b) = key (gd F 0) := by
  have hF : 0 < F.length := by rw [p.length_eq]; omega
  obtain ⟨j, hj, ej⟩ := mem_gd (p.mem_iff.2 (gd_mem hb))
  obtain ⟨i, hi, ei⟩ := mem_gd (p.mem_iff.1 (gd_mem hF))
  have h1 := hs.le (i := 0) (j := j) (by omega) hj
  have h2 := h.1 i hi
  rw [ej] at h1
  rw [ei] at h2
  omega
set_option maxRecDepth 100000 in
set_option maxHeartbeats 8000000 in
theorem rateSorts_any (A : Option Addr) (c n : Nat) (l : List Nat) (w : World) (h : Rs w A c n l) (hn64 : n ≤ maxLen) :
    Calls Try.prog 3 #[.slice A n c] w fun e w' => e = .returned (.bool true) ∧ Turn (fun _ => False) w w' := by
  have AW := Lib.hid awake_any
  unfold maxLen at hn64
  by_cases h100 : 100 < n
  · have t0 : decide (100 < (n : Int)) = true := by rw [decide_eq_true_eq]; omega
    clear h
    go_enter Try.func3, Try.ntmps3
    go_wp2_with (go_at_call 4; refine (AW.out _).mono ?_; rintro r w9 ⟨rfl, rfl⟩)
    go_ret
    exact ⟨rfl, Turn.refl _ _⟩
  have t0 : decide (100 < (n : Int)) = false := by rw [decide_eq_false_iff_not]; omega
  have hn1 : n ≤ 100 := by omega
  have C1 := Lib.hid (sort_any A c n l w h.s h.a h.c h.n (by omega) h.wf)
  have H := Lib.hid h
  clear h h100 hn64
  go_enter Try.func3, Try.ntmps3
  go_wp2_with fail
  refine C1.out.mono ?_
  rintro r w1 ⟨g, rfl, hg, ⟨E, p1, p2, p3⟩, t1⟩
  have C2 := Lib.hid (refSort_any A c n l w1 (H.out.turn t1) (by omega))
  have HE := Lib.hid (And.intro p1 (And.intro p2 (And.intro p3 t1)))
  clear p1 p2 p3 t1 C1
  go_wp2_with fail
  refine C2.out.mono ?_
  rintro r w2 ⟨v, F, rfl, q1, q2, q3, t2⟩
  obtain ⟨Av, cv, rfl, hsl, hFl, hcv, hAv⟩ := own_sl q3
  rw [List.length_map] at hFl
  have hEl : E.length = n := by rw [HE.out.1.length_eq, H.out.n]
  have HK := Lib.hid (fun i (hi : i < n) => keys_eq HE.out.2.1 q2 (HE.out.1.trans q1.symm) (i := i) (by omega))
  have HF := Lib.hid (And.intro q1 (And.intro q2 (And.intro hsl (And.intro hFl hEl))))
  have HT := Lib.hid (HE.out.2.2.2.trans t2 (fun _ _ h => h))
  have HD := Lib.hid (HE.out.2.2.1.turn t2 (fun h => h))
  have WE := Lib.hid (show Wf E ∧ Wf F from ⟨H.out.wf.perm HE.out.1, H.out.wf.perm q1⟩)
  have tne : ((n : Int) != (n : Int)) = false := by simp
  clear q1 q2 q3 t2 C2 hsl hFl hEl hcv hAv
  go_wp2_with fail
  go_loopw [5] (fun i wr => ∃ k : Nat, k ≤ n ∧ i = .int .i64 (k : Int) ∧ Turn (fun _ => False) w2 wr) (fun i _ => n - (intOf i).toNat)
  case atStart => exact ⟨0, Nat.zero_le _, rfl, Turn.refl _ _⟩
  case round =>
    obtain ⟨k, hk, rfl, ht⟩ := hrel
    by_cases hlt : k < n
    · have t1 : decide ((k : Int) < (n : Int)) = true := by rw [decide_eq_true_eq]; omega
      obtain ⟨x, hx⟩ : ∃ x, x = gd E k := ⟨_, rfl⟩
      obtain ⟨y, hy⟩ : ∃ y, y = gd F k := ⟨_, rfl⟩
      obtain ⟨c1, -⟩ := (HD.out.turn ht (fun h => h)).cell (c := k) (by rw [HF.out.2.2.2.2]; exact hlt)
      rw [← hx] at c1
      obtain ⟨adv, hadv, -, c2⟩ := (ht.sl HF.out.2.2.1 (fun _ _ h => h)) k (.float .f64 y) (by rw [List.getElem?_map, gd_some (by rw [HF.out.2.2.2.1]; exact hlt), ← hy]; rfl)
      have CM := Lib.hid (fun w n => same_quiet x y w n (by rw [hx]; exact WE.out.1.gd (by rw [HF.out.2.2.2.2]; exact hlt)) (by rw [hy]; exact WE.out.2.gd (by rw [HF.out.2.2.2.1]; exact hlt)))
      have tc : decide (key x = key y) = true := by rw [decide_eq_true_eq, hx, hy]; exact HK.out k hlt
      have HTR := Lib.hid ht
      subst hadv
      clear hx hy ht
      go_wp2_with fail
      go_quiet (exact CM.out _ _)
      go_wp2_with fail
      go_roundw
      case rel => exact ⟨k + 1, by omega, by go_num, HTR.out.drewN _⟩
      case measure => simp [intOf]; omega
    · obtain rfl : k = n := by omega
      have t1 : decide ((k : Int) < (k : Int)) = false := by rw [decide_eq_false_iff_not]; omega
      have HTR := Lib.hid ht
      clear ht hlt hk
      have HR := Lib.hid (H.out.turn (HT.out.trans HTR.out (fun _ _ h => h)))
      rcases Nat.eq_zero_or_pos k with hk0 | hk0
      · subst hk0
        have CB := Lib.hid (best_none A c wr)
        have CM := Lib.hid (middle_none A c wr)
        have tn := nan_test nanBits
        rw [show decide (nan nanBits) = true by decide +kernel] at tn
        have HTW := Lib.hid (HT.out.trans HTR.out (fun _ _ h => h))
        go_wp2_with fail
        refine CB.out.mono ?_
        rintro r w3 ⟨rfl, rfl⟩
        go_wp2_with fail
        refine CM.out.mono ?_
        rintro r w3 ⟨rfl, rfl⟩
        go_wp2_with fail
        refine (AW.out _).mono ?_
        rintro r w9 ⟨rfl, rfl⟩
        go_wp2
        go_ret
        exact ⟨rfl, HTW.out⟩
      · have CB := Lib.hid (best_any A c k l wr HR.out (by omega) hk0)
        go_wp2_with fail
        refine CB.out.mono ?_
        rintro r w3 ⟨⟨b, hb, hB, rfl⟩, rfl⟩
        have CMd := Lib.hid (middle_any A c k l wr HR.out (by omega) hk0)
        have HBA := Lib.hid hB
        clear hB CB
        go_wp2_with fail
        refine CMd.out.mono ?_
        rintro r w4 ⟨⟨E2, e1, e2, rfl⟩, t4⟩
        have HT4 := Lib.hid (HTR.out.trans t4 (fun _ _ h => h))
        obtain ⟨ad, hA, cb⟩ := (HR.out.turn t4).cell hb
        subst hA
        obtain ⟨x0, hx0⟩ : ∃ x, x = gd l b := ⟨_, rfl⟩
        obtain ⟨y0, hy0⟩ : ∃ y, y = gd F 0 := ⟨_, rfl⟩
        obtain ⟨h, hh⟩ : ∃ h, h = k / 2 := ⟨_, rfl⟩
        obtain ⟨xm, hxm⟩ : ∃ x, x = gd E2 (k / 2) := ⟨_, rfl⟩
        obtain ⟨ym, hym⟩ : ∃ y, y = gd F h := ⟨_, rfl⟩
        have hhk : h < k := by omega
        have hFl := HF.out.2.2.2.1
        have hsl4 := HT4.out.sl HF.out.2.2.1 (fun _ _ h => h)
        obtain ⟨adv, hadv, -, cf0⟩ := hsl4 0 (.float .f64 y0) (by rw [List.getElem?_map, gd_some (by omega), ← hy0]; rfl)
        obtain ⟨adv', hadv', -, cfh⟩ := hsl4 h (.float .f64 ym) (by rw [List.getElem?_map, gd_some (by omega), ← hym]; rfl)
        rw [hadv] at hadv'
        injection hadv' with hadv'
        subst hadv'
        subst hadv
        have cf0' : w4.cell? adv = some (.float .f64 y0) := by simpa [Addr.add] using cf0
        rw [← hx0] at cb
        rw [← hxm]
        have l1 := H.out.n
        have k1 : decide (key x0 = key y0) = true := by
          rw [decide_eq_true_eq, hx0, hy0]
          exact best_key HBA.out (by omega) HF.out.2.1 HF.out.1
        have k2 : decide (key xm = key ym) = true := by
          rw [decide_eq_true_eq, hxm, hym, hh]
          exact keys_eq e2 HF.out.2.1 (e1.trans HF.out.1.symm) (by rw [e1.length_eq]; omega)
        have S1 := Lib.hid (fun w n => same_quiet x0 y0 w n (by rw [hx0]; exact H.out.wf.gd (by omega)) (by rw [hy0]; exact WE.out.2.gd (by omega)))
        have S2 := Lib.hid (fun w n => same_quiet xm ym w n (by rw [hxm]; exact (H.out.wf.perm e1).gd (by rw [e1.length_eq]; omega)) (by rw [hym]; exact WE.out.2.gd (by omega)))
        have hhI : (k : Int) / 2 = (h : Int) := by omega
        have hhI2 : (k : Int).tdiv 2 = (h : Int) := by rw [Int.tdiv_eq_ediv_of_nonneg (by omega)]; omega
        have i1 : decide ((b : Int) < 0) = false := by rw [decide_eq_false_iff_not]; omega
        have i2 : decide ((k : Int) ≤ (b : Int)) = false := by rw [decide_eq_false_iff_not]; omega
        have i2' : decide (k ≤ b) = false := by rw [decide_eq_false_iff_not]; omega
        have i3 : (b : Int) < (k : Int) := by omega
        have i4 : (h : Int) < (k : Int) := by omega
        have i5 : (0 : Int) < (k : Int) := by omega
        have tz : ((k : Int) == 0) = false := by rw [beq_eq_false_iff_ne]; omega
        have HX0 := Lib.hid hx0
        have HT44 := Lib.hid t4
        clear hx0 hy0 hh hxm hym hFl hsl4 l1 e1 e2 t4 CMd
        go_upto_region 15 with fail
        go_quiet (first | with_reducible exact S1.out _ _ | with_reducible exact S2.out _ _)
        generalize wr = wm at *
        obtain ⟨w5, hw5⟩ : ∃ w5, w5 = w4.drewN nq := ⟨_, rfl⟩
        have HT5 := Lib.hid (show Turn (fun _ => False) w w5 by rw [hw5]; exact ((HT.out.trans HT4.out (fun _ _ h => h))).drewN _)
        rw [← hw5]
        clear hw5 cb cf0 cf0' cfh k1 k2 S1 S2 i1 i2 i2' i4 hhI hhI2
        go_wp2_with fail
        go_loopw [9] (fun i wr => ∃ q : Nat, q ≤ b ∧ i = .int .i64 (q : Int) ∧ Turn (fun _ => False) w wr) (fun i _ => b - (intOf i).toNat)
        case atStart => exact ⟨0, Nat.zero_le _, rfl, HT5.out⟩
        case round =>
          obtain ⟨q, hq, rfl, ht⟩ := hrel
          by_cases hqb : q < b
          · have v1 : decide ((q : Int) < (b : Int)) = true := by rw [decide_eq_true_eq]; omega
            have v1' : decide (q < b) = true := by simp [hqb]
            have hR := H.out.turn ht
            obtain ⟨ad1, a1, cq⟩ := hR.cell (k := q) (by omega)
            obtain ⟨ad2, a2, cb⟩ := hR.cell hb
            injection a1 with a1
            injection a2 with a2
            subst a1
            subst a2
            obtain ⟨xq, hxq⟩ : ∃ x, x = gd l q := ⟨_, rfl⟩
            rw [← hxq] at cq
            rw [← HX0.out] at cb
            have hkey : key xq < key x0 := by rw [hxq, HX0.out]; exact HBA.out.2 q hqb
            have CC := Lib.hid (fun w n => refCompare_quiet xq x0 w n (by rw [hxq]; exact H.out.wf.gd (by rw [H.out.n]; omega)) (by rw [HX0.out]; exact H.out.wf.gd (by rw [H.out.n]; exact hb)))
            have tcc : (cmpI xq x0 == 0) = false := by unfold cmpI; rw [if_pos hkey]; rfl
            have HTQ := Lib.hid ht
            have i6 : (q : Int) < (k : Int) := by omega
            clear hR hxq hkey ht
            go_wp2_with fail
            go_quiet (exact CC.out _ _)
            go_wp2_with fail
            go_roundw
            case rel => exact ⟨q + 1, by omega, by go_num, HTQ.out.drewN _⟩
            case measure => simp [intOf]; omega
          · obtain rfl : q = b := by omega
            have v1 : decide ((q : Int) < (q : Int)) = false := by simp
            have HTQ := Lib.hid ht
            clear ht hqb hq
            go_wp2_with fail
            refine (AW.out _).mono ?_
            rintro r w9 ⟨rfl, rfl⟩
            go_wp2
            go_ret
            exact ⟨rfl, HTQ.out⟩
theorem rateSorts_walk (A : Option Addr) (c : Nat) (l : List Nat) (w : World) (hs : Sl w w.heap.size A (l.map fv)) (hA : A = none → c = 0) (hc : l.length ≤ c) (hm : l.length ≤ maxLen) (hw : Wf l) :
    Calls Try.prog 3 #[.slice A l.length c] w fun e w' => e = .returned (.bool true) ∧ Below w.heap.size w w' :=
  (rateSorts_any A c l.length l w ⟨hs, hA, hc, rfl, hw⟩ hm).mono fun _ _ ⟨h, t⟩ => ⟨h, t.below (fun _ _ h => h.elim) (Nat.le_refl _)⟩
end Go.Proofs.Ytbnplhdelpbfdaa
