/- 'VoteMeet': its walk. -/
import Derived.Test.YtmkpoodhhpfgpaaVtM
set_option linter.unusedVariables false
set_option linter.unusedSimpArgs false
namespace Go.Proofs.Ytmkpoodhhpfgpaa
open Go.RowKit
theorem bt_int (a k : Nat) : (((a : Int) / 2 ^ k).tmod 2 == 1) = bt a k := by
  unfold bt
  have h : ((a : Int) / 2 ^ k).tmod 2 = ((a / 2 ^ k % 2 : Nat) : Int) := by
    rw [show ((a : Int) / 2 ^ k) = ((a / 2 ^ k : Nat) : Int) by simp]
    exact (Int.ofNat_tmod _ _).symm
  rw [h]
  generalize a / 2 ^ k % 2 = z
  rw [Bool.eq_iff_iff, beq_iff_eq, decide_eq_true_eq]
  omega
set_option maxRecDepth 100000 in
theorem slice_seven (g m : Nat) (h : m ≤ 7) (w : World) : (Instr.sliceAt 40 (.pointer (some ⟨g, 0, none⟩)) none (some (.int .i64 (m : Int))) none).run Try.prog w = .ok (.slice (some ⟨g, 0, none⟩) m 7) w := by
  have e : Try.prog.arrayLen 40 = 7 := by kernel_rfl
  rw [run_sliceAt_array_h (P := Try.prog) w 40 ⟨g, 0, none⟩ (by kernel_rfl) .i64 (m : Int) (by omega) (by rw [e]; omega)]
  rw [show Try.prog.elem 40 = 3 by kernel_rfl, show (sizeOf 3).run Try.prog w = .ok 1 w by kernel_rfl, e]
  simp [Result.andThen, slicedAt, Addr.add]
set_option maxRecDepth 100000 in
set_option maxHeartbeats 8000000 in
theorem voteMeet_any (n : Int) (a b : Nat) (l : List Int) (w : World) (ha : a < 256) (hb : b < 256) (hl : l.length = 7) :
    Calls Try.prog 6 #[.int .i64 n, .int .u8 (a : Int), .int .u8 (b : Int), .agg (i64s l).toArray] w fun r w' => r = .returned (.bool true) ∧ Turn (fun _ => False) w w' := by
  have AW := Lib.hid awake16_any
  have E1 := enough_any n
  obtain ⟨g, hg⟩ : ∃ g, g = w.heap.size := ⟨_, rfl⟩
  obtain ⟨C, hC⟩ : ∃ C, C = (i64s l).toArray := ⟨_, rfl⟩
  rw [← hC]
  obtain ⟨w0, hw0⟩ : ∃ w0, w0 = w.alloc (.cells C 40) := ⟨_, rfl⟩
  have t0 : Turn (fun _ => False) w w0 := by rw [hw0]; exact (Turn.refl _ _).alloc _
  have g0 : w0.heap[g]? = some (.cells (i64s l).toArray 40 (0, 0)) := by rw [hw0, hg, hC]; exact heap_alloc_new _ _
  have HCL := Lib.hid (fun (w' : World) (k : Turn (fun _ => False) w0 w') (j : Nat) (hj : j < 7) => show w'.cell? ⟨g, j, none⟩ = some (.int .i64 (l[j]?.getD 0)) from by
    rw [cell_of_row _ _ _ _ _ _ (k.heap g0 (fun h => h)), List.getElem?_toArray]
    have hy := List.getElem?_eq_getElem (l := l) (i := j) (by omega)
    rw [hy]
    exact i64s_at hy)
  have HAG0 := Lib.hid (fun (w' : World) (k : Turn (fun _ => False) w0 w') (m : Nat) (hm : 1 ≤ m ∧ m ≤ 7) => show Calls Try.prog 17 #[.slice (some ⟨g, 0, none⟩) m 7] w' fun r w' => _ from by
    have hlen : (l.take m).length = m := by rw [List.length_take]; omega
    have := agreed_turn (some ⟨g, 0, none⟩) 7 (l.take m) w' (fun j u hu => by
      have hjm : j < m := by have := (List.getElem?_eq_some_iff.1 hu).1; rw [i64s_len, hlen] at this; exact this
      unfold i64s at hu
      rw [List.map_take, List.getElem?_take_of_lt hjm] at hu
      exact sl_lit (L := i64s l) (k.heap g0 (fun h => h)) j u hu) (by rw [hlen]; unfold maxLen; omega)
    rw [hlen, show agO (l.take m) = true from decide_eq_true (by rw [hlen]; exact hm)] at this
    exact this)
  have TW := Lib.hid t0
  clear t0 g0 hC
  by_cases h1 : n < 1
  · have e : enN n = 0 := by unfold enN; rw [if_pos (.inl h1)]
    have d1 := decide_eq_true h1
    rw [e] at E1
    have E1 := Lib.hid E1
    clear e h1
    go_enter Try.func6, Try.ntmps6
    go_upto_region 1 with fail
    change Code.wp _ _ _ _ (w.alloc (.cells C 40))
    rw [← hw0, ← hg]
    clear hw0 hg
    go_wp2_with (first
      | (go_at_call 12; refine (E1.out _).mono ?_; rintro r w9 ⟨rfl, hw9⟩; rw [hw9]; clear hw9 w9)
      | (go_at_call 16; refine stop ?_))
    unfold Stop
    refine (AW.out w0).mono ?_
    rintro r w9 ⟨rfl, t9⟩
    have T9 := Lib.hid (TW.out.trans t9 (fun _ _ h => h))
    clear t9
    go_wp2
    go_ret
    exact ⟨rfl, T9.out⟩
  by_cases h2 : 7 < n
  · have e : enN n = 0 := by unfold enN; rw [if_pos (.inr h2)]
    have d1 := decide_eq_false h1
    have d2 := decide_eq_true h2
    rw [e] at E1
    have E1 := Lib.hid E1
    clear e h1 h2
    go_enter Try.func6, Try.ntmps6
    go_upto_region 1 with fail
    change Code.wp _ _ _ _ (w.alloc (.cells C 40))
    rw [← hw0, ← hg]
    clear hw0 hg
    go_wp2_with (first
      | (go_at_call 12; refine (E1.out _).mono ?_; rintro r w9 ⟨rfl, hw9⟩; rw [hw9]; clear hw9 w9)
      | (go_at_call 16; refine stop ?_))
    unfold Stop
    refine (AW.out w0).mono ?_
    rintro r w9 ⟨rfl, t9⟩
    have T9 := Lib.hid (TW.out.trans t9 (fun _ _ h => h))
    clear t9
    go_wp2
    go_ret
    exact ⟨rfl, T9.out⟩
  obtain ⟨m, rfl⟩ : ∃ m : Nat, n = (m : Int) := ⟨n.toNat, by omega⟩
  have hm : 1 ≤ m ∧ m ≤ 7 := by omega
  have d1 := decide_eq_false h1
  have d2 := decide_eq_false h2
  have MT := meet_two a b m hm
  have MF := meet_found a m l hm hl
  have hen := enN_mid m hm
  have HAG1 := fun (w' : World) (k : Turn (fun _ => False) w0 w') => HAG0.out w' k m hm
  generalize agV (l.take m) = v at *
  generalize enN (m : Int) = e at *
  have HAG := Lib.hid HAG1
  clear HAG1
  have HE := Lib.hid hen
  have E1 := Lib.hid E1
  have MT := Lib.hid MT
  have MF := Lib.hid MF
  have HM := Lib.hid hm
  clear h1 h2 hen
  go_enter Try.func6, Try.ntmps6
  go_upto_region 1 with fail
  change Code.wp _ _ _ _ (w.alloc (.cells C 40))
  rw [← hw0, ← hg]
  clear hw0 hg
  go_wp2_with (go_at_call 12; refine (E1.out _).mono ?_; rintro r w9 ⟨rfl, hw9⟩; rw [hw9]; clear hw9 w9)
  go_loopw [10, 11, 12, 13] (fun x y z i wr => ∃ k : Nat, k ≤ m ∧ x = .int .i64 ((cntP (bt a) k : Nat) : Int) ∧ y = .int .i64 ((cntP (bt b) k : Nat) : Int) ∧ z = .int .i64 ((cntP (fun j => bt a j && bt b j) k : Nat) : Int) ∧ i = .int .i64 (k : Int) ∧ Turn (fun _ => False) w0 wr) (fun _ _ _ i _ => m - (intOf i).toNat)
  case atStart => exact ⟨0, Nat.zero_le _, rfl, rfl, rfl, rfl, Turn.refl _ _⟩
  case round =>
    obtain ⟨k, hk, rfl, rfl, rfl, rfl, hT⟩ := hrel
    by_cases hlt : k < m
    · have HA := Lib.hid (cntP_succ (bt a) k)
      have HB := Lib.hid (cntP_succ (bt b) k)
      have HC := Lib.hid (cntP_succ (fun j => bt a j && bt b j) k)
      have hle := cntP_le (bt a) k
      have hle2 := cntP_le (bt b) k
      have hle3 := cntP_le (fun j => bt a j && bt b j) k
      go_wp2
      go_quiet (fail)
      generalize hw9 : wr.drewN _ = w9
      have HTd := Lib.hid (show Turn (fun _ => False) w0 w9 by rw [← hw9]; exact hT.drewN _)
      clear hw9
      rw [bt_int, bt_int]
      generalize cntP (bt a) k = X at *
      generalize cntP (bt b) k = Y at *
      generalize cntP (fun j => bt a j && bt b j) k = Z at *
      generalize bt a k = pa at *
      generalize bt b k = pb at *
      clear hT
      cases pa <;> cases pb
      · go_wp2
        go_roundw
        case rel => exact ⟨k + 1, by omega, by rw [HA.out]; simp, by rw [HB.out]; simp, by rw [HC.out]; simp, by simp, HTd.out⟩
        case measure => simp [intOf]; omega
      · go_wp2
        go_roundw
        case rel => exact ⟨k + 1, by omega, by rw [HA.out]; simp, by rw [HB.out]; simp, by rw [HC.out]; simp, by simp, HTd.out⟩
        case measure => simp [intOf]; omega
      · go_wp2
        go_roundw
        case rel => exact ⟨k + 1, by omega, by rw [HA.out]; simp, by rw [HB.out]; simp, by rw [HC.out]; simp, by simp, HTd.out⟩
        case measure => simp [intOf]; omega
      · go_wp2
        go_roundw
        case rel => exact ⟨k + 1, by omega, by rw [HA.out]; simp, by rw [HB.out]; simp, by rw [HC.out]; simp, by simp, HTd.out⟩
        case measure => simp [intOf]; omega
    · obtain rfl : m = k := by omega
      have HTr := Lib.hid hT
      have hmt := MT.out
      have hsv := slice_seven g m HM.out.2
      have hle := cntP_le (bt a) m
      have hle2 := cntP_le (bt b) m
      generalize cntP (fun j => bt a j && bt b j) m = Z at *
      generalize cntP (bt a) m = X at *
      generalize cntP (bt b) m = Y at *
      obtain ⟨q, hq⟩ : ∃ q, q = decide (X < e) := ⟨_, rfl⟩
      rw [← hq] at MF
      clear hT
      by_cases hx : e ≤ X
      · have x1 : decide ((e : Int) ≤ (X : Int)) = true := decide_eq_true (by omega)
        have x1' := decide_eq_true hx
        have x2 : decide ((X : Int) < (e : Int)) = false := decide_eq_false (by omega)
        have x2' : decide (X < e) = false := decide_eq_false (by omega)
        by_cases hy : e ≤ Y
        · have y1 : decide ((e : Int) ≤ (Y : Int)) = true := decide_eq_true (by omega)
          have y1' := decide_eq_true hy
          have hz := hmt hx hy
          have z1 : ((Z : Int) == 0) = false := by simp; omega
          have z1' : (Z == 0) = false := by simp; omega
          have hqf : q = false := by rw [hq, x2']
          subst hqf
          clear hx hy hmt hz hq
          have AG := Lib.hid (HAG.out wr HTr.out)

          go_wp2_with (go_at_call 17; refine stop ?_)
          unfold Stop
          refine AG.out.mono ?_
          rintro r w2 ⟨rfl, t2⟩
          have HT2 := Lib.hid (HTr.out.trans t2 (fun _ _ h => h))
          have MFq := Lib.hid (show fnd false a l v m = true from MF.out)
          clear t2
          go_wp2
          go_loopw [18, 19] (fun f i wr => ∃ k : Nat, k ≤ m ∧ f = .bool (fnd false a l v k) ∧ i = .int .i64 (k : Int) ∧ Turn (fun _ => False) w0 wr) (fun _ i _ => m - (intOf i).toNat)
          case atStart => exact ⟨0, Nat.zero_le _, by rw [fnd_zero], rfl, HT2.out⟩
          case round =>
            obtain ⟨k, hk, rfl, rfl, hT3⟩ := hrel
            by_cases hlt : k < m
            · have hcell := HCL.out wr hT3 k (by omega)
              have hs := fnd_succ false a l v k
              have hbt := bt_int a k
              generalize fnd false a l v k = f0 at *
              generalize l[k]?.getD 0 = y at *
              have HS := Lib.hid hs
              have HT3 := Lib.hid hT3
              clear hs hT3
              cases f0 with
              | true =>
                go_wp2
                go_roundw
                case rel => exact ⟨k + 1, by omega, by rw [HS.out]; rfl, by simp, HT3.out⟩
                case measure => simp [intOf]; omega
              | false =>
              cases hb : bt a k with
              | false =>
                rw [hb] at hbt HS
                clear hb
                go_wp2
                go_roundw
                case rel => exact ⟨k + 1, by omega, by rw [HS.out]; rfl, by simp, HT3.out⟩
                case measure => simp [intOf]; omega
              | true =>
                rw [hb] at hbt HS
                clear hb
                generalize hd : decide (v ≤ y) = dv at *
                go_wp2
                go_roundw
                case rel => exact ⟨k + 1, by omega, by rw [HS.out]; rfl, by simp, HT3.out⟩
                case measure => simp [intOf]; omega
            · obtain rfl : m = k := by omega
              rw [MFq.out]
              have HT3 := Lib.hid (TW.out.trans hT3 (fun _ _ h => h))
              go_wp2_with (go_at_call 16; refine stop ?_)
              unfold Stop
              refine (AW.out wr).mono ?_
              rintro r w9 ⟨rfl, t9⟩
              have T9 := Lib.hid (HT3.out.trans t9 (fun _ _ h => h))
              clear t9
              go_wp2
              go_ret
              exact ⟨rfl, T9.out⟩
        · have y1 : decide ((e : Int) ≤ (Y : Int)) = false := decide_eq_false (by omega)
          have y1' := decide_eq_false hy
          have hqf : q = false := by rw [hq, x2']
          subst hqf
          clear hx hy hmt hq
          have AG := Lib.hid (HAG.out wr HTr.out)

          go_wp2_with (go_at_call 17; refine stop ?_)
          unfold Stop
          refine AG.out.mono ?_
          rintro r w2 ⟨rfl, t2⟩
          have HT2 := Lib.hid (HTr.out.trans t2 (fun _ _ h => h))
          have MFq := Lib.hid (show fnd false a l v m = true from MF.out)
          clear t2
          go_wp2
          go_loopw [18, 19] (fun f i wr => ∃ k : Nat, k ≤ m ∧ f = .bool (fnd false a l v k) ∧ i = .int .i64 (k : Int) ∧ Turn (fun _ => False) w0 wr) (fun _ i _ => m - (intOf i).toNat)
          case atStart => exact ⟨0, Nat.zero_le _, by rw [fnd_zero], rfl, HT2.out⟩
          case round =>
            obtain ⟨k, hk, rfl, rfl, hT3⟩ := hrel
            by_cases hlt : k < m
            · have hcell := HCL.out wr hT3 k (by omega)
              have hs := fnd_succ false a l v k
              have hbt := bt_int a k
              generalize fnd false a l v k = f0 at *
              generalize l[k]?.getD 0 = y at *
              have HS := Lib.hid hs
              have HT3 := Lib.hid hT3
              clear hs hT3
              cases f0 with
              | true =>
                go_wp2
                go_roundw
                case rel => exact ⟨k + 1, by omega, by rw [HS.out]; rfl, by simp, HT3.out⟩
                case measure => simp [intOf]; omega
              | false =>
              cases hb : bt a k with
              | false =>
                rw [hb] at hbt HS
                clear hb
                go_wp2
                go_roundw
                case rel => exact ⟨k + 1, by omega, by rw [HS.out]; rfl, by simp, HT3.out⟩
                case measure => simp [intOf]; omega
              | true =>
                rw [hb] at hbt HS
                clear hb
                generalize hd : decide (v ≤ y) = dv at *
                go_wp2
                go_roundw
                case rel => exact ⟨k + 1, by omega, by rw [HS.out]; rfl, by simp, HT3.out⟩
                case measure => simp [intOf]; omega
            · obtain rfl : m = k := by omega
              rw [MFq.out]
              have HT3 := Lib.hid (TW.out.trans hT3 (fun _ _ h => h))
              go_wp2_with (go_at_call 16; refine stop ?_)
              unfold Stop
              refine (AW.out wr).mono ?_
              rintro r w9 ⟨rfl, t9⟩
              have T9 := Lib.hid (HT3.out.trans t9 (fun _ _ h => h))
              clear t9
              go_wp2
              go_ret
              exact ⟨rfl, T9.out⟩
      · have x1 : decide ((e : Int) ≤ (X : Int)) = false := decide_eq_false (by omega)
        have x1' := decide_eq_false hx
        have x2 : decide ((X : Int) < (e : Int)) = true := decide_eq_true (by omega)
        have x2' : decide (X < e) = true := decide_eq_true (by omega)
        have hqf : q = true := by rw [hq, x2']
        subst hqf
        clear hx hmt hq
        have AG := Lib.hid (HAG.out wr HTr.out)

        go_wp2_with (go_at_call 17; refine stop ?_)
        unfold Stop
        refine AG.out.mono ?_
        rintro r w2 ⟨rfl, t2⟩
        have HT2 := Lib.hid (HTr.out.trans t2 (fun _ _ h => h))
        have MFq := Lib.hid (show fnd true a l v m = true from MF.out)
        clear t2
        go_wp2
        go_loopw [18, 19] (fun f i wr => ∃ k : Nat, k ≤ m ∧ f = .bool (fnd true a l v k) ∧ i = .int .i64 (k : Int) ∧ Turn (fun _ => False) w0 wr) (fun _ i _ => m - (intOf i).toNat)
        case atStart => exact ⟨0, Nat.zero_le _, by rw [fnd_zero], rfl, HT2.out⟩
        case round =>
          obtain ⟨k, hk, rfl, rfl, hT3⟩ := hrel
          by_cases hlt : k < m
          · have hcell := HCL.out wr hT3 k (by omega)
            have hs := fnd_succ true a l v k
            have hbt := bt_int a k
            generalize fnd true a l v k = f0 at *
            generalize l[k]?.getD 0 = y at *
            have HS := Lib.hid hs
            have HT3 := Lib.hid hT3
            clear hs hT3
            cases f0 with
            | true =>
              go_wp2
              go_roundw
              case rel => exact ⟨k + 1, by omega, by rw [HS.out]; rfl, by simp, HT3.out⟩
              case measure => simp [intOf]; omega
            | false =>
            cases hb : bt a k with
            | false =>
              rw [hb] at hbt HS
              clear hb
              go_wp2
              go_roundw
              case rel => exact ⟨k + 1, by omega, by rw [HS.out]; rfl, by simp, HT3.out⟩
              case measure => simp [intOf]; omega
            | true =>
              rw [hb] at hbt HS
              clear hb
              generalize hd : decide (v ≤ y) = dv at *
              go_wp2
              go_roundw
              case rel => exact ⟨k + 1, by omega, by rw [HS.out]; rfl, by simp, HT3.out⟩
              case measure => simp [intOf]; omega
          · obtain rfl : m = k := by omega
            rw [MFq.out]
            have HT3 := Lib.hid (TW.out.trans hT3 (fun _ _ h => h))
            go_wp2_with (go_at_call 16; refine stop ?_)
            unfold Stop
            refine (AW.out wr).mono ?_
            rintro r w9 ⟨rfl, t9⟩
            have T9 := Lib.hid (HT3.out.trans t9 (fun _ _ h => h))
            clear t9
            go_wp2
            go_ret
            exact ⟨rfl, T9.out⟩
theorem voteMeet_walk (n : Int) (a b : Nat) (l : List Int) (w : World) (ha : a < 256) (hb : b < 256) (hl : l.length = 7) :
    Calls Try.prog 6 #[.int .i64 n, .int .u8 (a : Int), .int .u8 (b : Int), .agg (i64s l).toArray] w fun r w' => r = .returned (.bool true) ∧ Below w.heap.size w w' :=
  (voteMeet_any n a b l w ha hb hl).mono fun _ _ ⟨h1, h2⟩ => ⟨h1, below_of h2⟩
end Go.Proofs.Ytmkpoodhhpfgpaa
