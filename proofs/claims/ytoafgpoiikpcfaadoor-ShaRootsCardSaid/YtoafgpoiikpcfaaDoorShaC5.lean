/- The document's below. -/
import Derived.Test.YtoafgpoiikpcfaaDoorShaC4
set_option linter.unusedVariables false
namespace Go.Proofs.YtoafgpoiikpcfaaDoor
open Go.RowKit
theorem own_slice' {w : World} {B e s n : Nat} {v : Value} {xs : List Value} (h : w.ownsRow B e s v n xs) : ∃ A c, v = .slice A n c := by
  rcases h.2 with ⟨e, h0⟩ | ⟨g, cap', cur, e, _⟩
  · exact ⟨none, 0, by rw [e, h0]⟩
  · exact ⟨_, _, e⟩
theorem own_none' {w : World} {B e s n c : Nat} {A : Option Addr} {xs : List Value} (h : w.ownsRow B e s (.slice A n c) n xs) : A = none → c = 0 := by
  rcases h.2 with ⟨e, h0⟩ | ⟨g, cap', cur, e, _⟩
  · injection e with e1 e2 e3; exact fun _ => e3
  · injection e with e1 e2 e3; subst e1; exact fun h => by cases h
set_option maxRecDepth 100000 in
set_option maxHeartbeats 2000000 in
theorem below_any (x p k : Nat) (w : World) (hx : x < 18446744073709551616) (hp : p ≤ 1000) (hk2 : 2 ≤ k) (hk3 : k ≤ 3) :
    Calls Tryd.prog 18 #[.int .u64 (x : Int), .int .i64 (p : Int), .int .i64 (k : Int)] w fun e w' => e = .returned (.bool (decide (x ^ k ≤ p * 4294967296 ^ k))) ∧ Below w.heap.size w w' := by
  obtain ⟨i0, hi, hz0, hz1, hz2⟩ := info_parts info_u64
  have DX := Lib.hid (fun w => digits_any x w hx)
  have DP := Lib.hid (fun w => digits_any p w (by omega))
  have HXX := Lib.hid hx
  have hdl : (digL x).length = 4 := rfl
  go_enter Tryd.func18, Tryd.ntmps18
  go_wp2_with (go_at_call 21; refine stopR ?_)
  unfold StopR
  refine (DX.out w).mono ?_
  rintro e w1 ⟨v7, rfl, ho, hb⟩
  obtain ⟨A7, c7, rfl⟩ := own_slice' ho
  have HN1 := Lib.hid (nms_own ho)
  have HB1 := Lib.hid hb
  have hs1 : w.heap.size ≤ w1.heap.size := hb.size
  clear ho hb
  go_upto_region 3 with fail
  obtain ⟨w2, hw2⟩ : ∃ w2, w2 = w1.alloc (.cells #[.int .u64 1] 37) := ⟨_, rfl⟩
  have h12 : Below w1.heap.size w1 w2 := by rw [hw2]; exact (Below.refl _ _).alloc (Nat.le_refl _) _
  have HO2 := Lib.hid (show w2.ownsRow w.heap.size 37 1 (.slice (some ⟨w1.heap.size, 0, none⟩) 1 1) 1 ([1].map uv64) by
    have := own_new w1 w.heap.size 37 [uv64 1] 1 rfl hs1 (by unfold maxLen; omega)
    rw [hw2]; exact this)
  have HB2 := Lib.hid (HB1.out.trans (h12.mono hs1))
  have HN2 := Lib.hid (HN1.out.below h12)
  have hs2 : w.heap.size ≤ w2.heap.size := HB2.out.size
  rw [← hw2]
  clear hw2 h12 HN1 HB1
  go_wp2_with fail
  go_loopw [8, 9] (fun vv iv wr => ∃ (i : Nat) (vl : List Nat), i ≤ k ∧ iv = .int .i64 (i : Int) ∧ vl.length = 1 + 4 * i ∧ valL vl = x ^ i ∧ (∀ d ∈ vl, d < 65536) ∧ wr.ownsRow w.heap.size 37 1 vv (1 + 4 * i) (vl.map uv64) ∧ Below w2.heap.size w2 wr) (fun _ iv _ => k - (intOf iv).toNat)
  case atStart => exact ⟨0, [1], by omega, rfl, rfl, by simp [valL], by simp, HO2.out, Below.refl _ _⟩
  case round =>
    obtain ⟨i, vl, hik, rfl, hvl, hval, hd, ho, hb⟩ := hrel
    have HV := Lib.hid hval
    have HD := Lib.hid hd
    have HBW := Lib.hid hb
    have HNa := Lib.hid (HN2.out.below hb)
    have hsr : w2.heap.size ≤ wr.heap.size := hb.size
    by_cases hlt : i < k
    · have t0 : decide ((i : Int) < (k : Int)) = true := by rw [decide_eq_true_eq]; omega
      obtain ⟨A8, c8, rfl⟩ := own_slice' ho
      have HNv := Lib.hid (nms_own ho)
      have T := Lib.hid (times_any A8 A7 c8 c7 vl (digL x) wr HNv.out HNa.out (by omega) (by rw [hdl]; omega) (by omega) hd (digL_lt x))
      rw [hvl, hdl, digL_val x HXX.out, hval] at T
      clear ho hb hd hval
      go_wp2_with (go_at_call 22; refine stopR ?_)
      unfold StopR
      refine T.out.mono ?_
      rintro e w3 ⟨v9, o, rfl, ho, hvo, hdo, hlo, hb⟩
      have HO3 := Lib.hid (own_lower ho (show w.heap.size ≤ wr.heap.size by omega))
      have HB3 := Lib.hid (HBW.out.trans (hb.mono hsr))
      have HX3 := Lib.hid (And.intro hvo (And.intro hdo hlo))
      clear ho hb hvo hdo hlo
      go_wp2_with fail
      go_roundw
      case rel => exact ⟨i + 1, o, by omega, by go_num, by rw [HX3.out.2.2]; omega, by rw [HX3.out.1, Nat.pow_succ], HX3.out.2.1, by rw [show 1 + 4 * (i + 1) = 1 + 4 * i + 4 by omega]; exact HO3.out, HB3.out⟩
      case measure => simp [intOf]; omega
    · obtain rfl : i = k := by omega
      have t0 : decide ((i : Int) < (i : Int)) = false := by rw [decide_eq_false_iff_not]; omega
      obtain ⟨A8, c8, rfl⟩ := own_slice' ho
      have HNv := Lib.hid (nms_own ho)
      clear ho hb hd hval HN2 HNa HO2
      have HBZ := Lib.hid (HB2.out.trans (HBW.out.mono hs2))
      have hs3 : w.heap.size ≤ wr.heap.size := HBZ.out.size
      clear HBW hsr
      go_wp2_with fail
      obtain ⟨wz, rfl⟩ : ∃ wz, wz = wr := ⟨_, rfl⟩
      go_loopw [10, 11] (fun vv jv wq => ∃ j : Nat, j ≤ 2 * i ∧ jv = .int .i64 (j : Int) ∧ wq.ownsRow wz.heap.size 37 1 vv j ((List.replicate j 0).map uv64) ∧ Below wz.heap.size wz wq) (fun _ jv _ => 2 * i - (intOf jv).toNat)
      case atStart => exact ⟨0, by omega, rfl, World.ownsRow_nil _ _ _ _, Below.refl _ _⟩
      case round =>
        obtain ⟨j, hj, rfl, ho, hb⟩ := hrel
        have HO := Lib.hid ho
        have HBW := Lib.hid hb
        have hsr : wz.heap.size ≤ wr.heap.size := hb.size
        clear ho hb
        by_cases hjl : j < 2 * i
        · have t1 : decide ((j : Int) < 2 * (i : Int)) = true := by rw [decide_eq_true_eq]; omega
          go_wp2_with (at_builtin; refine stopR ?_)
          unfold StopR
          have ha : Below wr.heap.size wr (wr.alloc (.cells #[.int .u64 0] 37)) := (Below.refl _ _).alloc (Nat.le_refl _) _
          have HO3 := Lib.hid (own_below' HO.out ha)
          have HB3 := Lib.hid (HBW.out.trans (ha.mono hsr))
          clear ha
          refine wpList_append_any (o := ⟨some 33, _, _, _, _, _⟩) rfl _ _ 55 rfl wz.heap.size 37 i0 (.int .u64 0) 8 Tryd.underlying55 hi hz0 hz1 hz2 rfl _ j _ rfl HO3.out (some ⟨wr.heap.size, 0, none⟩) 1 1 [uv64 0] rfl (fun h => by cases h) rfl ?_ (uv_one [0]) ?_ ?_ ?_ ?_
          · intro j u hu
            refine ⟨_, rfl, ?_⟩
            match j, hu with
            | 0, hu =>
              obtain rfl : uv64 0 = u := by simpa using hu
              show World.cell? _ ⟨wr.heap.size, 0, none⟩ = _
              rw [cell_of_row _ _ _ _ _ _ (heap_alloc_new wr _)]; rfl
          · unfold maxLen; omega
          · omega
          · simp; omega
          intro v3 w3 g1 g2
          have HO4 := Lib.hid (show w3.ownsRow wz.heap.size 37 1 v3 (j + 1) ((List.replicate (j + 1) 0).map uv64) by rw [List.replicate_succ', List.map_append]; exact g1)
          have HB4 := Lib.hid (HB3.out.grown g2 (by simp; omega) (fun k hk => (HO3.out.lt k hk).1))
          clear g1 g2
          go_wp2_with fail
          go_roundw
          case rel => exact ⟨j + 1, by omega, by go_num, HO4.out, HB4.out⟩
          case measure => simp [intOf]; omega
        · obtain rfl : j = 2 * i := by omega
          have t1 : decide (((2 * i : Nat) : Int) < 2 * (i : Int)) = false := by rw [decide_eq_false_iff_not]; omega
          have t1' : decide (2 * (i : Int) < 2 * (i : Int)) = false := by rw [decide_eq_false_iff_not]; omega
          have HNv2 := Lib.hid (HNv.out.below HBW.out)
          go_wp2_with (go_at_call 21; refine stopR ?_)
          unfold StopR
          refine (DP.out wr).mono ?_
          rintro e w4 ⟨v37, rfl, ho, hb⟩
          obtain ⟨A9, c9, rfl⟩ := own_slice' ho
          have HNp := Lib.hid (nms_own ho)
          have hA9 := own_none' ho
          have HO5 := Lib.hid (own_below' HO.out hb)
          have HB5 := Lib.hid (HBW.out.trans (hb.mono hsr))
          have HNv3 := Lib.hid (HNv2.out.below hb)
          have hs4 : wz.heap.size ≤ w4.heap.size := HB5.out.size
          clear ho hb HO HBW HNv2
          go_wp2_with (at_builtin; refine stopR ?_)
          unfold StopR
          refine wpList_append_any (o := ⟨some 38, _, _, _, _, _⟩) rfl _ _ 55 rfl wz.heap.size 37 i0 (.int .u64 0) 8 Tryd.underlying55 hi hz0 hz1 hz2 rfl _ (2 * i) _ rfl HO5.out A9 4 c9 ((digL p).map uv64) rfl hA9 rfl HNp.out (uv_one (digL p)) ?_ ?_ ?_ ?_
          · unfold maxLen; omega
          · omega
          · omega
          intro v38 w5 g1 g2
          obtain ⟨A10, c10, rfl⟩ := own_slice' g1
          rw [← List.map_append] at g1
          have HNw := Lib.hid (nms_own g1)
          have HB6 := Lib.hid (HB5.out.grown g2 hs4 (fun k hk => (HO5.out.lt k hk).1))
          have HNv4 := Lib.hid (HNv.out.below HB6.out)
          clear g1 g2 HO5 HB5 HNv3 HNp hA9
          obtain ⟨wl, hwl⟩ : ∃ wl, wl = List.replicate (2 * i) 0 ++ digL p := ⟨_, rfl⟩
          rw [← hwl] at HNw
          have hwlen : wl.length = 2 * i + 4 := by rw [hwl, List.length_append, List.length_replicate]; rfl
          have hwd : ∀ d ∈ wl, d < 65536 := fun d hd => by
            rw [hwl] at hd
            rcases List.mem_append.1 hd with h | h
            · rw [List.eq_of_mem_replicate h]; decide
            · exact digL_lt p d h
          have hwv : valL wl = p * 65536 ^ (2 * i) := by
            rw [hwl, valL_append, valL_zeros, digL_val p (by omega), List.length_replicate, Nat.zero_add, Nat.mul_comm]
          have HWD := Lib.hid hwd
          have HWV := Lib.hid hwv
          have hmx : 2 * i + 4 ≤ 1 + 4 * i := by omega
          clear hwl hwd hwv
          go_wp2_with fail
          have DV := Lib.hid (fun (q : Nat) w4 (h : Nms w4 A8 vl) hq => digit_any A8 c8 q vl w4 h (by omega) hq)
          have DW := Lib.hid (fun (q : Nat) w4 (h : Nms w4 A10 wl) hq => digit_any A10 c10 q wl w4 h (by omega) hq)
          rw [hvl] at DV
          rw [hwlen] at DW
          have HBF := Lib.hid (HBZ.out.trans (HB6.out.mono hs3))
          have hres : ∀ b : Bool, (b = true → valL vl ≤ valL wl) → (b = false → valL wl < valL vl) → decide (x ^ i ≤ p * 4294967296 ^ i) = b := fun b h1 h2 => by
            have e1 : valL wl = p * 4294967296 ^ i := by rw [HWV.out, Nat.pow_mul]
            rw [HV.out, e1] at h1 h2
            cases b with
            | true => exact decide_eq_true (h1 rfl)
            | false => exact decide_eq_false (Nat.not_le.2 (h2 rfl))
          have HRS := Lib.hid hres
          clear hres
          obtain ⟨wf, rfl⟩ : ∃ wf, wf = w5 := ⟨_, rfl⟩
          go_loopw [13] (fun zv wq => ∃ z : Int, -1 ≤ z ∧ z ≤ 4 * (i : Int) ∧ zv = .int .i64 z ∧ (∀ j : Nat, z < (j : Int) → j < 1 + 4 * i → vl.getD j 0 = wl.getD j 0) ∧ wq = wf) (fun zv _ => (intOf zv + 1).toNat)
          case atStart => exact ⟨4 * (i : Int), by omega, by omega, by go_num, fun j h1 h2 => by omega, rfl⟩
          case round =>
            obtain ⟨z, hz1', hz2', rfl, heq, rfl⟩ := hrel
            have HE := Lib.hid heq
            clear heq
            by_cases hz0' : 0 ≤ z
            · obtain ⟨q, rfl⟩ : ∃ q : Nat, z = (q : Int) := ⟨z.toNat, by omega⟩
              have t2 : decide ((0 : Int) ≤ (q : Int)) = true := by rw [decide_eq_true_eq]; omega
              have D1 := Lib.hid (DV.out q wr HNv4.out (by omega))
              have D2 := Lib.hid (DW.out q wr HNw.out (by omega))
              have HG16 := Lib.hid (getD_lt16 HD.out q)
              unfold uv64 at D1 D2
              have HLT := Lib.hid (fun (h : vl.getD q 0 < wl.getD q 0) => cmp_top vl wl HD.out q (1 + 4 * i) (by omega) (fun j h1 h2 => HE.out j (by omega) h2) h)
              have HGT := Lib.hid (fun (h : wl.getD q 0 < vl.getD q 0) => cmp_top wl vl HWD.out q (1 + 4 * i) (by omega) (fun j h1 h2 => (HE.out j (by omega) h2).symm) h)
              rw [dsum_all (show vl.length ≤ 1 + 4 * i by omega), dsum_all (show wl.length ≤ 1 + 4 * i by omega)] at HLT HGT
              obtain ⟨dv, hdv⟩ : ∃ d, d = vl.getD q 0 := ⟨_, rfl⟩
              obtain ⟨dw, hdw⟩ : ∃ d, d = wl.getD q 0 := ⟨_, rfl⟩
              rw [← hdv] at D1 HLT HGT HG16
              rw [← hdw] at D2 HLT HGT
              have HDQ := Lib.hid (show dv = dw → vl.getD q 0 = wl.getD q 0 from fun h => by rw [← hdv, ← hdw, h])
              clear hdv hdw
              go_wp2_with (go_at_call 23; refine stopR ?_)
              unfold StopR
              refine D1.out.mono ?_
              rintro e w' ⟨rfl, hw⟩
              rw [hw]
              clear hw w'
              go_wp2_with (go_at_call 23; refine stopR ?_)
              unfold StopR
              refine D2.out.mono ?_
              rintro e w' ⟨rfl, hw⟩
              rw [hw]
              clear hw w'
              by_cases hdd : dv = dw
              · have t3 : ((dv : Int) != (dw : Int)) = false := by rw [hdd]; simp
                have HEQ := Lib.hid (HDQ.out hdd)
                subst hdd
                go_wp2_with fail
                go_roundw
                case rel => exact ⟨(q : Int) - 1, by omega, by omega, by go_num, fun j h1 h2 => by
                  by_cases hjq : j = q
                  · rw [hjq]; exact HEQ.out
                  · exact HE.out j (by omega) h2, by trivial⟩
                case measure => simp [intOf]
              · have t3 : ((dv : Int) == (dw : Int)) = false := beq_false_of_ne (by omega)
                have HQ := Lib.hid (HRS.out (decide (dv < dw)) (fun h => by
                  have h1 := of_decide_eq_true h
                  exact Nat.le_of_lt (HLT.out (by omega))) (fun h => by
                  have h1 := of_decide_eq_false h
                  exact HGT.out (by omega)))
                go_wp2_with (go_at_call 23; refine stopR ?_)
                unfold StopR
                refine D1.out.mono ?_
                rintro e w' ⟨rfl, hw⟩
                rw [hw]
                clear hw w'
                go_wp2_with (go_at_call 23; refine stopR ?_)
                unfold StopR
                refine D2.out.mono ?_
                rintro e w' ⟨rfl, hw⟩
                rw [hw]
                clear hw w'
                go_wp2_with fail
                go_ret
                rw [HQ.out]
                exact ⟨rfl, HBF.out⟩
            · obtain rfl : z = -1 := by omega
              have t2 : decide ((0 : Int) ≤ -1) = false := rfl
              have HQ := Lib.hid (HRS.out true (fun _ => by
                have := cmp_eq vl wl (1 + 4 * i) (fun j hj => HE.out j (by omega) hj)
                rw [dsum_all (show vl.length ≤ 1 + 4 * i by omega), dsum_all (show wl.length ≤ 1 + 4 * i by omega)] at this
                omega) (fun h => by cases h))
              go_wp2_with fail
              go_ret
              rw [HQ.out]
              exact ⟨rfl, HBF.out⟩
end Go.Proofs.YtoafgpoiikpcfaaDoor
