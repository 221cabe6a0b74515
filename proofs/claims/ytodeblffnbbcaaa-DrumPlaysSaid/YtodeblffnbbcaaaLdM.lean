/- The walk of DrumKeeps. -/
import Derived.Test.YtodeblffnbbcaaaLdL
set_option linter.unusedVariables false
namespace Go.Proofs.Ytodeblffnbbcaaa
open Go.RowKit
theorem keeps_first (x : B8) : (Dr.new 3).writeE 1 (fullS x) = 0 ∧ ((Dr.new 3).write 1 (fullS x)).syncE = 0 := by
  constructor
  · simp [Dr.writeE, Dr.readE, Dr.new, fullS]
  · have h := on_write (d := Dr.new 3) rfl rfl 1 (fullS x)
    exact (on_sync h.1 h.2).1
theorem keeps_ok (x : B8) (l : List B8) : (keepsD x l).Ok 3 := by
  refine ⟨rfl, fun s hs => ?_, fun y hy => ?_⟩
  · simp only [keepsD, List.mem_cons, List.not_mem_nil, or_false] at hs
    rcases hs with rfl | rfl | rfl <;> simp [zeros, fullS]
  · simp only [keepsD, List.mem_map] at hy
    obtain ⟨c, -, rfl⟩ := hy
    exact ⟨by omega, by simp [fullS]⟩
theorem keeps_readE (x : B8) (l M : List B8) : ((keepsD x l).start M).readE 1 = 0 := by
  unfold Dr.readE
  rw [((keeps_ok x l).start M).len]
  rfl
theorem eqb (y x : B8) : ((y.toNat : Int) == (x.toNat : Int)) = decide (y = x) := by
  by_cases h : y = x
  · rw [decide_eq_true h, h, beq_self_eq_true]
  · rw [decide_eq_false h, beq_eq_false_iff_ne]
    exact fun e => h (bv_inj.1 e)
theorem was_next (y x : B8) (l : List B8) (m : Nat) (hm : m < l.length) : decide (y = x ∨ y ∈ l.take (m + 1)) = (decide (y = x ∨ y ∈ l.take m) || decide (y = l[m])) := by
  rw [List.take_succ_eq_append_getElem hm, Bool.eq_iff_iff]
  simp only [List.mem_append, List.mem_singleton, decide_eq_true_eq, Bool.or_eq_true, or_assoc]
/-- A row of bytes, as a slice. -/
theorem row_sl {w : World} {g : Nat} {ty : TypeId} {xs : List Value} (h : w.heap[g]? = some (.cells xs.toArray ty (0, 0))) : Sl w w.heap.size (some ⟨g, 0, none⟩) xs := fun j u hu => by
  refine ⟨_, rfl, lt_of_block h, ?_⟩
  have e : (⟨g, 0, none⟩ : Addr).add j = ⟨g, j, none⟩ := by unfold Addr.add; by_cases hj : j = 0 <;> simp [hj]
  rw [e, cell_of_row _ _ _ _ _ _ h, List.getElem?_toArray]; exact hu
set_option maxRecDepth 100000 in
set_option maxHeartbeats 2000000 in
theorem keeps_walk (a : Nat) (A : Option Addr) (c : Nat) (l : List B8) (A' : Option Addr) (c' : Nat) (M : List B8) (w : World) (ha : a < 256) (hl : Sl w w.heap.size A (l.map bv)) (hm : l.length ≤ maxLen) (hl' : Sl w w.heap.size A' (M.map bv)) (hm' : M.length ≤ maxLen) :
    Calls Try.prog 4 #[.int .u8 (a : Int), .slice A l.length c, .slice A' M.length c'] w fun r w' => r = .returned (.bool true) ∧ Below w.heap.size w w' := by
  have HAW := Lib.hid awake_any
  have hmM := hm'
  have HMM := Lib.hid hmM
  unfold maxLen at hm
  clear hm' hmM
  obtain ⟨x, rfl⟩ : ∃ x : B8, a = x.toNat := ⟨BitVec.ofNat 8 a, by rw [BitVec.toNat_ofNat]; omega⟩
  by_cases h6 : 6 < l.length
  · go_enter Try.func4, Try.ntmps4
    go_wp2_with (go_at_call 8; refine (HAW.out _).mono ?_; rintro r w1 ⟨rfl, h1⟩; have H1 := Lib.hid h1; clear h1)
    go_ret
    exact ⟨rfl, H1.out.below (fun i _ h => h) (Nat.le_refl _)⟩
  have HL := Lib.hid hl
  have HL' := Lib.hid hl'
  have HN := Lib.hid (LS.new w w 3 (by omega) (by omega) (Turn.refl _ _))
  have HK := Lib.hid (keeps_first x)
  obtain ⟨d1, hd1⟩ : ∃ d1, d1 = (Dr.new 3).write 1 (fullS x) := ⟨_, rfl⟩
  rw [← hd1] at HK
  have HD1 := Lib.hid hd1
  have hk0 := keeps_new x
  rw [← hd1] at hk0
  have HK0 := Lib.hid hk0
  clear hl hl' hd1 hk0
  go_enter Try.func4, Try.ntmps4
  go_wp2_with (first
    | (go_at_call 7; refine HN.out.mono ?_; rintro r w1 ⟨g, rfl, h1⟩; have H1 := Lib.hid h1; clear h1 HN)
    | (go_at_call 23; refine (full_any x _).mono ?_; rintro r w2 ⟨v, rfl, hv, t2⟩; obtain ⟨A2, c2, rfl, hA2⟩ := full_sl hv (Since w w1) since_lt; have HA2 := Lib.hid hA2; have T2 := Lib.hid t2; clear hv hA2 t2)
    | (go_at_call 10; have hwr := H1.out.write T2.out 1 A2 c2 (fullS x) HA2.out (by simp [fullS, maxLen]) (by simp [Dr.new]); rw [HK.out.1, ← HD1.out] at hwr; refine hwr.mono ?_; clear hwr; rintro r w3 ⟨rfl, h3, -⟩; have H3 := Lib.hid h3; clear h3)
    | (go_at_call 12; have hsy := H3.out.sync; rw [HK.out.2, HK0.out] at hsy; refine hsy.mono ?_; clear hsy; rintro r w4 ⟨rfl, h4, -⟩; have H4 := Lib.hid h4; clear h4))
  clear HA2 T2 H1 H3 HK HK0 HD1
  go_loopw [8] (fun i wr => ∃ m : Nat, m ≤ l.length ∧ i = .int .i64 (m : Int) ∧ LS w wr g 3 (keepsD x (l.take m))) (fun i _ => l.length - (intOf i).toNat)
  case atStart => exact ⟨0, Nat.zero_le _, rfl, H4.out⟩
  case round =>
    obtain ⟨m, hml, rfl, hs⟩ := hrel
    have HS := Lib.hid hs
    clear hs
    by_cases hlt : m < l.length
    · obtain ⟨ad, rfl, hab, hac⟩ := HL.out m (bv l[m]) (bvs_at l m hlt)
      have hcell : wr.cell? (ad.add m) = some (bv l[m]) := HS.out.2.cell hac (by rw [add_block]; omega)
      have htk : l.take (m + 1) = l.take m ++ [l[m]] := List.take_succ_eq_append_getElem hlt
      obtain ⟨y, hy⟩ : ∃ y, y = l[m] := ⟨_, rfl⟩
      rw [← hy] at hcell htk
      rw [bv] at hcell
      have HT := Lib.hid htk
      have HLT := Lib.hid hlt
      have HKW := Lib.hid (keeps_write x y (l.take m))
      have hfew : (keepsD x (l.take m)).W.length < 10000 := by simp [keepsD]; omega
      have HF := Lib.hid hfew
      clear hac hy htk hfew
      go_wp2_with (first
        | (go_at_call 23; refine (full_any y _).mono ?_; rintro r w2 ⟨v, rfl, hv, t2⟩; obtain ⟨A2, c2, rfl, hA2⟩ := full_sl hv (Since w wr) since_lt; have HA2 := Lib.hid hA2; have T2 := Lib.hid t2; clear hv hA2 t2)
        | (go_at_call 10; have hwr := HS.out.write T2.out 1 A2 c2 (fullS y) HA2.out (by simp [fullS, maxLen]) HF.out; rw [HKW.out.1, HKW.out.2, ← HT.out] at hwr; refine hwr.mono ?_; clear hwr; rintro r w3 ⟨rfl, h3, -⟩; have H3 := Lib.hid h3; clear h3))
      exact ⟨⟨m + 1, by omega, by go_num, H3.out⟩, by simp [intOf]; omega⟩
    · obtain rfl : m = l.length := by omega
      rw [List.take_length] at HS
      clear hlt
      have HST := Lib.hid (HS.out.start (Turn.refl _ _) A' c' M (fun j u hu => by
        obtain ⟨ad, e, hb, hc⟩ := HL'.out j u hu
        exact ⟨ad, e, fun h => absurd h.1 (by omega), HS.out.2.cell hc (by rw [add_block]; omega)⟩) HMM.out)
      obtain ⟨d5, hd5⟩ : ∃ d5, d5 = (keepsD x l).start M := ⟨_, rfl⟩
      rw [← hd5] at HST
      have hE := keeps_readE x l M
      have hW := keeps_start x l M
      have hO := (keeps_ok x l).start M
      rw [← hd5] at hE hW hO
      have hW5 : d5.W = [] := by rw [hd5]; rfl
      have HE := Lib.hid hE
      have HW := Lib.hid hW
      have HO := Lib.hid hO
      have HW5 := Lib.hid hW5
      clear hd5 hE hW hO hW5
      go_wp2_with (go_at_call 16; refine stop ?_)
      unfold Stop
      refine HST.out.mono ?_
      rintro r w5 ⟨⟨v5, rfl⟩, ⟨⟨Sv, Wv, hm5⟩, ht5⟩, -⟩
      have HM5 := Lib.hid hm5
      have HT5 := Lib.hid ht5
      have HRD := Lib.hid (lread_any g 3 Sv Wv d5 _ 1 w5 hm5)
      clear hm5 ht5 HST HS
      go_wp2_with (go_at_call 18; have hrd := HRD.out; rw [HE.out] at hrd; refine hrd.mono ?_; clear hrd; rintro r w6 ⟨v, rfl, hv, h6⟩; rcases hv with ⟨hv, -⟩ | ⟨-, g0, rfl, hg0, hh⟩; exact absurd HE.out hv; have H6 := Lib.hid h6; have HH := Lib.hid hh; have HG0 := Lib.hid hg0; clear h6 hh hg0 HRD)
      rw [show (1 : Int).toNat = 1 from rfl] at HH
      obtain ⟨s, hs⟩ : ∃ s, s = d5.now 1 := ⟨_, rfl⟩
      have hsl := Dr.now_len HO.out 1 (by omega)
      rw [← hs] at HH HW hsl
      have HSD := Lib.hid hs
      have HSL := Lib.hid hsl
      have hcs : ∀ (N i : Nat) (y : B8), s[i]? = some y → (w6.drewN N).cell? ⟨g0, i, none⟩ = some (.int .u8 (y.toNat : Int)) := by
        intro N i y hi
        show w6.cell? _ = _
        rw [cell_of_row _ _ _ _ _ _ HH.out, List.getElem?_toArray, List.getElem?_map, hi]; rfl
      have HCS := Lib.hid hcs
      have hlcs : ∀ (N j : Nat) (y : B8), l[j]? = some y → ∃ ad, A = some ad ∧ (w6.drewN N).cell? (ad.add j) = some (.int .u8 (y.toNat : Int)) := by
        intro N j y hj
        obtain ⟨ad, e, hab, hac⟩ := HL.out j (bv y) (by rw [List.getElem?_map, hj]; rfl)
        exact ⟨ad, e, H6.out.cell (HT5.out.cell hac (by rw [add_block]; omega)) (fun h => h)⟩
      have HLC := Lib.hid hlcs
      clear hs hsl hcs hlcs
      go_loopw [11] (fun i wr => ∃ k N : Nat, k ≤ 8 ∧ i = .int .i64 (k : Int) ∧ wr = w6.drewN N) (fun i _ => 8 - (intOf i).toNat)
      case atStart => exact ⟨0, 0, by omega, rfl, rfl⟩
      case round =>
        obtain ⟨k, N, hk, rfl, hwr⟩ := hrel
        by_cases hk8 : k < 8
        · obtain ⟨y, hy, hyb⟩ := HW.out k hk8
          have HY := Lib.hid hy
          have HYB := Lib.hid hyb
          have cy : ∀ N, (w6.drewN N).cell? ⟨g0, 8 * k, none⟩ = some (.int .u8 (y.toNat : Int)) := fun N => HCS.out N _ _ (hyb 0 (by omega))
          have i1 : IntKind.i64.wrap (8 * (k : Int)) = 8 * (k : Int) := IntWalk.i64_in _ (by omega)
          have i2 : (0 : Int) ≤ 8 * (k : Int) := by omega
          have i3 : 8 * (k : Int) < 64 := by omega
          have i4 : (8 * (k : Int)).toNat = 8 * k := by omega
          clear hy hyb
          rw [hwr]
          clear hwr wr
          go_wp2
          rw [eqb]
          go_loopw [12, 13] (fun b j wr => ∃ m N : Nat, m ≤ l.length ∧ b = .bool (decide (y = x ∨ y ∈ l.take m)) ∧ j = .int .i64 (m : Int) ∧ wr = w6.drewN N) (fun _ j _ => l.length - (intOf j).toNat)
          case atStart => exact ⟨0, N, Nat.zero_le _, by simp, rfl, rfl⟩
          case round =>
            obtain ⟨m, N2, hml, rfl, rfl, hwr⟩ := hrel
            rw [hwr]
            clear hwr wr
            by_cases hlt : m < l.length
            · have HN := Lib.hid (was_next y x l m hlt)
              obtain ⟨ad, rfl, -⟩ := HLC.out 0 m l[m] (List.getElem?_eq_getElem hlt)
              have cl : ∀ N, (w6.drewN N).cell? (ad.add m) = some (.int .u8 (l[m].toNat : Int)) := fun N => by
                obtain ⟨ad', e, h⟩ := HLC.out N m l[m] (List.getElem?_eq_getElem hlt)
                injection e with e; subst e; exact h
              obtain ⟨z, hz⟩ : ∃ z, z = l[m] := ⟨_, rfl⟩
              rw [← hz] at HN cl
              have HLT := Lib.hid hlt
              have HE := Lib.hid (eqb y z)
              clear hz
              cases hb : decide (y = x ∨ y ∈ l.take m) with
              | true =>
                rw [hb, Bool.true_or] at HN
                clear hb
                go_wp2
                go_quiet (fail)
                go_wp2
                go_roundw
                case rel => exact ⟨m + 1, N2 + nq, by omega, by rw [HN.out], by go_num, rfl⟩
                case measure => simp [intOf]; omega
              | false =>
                rw [hb, Bool.false_or] at HN
                clear hb
                go_wp2
                go_quiet (fail)
                go_wp2
                go_roundw
                case rel => exact ⟨m + 1, N2 + nq, by omega, by rw [HN.out, HE.out], by go_num, rfl⟩
                case measure => simp [intOf]; omega
            · obtain rfl : m = l.length := by omega
              have hw : decide (y = x ∨ y ∈ l.take l.length) = true := by
                rw [List.take_length]
                exact decide_eq_true (by simpa using HY.out)
              rw [hw]
              clear hw hlt
              go_wp2
              go_loopw [12, 14] (fun b j wr => ∃ i N : Nat, 1 ≤ i ∧ i ≤ 8 ∧ b = .bool true ∧ j = .int .i64 (i : Int) ∧ wr = w6.drewN N) (fun _ j _ => 8 - (intOf j).toNat)
              case atStart => exact ⟨1, N2, by omega, by omega, rfl, rfl, rfl⟩
              case round =>
                obtain ⟨i, N3, hi1, hi8, rfl, rfl, hwr⟩ := hrel
                rw [hwr]
                clear hwr wr
                by_cases hlt : i < 8
                · have ci : ∀ N, (w6.drewN N).cell? ⟨g0, 8 * k + i, none⟩ = some (.int .u8 (y.toNat : Int)) := fun N => HCS.out N _ _ (HYB.out i hlt)
                  have j1 : IntKind.i64.wrap (8 * (k : Int) + (i : Int)) = 8 * (k : Int) + (i : Int) := IntWalk.i64_in _ (by omega)
                  have j2 : (0 : Int) ≤ 8 * (k : Int) + (i : Int) := by omega
                  have j3 : 8 * (k : Int) + (i : Int) < 64 := by omega
                  have j4 : (8 * (k : Int) + (i : Int)).toNat = 8 * k + i := by omega
                  go_wp2
                  go_quiet (fail)
                  go_wp2
                  go_roundw
                  case rel => exact ⟨i + 1, N3 + nq, by omega, by omega, by simp, by go_num, rfl⟩
                  case measure => simp [intOf]; omega
                · obtain rfl : i = 8 := by omega
                  go_wp2
                  exact ⟨⟨k + 1, N3, by omega, by go_num, rfl⟩, by simp [intOf]; omega⟩
        · obtain rfl : k = 8 := by omega
          rw [hwr]
          clear hwr wr hk8 HCS HLC
          have t7 : Turn (fun _ => False) w5 (w6.drewN N) := H6.out.drewN N
          have hm7 := HM5.out.keep t7 (fun _ _ h => h)
          have HFA := Lib.hid (lfail_any g 3 Sv Wv d5 _ _ hm7)
          have hg7 : (w6.drewN N).heap[g0]? = some (.cells (s.map bv).toArray 60 (0, 0)) := HH.out
          have HG7 := Lib.hid hg7
          have T7 := Lib.hid t7
          obtain ⟨w7, hw7⟩ : ∃ w7, w7 = w6.drewN N := ⟨_, rfl⟩
          rw [← hw7] at HFA HG7 T7 ⊢
          clear hw7 hm7 hg7 t7 HH
          go_wp2_with (go_at_call 15; refine stop ?_)
          unfold Stop
          refine HFA.out.mono ?_
          rintro r w8 ⟨⟨v8, rfl⟩, hm8, ht8⟩
          have HM8 := Lib.hid hm8
          have hg8 : w8.heap[g0]? = some (.cells (s.map bv).toArray 60 (0, 0)) := ht8.heap HG7.out (fun h => by have h := h.2; have := HG0.out; omega)
          have HG8 := Lib.hid hg8
          have HT8 := Lib.hid ((T7.out.mono (S := Since w w5) (fun _ _ h => h.elim)).trans ht8 (fun i _ h => h))
          clear hm8 ht8 hg8 HFA HG7 T7
          go_wp2_with (go_at_call 16; refine stop ?_)
          unfold Stop
          have tb : Turn (fun _ => False) w8 (w8.alloc (.cells #[.int .u8 0] 5)) := (Turn.refl (fun _ => False) w8).alloc _
          have hst := lstart_any g 3 Sv Wv d5.fail _ (some ⟨w8.heap.size, 0, none⟩) 1 [0] _ (HM8.out.keep tb (fun _ _ h => h)) (fun j u hu => by
            have hc := cell_of_row _ _ 0 _ _ _ (heap_alloc_new w8 (.cells #[.int .u8 0] 5))
            cases j with
            | zero =>
              simp only [List.map_cons, List.getElem?_cons_zero] at hu
              injection hu with hu
              subst hu
              exact ⟨_, rfl, fun h => Nat.lt_irrefl _ (HM8.out.lt _ h), hc⟩
            | succ j => simp at hu) (by simp [maxLen])
          refine hst.mono ?_
          clear hst
          rintro r w9 ⟨⟨v9, rfl⟩, hm9, ht9⟩
          have hg9 : w9.heap[g0]? = some (.cells (s.map bv).toArray 60 (0, 0)) := ht9.heap (tb.heap HG8.out (fun h => h)) (fun h => by have h := h.2; have := HG0.out; omega)
          have hT9 := HT8.out.trans ((tb.mono (S := Since w w5) (fun _ _ h => h.elim)).trans ht9 (fun _ _ h => h)) (fun _ _ h => h)
          have hnow : (d5.fail.start [0]).now 1 = s := by
            rw [Dr.start_still (d := d5.fail) HW5.out, HSD.out]; rfl
          have hE9 : (d5.fail.start [0]).readE 1 = 0 := by
            unfold Dr.readE
            rw [hm9.ok.len]
            rfl
          have HRD := Lib.hid (lread_any g 3 Sv _ (d5.fail.start [0]) _ 1 w9 hm9)
          obtain ⟨d9, hd9⟩ : ∃ d9, d9 = d5.fail.start [0] := ⟨_, rfl⟩
          rw [← hd9] at hE9 hnow HRD
          have HE9 := Lib.hid hE9
          have HN9 := Lib.hid hnow
          have HG9 := Lib.hid hg9
          have HT9 := Lib.hid hT9
          clear hm9 ht9 hg9 hT9 hnow hE9 hd9 tb HM8 HG8 HT8
          go_wp2_with (first
            | (go_at_call 18; have hrd := HRD.out; rw [HE9.out] at hrd; refine hrd.mono ?_; clear hrd; rintro r wb ⟨v, rfl, hv, tb⟩; rcases hv with ⟨hv, -⟩ | ⟨-, gb, rfl, hgb, hh⟩; exact absurd HE9.out hv; rw [show (1 : Int).toNat = 1 from rfl, HN9.out] at hh; have HB := Lib.hid hh; have TB := Lib.hid tb; clear hh tb HRD)
            | (go_at_call 20; refine stop ?_))
          unfold Stop
          have hby := rbytes_any (some ⟨g0, 0, none⟩) (some ⟨gb, 0, none⟩) 64 64 _ _ s s wb (row_sl (TB.out.heap HG9.out (fun h => h))) (row_sl HB.out) (by rw [HSL.out]; unfold maxLen; omega) (by rw [HSL.out]; unfold maxLen; omega)
          rw [HSL.out, decide_eq_true (rfl : s = s)] at hby
          refine hby.mono ?_
          clear hby
          rintro r wc ⟨rfl, nc, hwc⟩
          have hTc : Turn (fun k => w.heap.size ≤ k) w wc := by
            rw [hwc]
            have h1 := HT5.out.trans HT9.out (fun i _ h => h.1)
            exact (h1.trans TB.out (fun _ _ h => h.elim)).drewN nc
          have HTC := Lib.hid hTc
          clear hwc hTc
          go_wp2_with (go_at_call 8; refine (HAW.out _).mono ?_; rintro r wd ⟨rfl, hd⟩; have HD := Lib.hid hd; clear hd)
          go_ret
          exact ⟨rfl, (HTC.out.trans HD.out (fun i hi h => Nat.le_trans HTC.out.size h)).below (fun i _ h => h) (Nat.le_refl _)⟩
end Go.Proofs.Ytodeblffnbbcaaa
