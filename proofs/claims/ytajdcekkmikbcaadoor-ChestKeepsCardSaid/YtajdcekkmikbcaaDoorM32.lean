/- Merged: The document's Read of a record. -/
import Derived.Test.YtajdcekkmikbcaaDoorM31
namespace Go.Proofs.YtajdcekkmikbcaaDoor
section
set_option linter.unusedVariables false
set_option linter.unusedSimpArgs false
open Go.RowKit
theorem of_turn {w w' : World} (h : Below w.heap.size w w') : Turn (fun _ => False) w w' := Turn.of_below h
theorem turn_zero {w w' : World} (t : Turn (fun _ => False) w w') (C : Array Value) : Turn (fun _ => False) w (w'.setRow w.heap.size C) :=
  t.trans ((Turn.refl (fun i => i = w.heap.size) _).setRow _ _ (fun _ => rfl)) (fun i hi h => by have h' : i = w.heap.size := h; omega)
theorem stp_drew (w : World) : Stp w w.drew := ⟨rfl, rfl, rfl, Nat.le_refl _, fun _ _ => rfl⟩
/-- What reading a record comes to. -/
def RdPost (N : Nat → Prop) (l : List B8) (w : World) (r : Ending) (w' : World) : Prop := (match readS l with
  | none => r = .returned (.tuple #[.agg ZRc, .bool false])
  | some x => ∃ A' c', r = .returned (.tuple #[.agg #[.int .i64 (x.t : Int), .int .i64 (x.n : Int), .int .i64 (x.size : Int), .slice A' x.b.length c'], .bool true]) ∧ SlN w' N A' (x.b.map bv) ∧ (A' = none → c' = 0) ∧ x.b.length ≤ c') ∧ Turn (fun _ => False) w w'
theorem rd_none {N : Nat → Prop} {l : List B8} {w w' : World} (h : readS l = none) (t : Turn (fun _ => False) w w') : RdPost N l w (.returned (.tuple #[.agg ZRc, .bool false])) w' := by
  unfold RdPost; rw [h]; exact ⟨rfl, t⟩
theorem readS_short {l : List B8} (h : l.length < 12 ∨ 65524 < lenS l ∨ l.length < endS l) : readS l = none := by
  unfold readS; rw [if_pos h]
theorem readS_pad {l : List B8} {k : Nat} {x : B8} (hk : k < secPad (12 + lenS l)) (hx : l[12 + lenS l + k]? = some x) (h0 : x ≠ 0) : readS l = none := by
  unfold readS
  split
  · rfl
  rw [if_pos]
  intro h
  have h1 : ((l.drop (12 + lenS l)).take (secPad (12 + lenS l)))[k]? = some x := by
    rw [List.getElem?_take, if_pos hk, List.getElem?_drop]; exact hx
  rw [h, zeros, List.getElem?_replicate, if_pos hk] at h1
  exact h0 (Option.some.inj h1).symm
theorem readS_sum {l : List B8} {k : Nat} {x y : B8} (hx : l[4 + k]? = some x) (hy : (sumS (bodyS l))[k]? = some y) (h0 : x ≠ y) : readS l = none := by
  unfold readS
  split
  · rfl
  split
  · rfl
  rw [if_pos]
  intro h
  have hk : k < 8 := by
    obtain ⟨h, -⟩ := List.getElem?_eq_some_iff.1 hy
    rw [sumS_len] at h; exact h
  have h1 : ((l.drop 4).take 8)[k]? = some x := by
    rw [List.getElem?_take, if_pos hk, List.getElem?_drop]; exact hx
  rw [h, hy] at h1
  exact h0 (Option.some.inj h1).symm
theorem readS_fld {l : List B8} (h : fldE (bodyS l) ≠ 0 ∨ (fldT (bodyS l)).drop (fldK (bodyS l)) ≠ []) : readS l = none := by
  unfold readS
  by_cases h1 : l.length < 12 ∨ 65524 < lenS l ∨ l.length < endS l
  · rw [if_pos h1]
  rw [if_neg h1]
  by_cases h2 : (l.drop (12 + lenS l)).take (secPad (12 + lenS l)) ≠ zeros (secPad (12 + lenS l))
  · rw [if_pos h2]
  rw [if_neg h2]
  by_cases h3 : (l.drop 4).take 8 ≠ sumS (bodyS l)
  · rw [if_pos h3]
  rw [if_neg h3, if_pos h]
theorem readS_some {l : List B8} {M p : Nat} (hM : M = 12 + lenS l) (hp : p = secPad M) (h1 : ¬ 65524 < lenS l) (h2 : M + p ≤ l.length) (hz : ∀ i, i < p → l[M + i]? = some 0)
    (hs : (l.drop 4).take 8 = sumS (bodyS l)) (hf : fldE (bodyS l) = 0) (hd : (fldT (bodyS l)).drop (fldK (bodyS l)) = []) :
    readS l = some ⟨numV (bodyS l), numV (numR (bodyS l)), (M + p) / 64, (fldT (bodyS l)).take (fldK (bodyS l))⟩ := by
  have he : endS l = M + p := by unfold endS; rw [← hM, ← hp]
  unfold readS
  rw [if_neg (by rw [he]; omega), if_neg, if_neg (by rw [hs]; simp), if_neg (by rw [hf, hd]; simp), he]
  rw [← hM, ← hp, Classical.not_not]
  refine List.ext_getElem? fun i => ?_
  rw [List.getElem?_take, zeros, List.getElem?_replicate]
  by_cases hi : i < p
  · rw [if_pos hi, if_pos hi, List.getElem?_drop]; exact hz i hi
  · rw [if_neg hi, if_neg hi]
set_option maxRecDepth 100000 in
set_option maxHeartbeats 16000000 in
theorem rread13_any (N : Nat → Prop) (A : Option Addr) (c : Nat) (l : List B8) (w : World) (hN : ∀ i, w.heap.size ≤ i → N i) (hs : SlN w N A (l.map bv)) (hA : A = none → c = 0) (hc : l.length ≤ c) (hlen : l.length ≤ 1000000) :
    Calls Tryd.prog 47 #[.slice A l.length c] w (RdPost N l w) := by
  have hrz := zero_rc
  have KR := Lib.hid (show (Tryd.prog.info? 84).map (·.size) = some ZRc.size ∧ ZRc.all (·.oneCell') = true from ⟨rc_info, by simp [Value.oneCell']⟩)
  obtain ⟨w1, hw1⟩ : ∃ w1, w1 = w.alloc (.cells ZRc 84) := ⟨_, rfl⟩
  have t1 : Turn (fun _ => False) w w1 := by rw [hw1]; exact (Turn.refl _ _).alloc _
  have HR1 := Lib.hid (show w1.heap[w.heap.size]? = some (.cells ZRc 84 (0, 0)) by rw [hw1]; exact heap_alloc_new _ _)
  have S1 : w.heap.size < w1.heap.size := by rw [hw1]; simp
  have T1 := Lib.hid t1
  have SL1 := Lib.hid (hs.turn t1 (fun _ h => h.elim) (fun _ _ h => h))
  have AC := Lib.hid (And.intro hA hc)
  have HN := Lib.hid hN
  have NONE := Lib.hid (fun (w' : World) (h : readS l = none) (t : Turn (fun _ => False) w w') => rd_none (N := N) h t)
  obtain ⟨n, hn⟩ : ∃ n, n = l.length := ⟨_, rfl⟩
  rw [← hn] at hlen ⊢
  have HNL := Lib.hid hn
  clear hs hA hc hN t1 hn
  go_enter Tryd.func47, Tryd.ntmps47
  go_upto_region 1 with fail
  change Code.wp _ _ _ _ (w.alloc (.cells ZRc 84))
  rw [← hw1]
  clear hw1
  by_cases h12 : n < 12
  · have NO := Lib.hid (readS_short (l := l) (.inl (by rw [← HNL.out]; exact h12)))
    have d12 : decide ((n : Int) < 12) = true := decide_eq_true (by omega)
    clear h12
    --BODY
    go_wp2_with (refine wpList_store_row rfl _ _ _ rfl w.heap.size ZRc rfl rfl _ ZRc HR1.out KR.out.1 rfl KR.out.2 ?_)
    refine bodyPost_ret (v := .tuple #[.agg ZRc, .bool false]) ?_ rfl (NONE.out _ NO.out (turn_zero T1.out _))
    exact results_rc Tryd.results47 _ _ w.heap.size _ _ rfl rfl (setRow_heap _ _ _ _ _ _ HR1.out) rfl
  have d12 : decide ((n : Int) < 12) = false := decide_eq_false (by omega)
  obtain ⟨ad, rfl⟩ : ∃ ad, A = some ad := by
    obtain ⟨x, hx⟩ : ∃ x, (l.map bv)[0]? = some x := ⟨_, List.getElem?_eq_getElem (by rw [List.length_map, ← HNL.out]; omega)⟩
    obtain ⟨ad, e, -⟩ := SL1.out 0 x hx
    exact ⟨ad, e⟩
  have CELL := Lib.hid (fun (k : Nat) (x : B8) (h : l[k]? = some x) => (show w1.cell? (ad.add k) = some (.int .u8 (x.toNat : Int)) from by
    obtain ⟨ad', e, -, h3⟩ := SL1.out k (bv x) (by rw [List.getElem?_map, h]; rfl)
    injection e with e; subst e; exact h3))
  go_wp2
  go_loop [4, 5] (fun v i => ∃ k : Nat, k ≤ 4 ∧ i = .int .i64 k ∧ v = .int .i64 (valB (l.take k) : Int)) (fun _ i => (4 - intOf i).toNat)
  case atStart => exact ⟨0, by omega, rfl, by simp [valB]⟩
  case round =>
    obtain ⟨k, hk, rfl, rfl⟩ := hrel
    by_cases h4 : k < 4
    · have hkn : k < l.length := by have := HNL.out; omega
      have hv := valB_lt (l.take k)
      rw [List.length_take, Nat.min_eq_left (by omega)] at hv
      have hp : 256 ^ k ≤ 256 ^ 3 := Nat.pow_le_pow_right (by omega) (by omega)
      have hq := Lib.hid (valB_take l k hkn)
      have hcell := CELL.out k l[k] (List.getElem?_eq_getElem hkn)
      obtain ⟨x, hx⟩ : ∃ x, x = l[k] := ⟨_, rfl⟩
      rw [← hx] at hq hcell
      have hx8 : x.toNat < 256 := x.isLt
      obtain ⟨V, hV⟩ : ∃ V, V = valB (l.take k) := ⟨_, rfl⟩
      rw [← hV] at hq hv ⊢
      have hV3 : V < 16777216 := by omega
      have hkn' : (k : Int) < (n : Int) := by have := HNL.out; omega
      clear hx hV hv hp hkn
      go_wp2
      go_round
      case rel => exact ⟨k + 1, by omega, by go_num, by rw [hq.out]; push_cast; rfl⟩
      case measure => simp [intOf]; omega
    · obtain rfl : k = 4 := by omega
      have hv := valB_lt (l.take 4)
      rw [List.length_take, Nat.min_eq_left (by have := HNL.out; omega)] at hv
      obtain ⟨L, hL⟩ : ∃ L, L = lenS l := ⟨_, rfl⟩
      have hL' : valB (l.take 4) = L := hL.symm
      rw [hL'] at hv ⊢
      have HL := Lib.hid hL
      have hv' : L < 4294967296 := by simpa using hv
      clear hL hL' hv
      by_cases hbig : 65524 < L
      · have NO := Lib.hid (readS_short (l := l) (.inr (.inl (by rw [← HL.out]; exact hbig))))
        have d1 : decide ((65524 : Int) < (L : Int)) = true := decide_eq_true (by omega)
        clear hbig
        go_upto_region 9 with fail
        go_wp2_with (refine wpList_store_row rfl _ _ _ rfl w.heap.size ZRc rfl rfl _ ZRc HR1.out KR.out.1 rfl KR.out.2 ?_)
        refine bodyPost_ret (v := .tuple #[.agg ZRc, .bool false]) ?_ rfl (NONE.out _ NO.out (turn_zero T1.out _))
        exact results_rc Tryd.results47 _ _ w.heap.size _ _ rfl rfl (setRow_heap _ _ _ _ _ _ HR1.out) rfl

      have d1 : decide ((65524 : Int) < (L : Int)) = false := decide_eq_false (by omega)
      have HBIG := Lib.hid hbig
      by_cases hlong : n - 12 < L
      · have NO := Lib.hid (readS_short (l := l) (.inr (.inr (by unfold endS; rw [← HL.out, ← HNL.out]; omega))))
        have d2 : decide ((n : Int) - 12 < (L : Int)) = true := decide_eq_true (by omega)
        clear hbig hlong
        go_upto_region 9 with fail
        go_wp2_with (refine wpList_store_row rfl _ _ _ rfl w.heap.size ZRc rfl rfl _ ZRc HR1.out KR.out.1 rfl KR.out.2 ?_)
        refine bodyPost_ret (v := .tuple #[.agg ZRc, .bool false]) ?_ rfl (NONE.out _ NO.out (turn_zero T1.out _))
        exact results_rc Tryd.results47 _ _ w.heap.size _ _ rfl rfl (setRow_heap _ _ _ _ _ _ HR1.out) rfl

      have d2 : decide ((n : Int) - 12 < (L : Int)) = false := decide_eq_false (by omega)
      obtain ⟨M, hM⟩ : ∃ M, M = 12 + L := ⟨_, rfl⟩
      have hMn : M ≤ n := by omega
      have hM6 : M ≤ 65536 := by omega
      have hMi : (12 : Int) + (L : Int) = (M : Int) := by omega
      have HM := Lib.hid hM
      clear hbig hlong hM
      have HEL := Lib.hid (show endS l = M + secPad M by unfold endS; rw [← HL.out, ← HM.out])
      go_wp2
      go_loop [6] (fun e => ∃ j : Nat, j ≤ secPad M ∧ e = .int .i64 ((M : Int) + (j : Int)) ∧ M + j ≤ n ∧ ∀ i, i < j → l[M + i]? = some 0) (fun e => (((M + secPad M : Nat) : Int) - intOf e).toNat)
      case atStart => exact ⟨0, by omega, by simp, by omega, fun i hi => by omega⟩
      case round =>
        obtain ⟨j, hj, rfl, hjn, hz⟩ := hrel
        have HZ := Lib.hid hz
        have hs64 := secPad_lt M
        have hsd := secPad_div M
        have hpe : secPad M = (64 - M % 64) % 64 := rfl
        clear hz
        by_cases hl : j < secPad M
        · have hne : (((M : Int) + (j : Int)) % 64 != 0) = true := by
            rw [bne_iff_ne]; omega
          by_cases hfull : n ≤ M + j
          · have NO := Lib.hid (readS_short (l := l) (.inr (.inr (by rw [HEL.out, ← HNL.out]; omega))))
            have d3 : decide ((n : Int) ≤ (M : Int) + (j : Int)) = true := decide_eq_true (by omega)
            clear hfull hs64 hsd hpe
            go_upto_region 13 with fail
            go_wp2_with (refine wpList_store_row rfl _ _ _ rfl w.heap.size ZRc rfl rfl _ ZRc HR1.out KR.out.1 rfl KR.out.2 ?_)
            refine bodyPost_ret (v := .tuple #[.agg ZRc, .bool false]) ?_ rfl (NONE.out _ NO.out (turn_zero T1.out _))
            exact results_rc Tryd.results47 _ _ w.heap.size _ _ rfl rfl (setRow_heap _ _ _ _ _ _ HR1.out) rfl

          have d3 : decide ((n : Int) ≤ (M : Int) + (j : Int)) = false := decide_eq_false (by omega)
          have hkn : M + j < l.length := by have := HNL.out; omega
          have hcell := CELL.out (M + j) l[M + j] (List.getElem?_eq_getElem hkn)
          have HX := Lib.hid (List.getElem?_eq_getElem hkn)
          generalize l[M + j] = x at hcell HX
          have hti : ((M : Int) + (j : Int)).toNat = M + j := by omega
          have hlt3 : (M : Int) + (j : Int) < (n : Int) := by omega
          have hge3 : (0 : Int) ≤ (M : Int) + (j : Int) := by omega
          clear hfull
          by_cases hx0 : x = 0
          · have HX0 := Lib.hid (show l[M + j]? = some 0 by rw [← hx0]; exact HX.out)
            subst hx0
            have d4 : (((0 : B8).toNat : Int) != 0) = false := rfl
            have hw1 : IntKind.i64.wrap ((M : Int) + (j : Int) + 1) = (M : Int) + ((j + 1 : Nat) : Int) := by rw [IntWalk.i64_in _ (by omega)]; omega
            clear hs64 hsd hpe
            go_wp2
            refine ⟨⟨j + 1, by omega, by push_cast; rfl, by omega, fun i hi => ?_⟩, by simp [intOf]; omega⟩
            by_cases hij : i < j
            · exact HZ.out i hij
            · obtain rfl : i = j := by omega
              exact HX0.out
          · have NO := Lib.hid (readS_pad (l := l) (k := j) (x := x) (by rw [← HL.out, ← HM.out]; exact hl) (by rw [← HL.out, ← HM.out]; exact HX.out) hx0)
            have d4 : ((x.toNat : Int) != 0) = true := by
              rw [bne_iff_ne]; intro h; exact hx0 (BitVec.eq_of_toNat_eq (by simpa using h))
            clear hx0 hs64 hsd hpe
            go_upto_region 13 with fail
            go_wp2_with (refine wpList_store_row rfl _ _ _ rfl w.heap.size ZRc rfl rfl _ ZRc HR1.out KR.out.1 rfl KR.out.2 ?_)
            refine bodyPost_ret (v := .tuple #[.agg ZRc, .bool false]) ?_ rfl (NONE.out _ NO.out (turn_zero T1.out _))
            exact results_rc Tryd.results47 _ _ w.heap.size _ _ rfl rfl (setRow_heap _ _ _ _ _ _ HR1.out) rfl

        · obtain rfl : j = secPad M := by omega
          have hne : (((M : Int) + (secPad M : Int)) % 64 != 0) = false := by
            rw [bne_eq_false_iff_eq]; omega
          obtain ⟨p, hp⟩ : ∃ p, p = secPad M := ⟨_, rfl⟩
          have HP := Lib.hid hp
          rw [← hp] at hj hjn HZ hl hne HEL ⊢
          have HPD := Lib.hid (show (M + p) % 64 = 0 by rw [hp]; exact hsd)
          have hp64 : p < 64 := by omega
          clear hs64 hsd hpe hj hl hp
          obtain ⟨c2, hc2⟩ : ∃ c2, c2 = c - 12 := ⟨_, rfl⟩
          obtain ⟨A2, hA2⟩ : ∃ A2, A2 = cutA (some ad) c 12 := ⟨_, rfl⟩
          have hLn : L ≤ n - 12 := by have := HM.out; omega
          have hcn : n ≤ c := by have := AC.out.2; have := HNL.out; omega
          have SLI : ∀ w, (Instr.slice 36 (.slice (some ad) n c) (some (.int .i64 12)) (some (.int .i64 (M : Int))) none).run Tryd.prog w = .ok (.slice A2 L c2) w := fun w => by
            have hMt : (M : Int).toNat - 12 = L := by have := HM.out; omega
            rw [run_slice_lh (P := Tryd.prog) w 36 (some ad) n c (by kernel_rfl) .i64 .i64 12 (M : Int) (by omega) (by have := HM.out; omega) (by omega)]
            rw [show Tryd.prog.elem 36 = 5 by kernel_rfl, size_u8]
            simp only [Result.andThen, sliced, hA2, hc2, cutA, Nat.mul_one]
            rw [show (12 : Int).toNat = 12 from rfl, hMt]
          have SB := Lib.hid (show SlN w1 N A2 ((bodyS l).map bv) from by
            have h := (sln_cut SL1.out c 12 (by have := HNL.out; omega)).take L
            rw [bodyS, ← HL.out, hA2, List.map_take]; exact h)
          have HBL := Lib.hid (show (bodyS l).length = L by rw [bodyS, List.length_take, List.length_drop, ← HL.out, ← HNL.out]; omega)
          have hL2 : L ≤ c2 := by omega
          have hA2n : A2 = none → c2 = 0 := by rw [hA2, hc2]; exact cut_none (fun h => by cases h)
          obtain ⟨F, hF⟩ : ∃ F, F = bodyS l := ⟨_, rfl⟩
          rw [← hF] at SB HBL
          have HF := Lib.hid hF
          have SM := Lib.hid (rsum13_any A2 c2 F w1 (fun j u hu => by obtain ⟨ad, h1, -, h3⟩ := SB.out j u hu; exact ⟨ad, h1, h3⟩) hA2n (by rw [HBL.out]; omega))
          rw [HBL.out] at SM
          clear hc2 hA2 hF
          go_wp2_with (go_at_call 68; refine stop ?_)
          unfold Stop
          refine SM.out.mono ?_
          rintro r w2 ⟨v2, rfl, ho2, hb2⟩
          obtain ⟨gs, cs, rfl, hg1, hg2⟩ := ho2.form (by omega)
          have HR2 := Lib.hid (show w2.heap[w.heap.size]? = some (.cells ZRc 84 (0, 0)) from heap_below' hb2 HR1.out)
          have T2 := Lib.hid (T1.out.trans (of_turn hb2) (fun _ _ h => h))
          have SL2 := Lib.hid (SL1.out.turn (of_turn hb2) (fun _ h => h.elim) (fun _ _ h => h))
          have SB2 := Lib.hid (SB.out.turn (of_turn hb2) (fun _ h => h.elim) (fun _ _ h => h))
          have S2 := hb2.size
          have CELL2 := Lib.hid (fun (k m : Nat) (x : B8) (h : l[k]? = some x) => (show (w2.drewN m).cell? (ad.add k) = some (.int .u8 (x.toNat : Int)) from by
            obtain ⟨ad', e, -, h3⟩ := SL2.out k (bv x) (by rw [List.getElem?_map, h]; rfl)
            injection e with e; subst e; exact h3))
          have SCELL := Lib.hid (fun (k m : Nat) (x : B8) (h : (sumS F)[k]? = some x) => (show (w2.drewN m).cell? ⟨gs, k, none⟩ = some (.int .u8 (x.toNat : Int)) from by
            obtain ⟨A', c', e, h3, -⟩ := own_sl ho2
            injection e with e1 e2 e3
            subst e1
            obtain ⟨ad', e, -, h4⟩ := h3 k (bv x) (by rw [List.getElem?_map, h]; rfl)
            injection e with e; subst e
            rw [add_row] at h4; exact h4))
          clear ho2 hb2 SM
          go_wp2
          go_loopw [9] (fun i wr => ∃ k : Nat, k ≤ 8 ∧ i = .int .i64 k ∧ (∀ i, i < k → l[4 + i]? = (sumS F)[i]?) ∧ Stp w2 wr) (fun i _ => (8 - intOf i).toNat)
          case atStart => exact ⟨0, by omega, rfl, fun i hi => by omega, Stp.refl _⟩
          case round =>
            obtain ⟨k, hk8, rfl, he, hwr⟩ := hrel
            have HE := Lib.hid he
            clear he
            have HR3 := Lib.hid (heap_below' hwr HR2.out)
            have T3 := Lib.hid (T2.out.trans (of_turn hwr) (fun _ _ h => h))
            have HWR := Lib.hid hwr
            clear hwr
            by_cases hk : k < 8
            · have hkn : 4 + k < l.length := by have := HNL.out; omega
              have hks : k < (sumS F).length := by rw [sumS_len]; exact hk
              have C1 := Lib.hid (show ∀ w4, Stp w2 w4 → w4.cell? (ad.add (4 + k)) = some (.int .u8 ((l[4 + k]).toNat : Int)) from fun w4 h4 => by
                have h := CELL2.out _ 0 _ (List.getElem?_eq_getElem hkn)
                exact (h4.cell (World.block_lt_of_cell? w2 _ h)).trans h)
              have C2 := Lib.hid (show ∀ w4, Stp w2 w4 → w4.cell? ⟨gs, k, none⟩ = some (.int .u8 (((sumS F)[k]).toNat : Int)) from fun w4 h4 => by
                have h := SCELL.out _ 0 _ (List.getElem?_eq_getElem hks)
                exact (h4.cell (World.block_lt_of_cell? w2 _ h)).trans h)
              have X1 := Lib.hid (List.getElem?_eq_getElem hkn)
              have X2 := Lib.hid (List.getElem?_eq_getElem hks)
              generalize l[4 + k] = x at C1 X1
              generalize (sumS F)[k] = y at C2 X2
              have hk4 : ((4 : Int) + (k : Int)).toNat = 4 + k := by omega
              have hkk : (4 : Int) + (k : Int) < (n : Int) := by have := HNL.out; omega
              have hk0 : (0 : Int) ≤ (4 : Int) + (k : Int) := by omega
              have hk8' : (k : Int) < 8 := by omega
              have hk88 : k < 8 := hk
              clear hkn hks hk
              have hd8 : decide ((k : Int) < 8) = true := decide_eq_true hk8'
              obtain ⟨W3, eW3⟩ : ∃ W3, W3 = wr := ⟨_, rfl⟩
              subst eW3
              have HWD := Lib.hid (Stp.trans _ _ _ HWR.out (stp_drew W3))
              go_upto_region 20 with fail
              refine wp_region_rel 124 Stp [.one ?_, .one ?_, .one ?_, .one ?_, .one ?_, .one ?_, .one ?_, .one ?_, .one ?_, .one ?_] (by kernel_rfl) (by kernel_rfl) rfl (by kernel_rfl) Stp.refl Stp.trans trivial ?main
              case main =>
              iterate 4
                refine wpR_one (A' := ?_) Stp.refl (by rfl) _ rfl 124 (by rfl) (by rfl) ?_ ?_ ?_
                rotate_left 1
                · simp only [Act.put, List.setIfInBounds_toArray, List.set_cons_zero, List.set_cons_succ]; rfl
                · intro w1 hs hf K hK
                  go_big_quiet_op
                  first
                    | go_big_quiet_on
                    | (refine ⟨_, fun _ _ => rfl, ?_⟩; go_big_quiet_on)
                  rfl
              refine wpR_one (A' := ?_) Stp.refl (by rfl) _ rfl 124 (by rfl) (by rfl) ?_ ?_ ?_
              rotate_left 1
              · simp only [Act.put, List.setIfInBounds_toArray, List.set_cons_zero, List.set_cons_succ]; rfl
              · intro w1 hs hf K hK
                refine cls_load_cell 5 (.tmp 71) rfl (ad.add (4 + k)) rfl (.int .u8 (x.toNat : Int)) (fun w h => by simp [go_sem, h]) (fun w2 h2 => C1.out _ (Stp.trans _ _ _ HWD.out (Stp.trans _ _ _ hs h2))) ?_
                refine hK _ ?_
                simp only [Act.put, List.setIfInBounds_toArray, List.set_cons_zero, List.set_cons_succ]
                rfl
              iterate 3
                refine wpR_one (A' := ?_) Stp.refl (by rfl) _ rfl 124 (by rfl) (by rfl) ?_ ?_ ?_
                rotate_left 1
                · simp only [Act.put, List.setIfInBounds_toArray, List.set_cons_zero, List.set_cons_succ]; rfl
                · intro w1 hs hf K hK
                  go_big_quiet_op
                  first
                    | go_big_quiet_on
                    | (refine ⟨_, fun _ _ => rfl, ?_⟩; go_big_quiet_on)
                  rfl
              refine wpR_one (A' := ?_) Stp.refl (by rfl) _ rfl 124 (by rfl) (by rfl) ?_ ?_ ?_
              rotate_left 1
              · simp only [Act.put, List.setIfInBounds_toArray, List.set_cons_zero, List.set_cons_succ]; rfl
              · intro w1 hs hf K hK
                refine cls_load_cell 5 (.tmp 75) rfl ⟨gs, k, none⟩ rfl (.int .u8 (y.toNat : Int)) (fun w h => by simp [go_sem, h]) (fun w2 h2 => C2.out _ (Stp.trans _ _ _ HWD.out (Stp.trans _ _ _ hs h2))) ?_
                refine hK _ ?_
                simp only [Act.put, List.setIfInBounds_toArray, List.set_cons_zero, List.set_cons_succ]
                rfl
              iterate 1
                refine wpR_one (A' := ?_) Stp.refl (by rfl) _ rfl 124 (by rfl) (by rfl) ?_ ?_ ?_
                rotate_left 1
                · simp only [Act.put, List.setIfInBounds_toArray, List.set_cons_zero, List.set_cons_succ]; rfl
                · intro w1 hs hf K hK
                  go_big_quiet_op
                  first
                    | go_big_quiet_on
                    | (refine ⟨_, fun _ _ => rfl, ?_⟩; go_big_quiet_on)
                  rfl
              intro wz hs1 hf
              have hwz := Stp.trans _ _ _ HWD.out hs1
              have HR4 := Lib.hid (heap_below' hwz HR2.out)
              have T4 := Lib.hid (T2.out.trans (of_turn hwz) (fun _ _ h => h))
              have HWZ := Lib.hid hwz
              clear hs1 hf hwz HWD HWR T3 HR3
              by_cases hxy : x = y
              · have q3 : ((x.toNat : Int) != (y.toNat : Int)) = false := by rw [hxy, bne_self_eq_false]
                have HT4 := Lib.hid (show l[4 + k]? = (sumS F)[k]? by rw [X1.out, X2.out, hxy])
                clear hxy
                go_wp2
                go_roundw
                case rel =>
                  refine ⟨k + 1, by omega, by go_num, fun i hi => ?_, HWZ.out⟩
                  by_cases hik : i < k
                  · exact HE.out i hik
                  · obtain rfl : i = k := by omega
                    exact HT4.out
                case measure => simp [intOf]; omega
              · have q3 : ((x.toNat : Int) != (y.toNat : Int)) = true := by
                  rw [bne_iff_ne]; intro h; exact hxy (BitVec.eq_of_toNat_eq (by exact_mod_cast h))
                have NO := Lib.hid (readS_sum (l := l) (k := k) X1.out (by rw [← HF.out]; exact X2.out) hxy)
                clear hxy
                go_upto_region 21 with fail
                go_wp2_with (refine wpList_store_row rfl _ _ _ rfl w.heap.size ZRc rfl rfl _ ZRc HR4.out KR.out.1 rfl KR.out.2 ?_)
                refine bodyPost_ret (v := .tuple #[.agg ZRc, .bool false]) ?_ rfl (NONE.out _ NO.out (turn_zero T4.out _))
                exact results_rc Tryd.results47 _ _ w.heap.size _ _ rfl rfl (setRow_heap _ _ _ _ _ _ HR4.out) rfl
            · obtain rfl : k = 8 := by omega
              have HS := Lib.hid (show (l.drop 4).take 8 = sumS F from by
                refine List.ext_getElem? fun i => ?_
                rw [List.getElem?_take]
                by_cases hi : i < 8
                · rw [if_pos hi, List.getElem?_drop]; exact HE.out i hi
                · rw [if_neg hi, List.getElem?_eq_none (by rw [sumS_len]; omega)])
              have SB3 := Lib.hid (SB2.out.turn (of_turn HWR.out) (fun _ h => h.elim) (fun _ _ h => h))
              obtain ⟨W3, eW3⟩ : ∃ W3, W3 = wr := ⟨_, rfl⟩
              subst eW3
              have hd8 : decide (((8 : Nat) : Int) < 8) = false := by decide
              clear HE hk hk8
              have hzf := zero_field'
              have hzg := zero_got'
              have TK := Lib.hid (take_full N A2 c2 L F HBL.out (tF 0 1099511627776) W3 rfl (.inl rfl) (by show (1099511627776 : Nat) < _; decide) SB3.out hA2n hL2 (by omega))
              rw [tF_cells] at TK
              go_wp2_with (go_at_call 69; refine stop ?_)
              unfold Stop
              refine TK.out.mono ?_
              rintro r wa ⟨g1, rfl, hd, hge, hgx, hg0, t⟩
              have GD1 := Lib.hid hd
              have GE1 := Lib.hid (And.intro hge hg0)
              have ta := t
              clear TK hd hge hgx hg0 t
              obtain ⟨C, hC⟩ : ∃ C, C = g1.cells.toArray := ⟨_, rfl⟩
              have GK := Lib.hid (gkeep g1 GD1.out)
              rw [← hC] at GK ⊢
              have HC := Lib.hid hC
              clear hC
              have HA := Lib.hid (show (wa.alloc (.cells Z37 119)).heap[wa.heap.size]? = some (.cells Z37 119 (0, 0)) from heap_alloc_new _ _)
              go_upto_region 23 with (refine wpList_store_row rfl _ _ _ rfl wa.heap.size C rfl rfl 119 Z37 HA.out GK.out.1 GK.out.2.1.symm GK.out.2.2 ?_)
              obtain ⟨V1, hw⟩ : ∃ w', w' = (wa.alloc (.cells Z37 119)).setRow wa.heap.size C := ⟨_, rfl⟩
              have tt : Turn (fun _ => False) W3 V1 := by rw [hw]; exact ta.trans (((Turn.refl (fun _ => False) wa).alloc _).setRow _ _ (fun h => by omega)) (fun _ _ h => h)
              obtain ⟨Q1, hQ⟩ : ∃ Q, Q = wa.heap.size := ⟨_, rfl⟩
              have HQ1 := Lib.hid (show GBl V1 Q1 g1 from ⟨by rw [hw, hQ, ← HC.out]; exact setRow_heap _ _ _ _ _ _ HA.out, GD1.out⟩)
              change Code.wp _ _ _ _ ((wa.alloc (.cells Z37 119)).setRow wa.heap.size C)
              rw [← hw, ← hQ]
              clear hw hQ HA HC GK ta
              have TT := Lib.hid tt
              clear tt
              have HRV1 := Lib.hid (TT.out.heap HR3.out (fun h => h))
              have TV1 := Lib.hid (T3.out.trans TT.out (fun _ _ h => h))
              have hE1 : sE (tF 0 1099511627776) F = eNum mostS F := rfl
              by_cases hz1 : g1.e = 0
              rotate_left 1
              · have hzz : ((g1.e : Int) != 0) = true := by rw [bne_iff_ne]; exact_mod_cast hz1
                have NO := Lib.hid (readS_fld (l := l) (.inl (by
                  rw [← HF.out]; unfold fldE; rw [if_pos (by rw [← hE1, ← GE1.out.1]; exact hz1), ← hE1, ← GE1.out.1]; exact hz1)))
                obtain ⟨-, -, d35, -, -⟩ := HQ1.out.facts
                clear hz1
                go_upto_region 24 with fail
                go_wp2_with (refine wpList_store_row rfl _ _ _ rfl w.heap.size ZRc rfl rfl _ ZRc HRV1.out KR.out.1 rfl KR.out.2 ?_)
                refine bodyPost_ret (v := .tuple #[.agg ZRc, .bool false]) ?_ rfl (NONE.out _ NO.out (turn_zero TV1.out _))
                exact results_rc Tryd.results47 _ _ w.heap.size _ _ rfl rfl (setRow_heap _ _ _ _ _ _ HRV1.out) rfl
              have hzz : ((g1.e : Int) != 0) = false := by rw [hz1]; rfl
              obtain ⟨ok1, at1, an1, ac1⟩ := GE1.out.2 (by rw [← GE1.out.1]; exact hz1)
              have EN1 := Lib.hid (show eNum mostS F = 0 by rw [← hE1, ← GE1.out.1]; exact hz1)
              have L1 := Lib.hid (show g1.l = numR F from ok1.l)
              have N1 := Lib.hid (show g1.f.n = numV F from ok1.n)
              have SG1 := Lib.hid (at1.s.turn TT.out (fun _ h => h.elim) (fun _ _ h => h))
              have GA1 := Lib.hid (And.intro at1.a at1.c)
              obtain ⟨n1, hn1⟩ : ∃ n, n = g1.l.length := ⟨_, rfl⟩
              have HN1 := Lib.hid hn1
              have hn1L : n1 ≤ L := by rw [hn1, L1.out, ← HBL.out]; exact numR_le F
              obtain ⟨d1, -, d35, d36, -⟩ := HQ1.out.facts
              rw [← hn1] at d36
              clear hz1 ok1 at1 an1 ac1 GE1 hn1 TT hE1
              have TK := Lib.hid (take_full N g1.A g1.c n1 g1.l HN1.out.symm (tF 0 1099511627776) V1 rfl (.inl rfl) (by show (1099511627776 : Nat) < _; decide) SG1.out GA1.out.1 (by rw [HN1.out]; exact GA1.out.2) (by omega))
              rw [tF_cells] at TK
              go_wp2_with (go_at_call 69; refine stop ?_)
              unfold Stop
              refine TK.out.mono ?_
              rintro r wa ⟨g2, rfl, hd, hge, hgx, hg0, t⟩
              have GD2 := Lib.hid hd
              have GE2 := Lib.hid (And.intro hge hg0)
              have ta := t
              clear TK hd hge hgx hg0 t
              obtain ⟨C, hC⟩ : ∃ C, C = g2.cells.toArray := ⟨_, rfl⟩
              have GK := Lib.hid (gkeep g2 GD2.out)
              rw [← hC] at GK ⊢
              have HC := Lib.hid hC
              clear hC
              have HA := Lib.hid (show (wa.alloc (.cells Z37 119)).heap[wa.heap.size]? = some (.cells Z37 119 (0, 0)) from heap_alloc_new _ _)
              go_upto_region 26 with (refine wpList_store_row rfl _ _ _ rfl wa.heap.size C rfl rfl 119 Z37 HA.out GK.out.1 GK.out.2.1.symm GK.out.2.2 ?_)
              obtain ⟨V2, hw⟩ : ∃ w', w' = (wa.alloc (.cells Z37 119)).setRow wa.heap.size C := ⟨_, rfl⟩
              have tt : Turn (fun _ => False) V1 V2 := by rw [hw]; exact ta.trans (((Turn.refl (fun _ => False) wa).alloc _).setRow _ _ (fun h => by omega)) (fun _ _ h => h)
              obtain ⟨Q2, hQ⟩ : ∃ Q, Q = wa.heap.size := ⟨_, rfl⟩
              have HQ2 := Lib.hid (show GBl V2 Q2 g2 from ⟨by rw [hw, hQ, ← HC.out]; exact setRow_heap _ _ _ _ _ _ HA.out, GD2.out⟩)
              change Code.wp _ _ _ _ ((wa.alloc (.cells Z37 119)).setRow wa.heap.size C)
              rw [← hw, ← hQ]
              clear hw hQ HA HC GK ta
              have TT := Lib.hid tt
              clear tt
              clear hzz d1 d35 d36
              have HRV2 := Lib.hid (TT.out.heap HRV1.out (fun h => h))
              have TV2 := Lib.hid (TV1.out.trans TT.out (fun _ _ h => h))
              have HQ12 := Lib.hid (HQ1.out.turn TT.out (fun h => h))
              have hE2 : sE (tF 0 1099511627776) g1.l = eNum mostS (numR F) := by rw [L1.out]; rfl
              by_cases hz2 : g2.e = 0
              rotate_left 1
              · have hzz : ((g2.e : Int) != 0) = true := by rw [bne_iff_ne]; exact_mod_cast hz2
                have NO := Lib.hid (readS_fld (l := l) (.inl (by
                  rw [← HF.out]; unfold fldE; rw [if_neg (by rw [EN1.out]; simp), if_pos (by rw [← hE2, ← GE2.out.1]; exact hz2), ← hE2, ← GE2.out.1]; exact hz2)))
                obtain ⟨-, -, d35, -, -⟩ := HQ2.out.facts
                clear hz2
                go_upto_region 27 with fail
                go_wp2_with (refine wpList_store_row rfl _ _ _ rfl w.heap.size ZRc rfl rfl _ ZRc HRV2.out KR.out.1 rfl KR.out.2 ?_)
                refine bodyPost_ret (v := .tuple #[.agg ZRc, .bool false]) ?_ rfl (NONE.out _ NO.out (turn_zero TV2.out _))
                exact results_rc Tryd.results47 _ _ w.heap.size _ _ rfl rfl (setRow_heap _ _ _ _ _ _ HRV2.out) rfl
              have hzz : ((g2.e : Int) != 0) = false := by rw [hz2]; rfl
              obtain ⟨ok2, at2, an2, ac2⟩ := GE2.out.2 (by rw [← GE2.out.1]; exact hz2)
              have EN2 := Lib.hid (show eNum mostS (numR F) = 0 by rw [← hE2, ← GE2.out.1]; exact hz2)
              have L2 := Lib.hid (show g2.l = numR (numR F) by rw [← L1.out]; exact ok2.l)
              have N2 := Lib.hid (show g2.f.n = numV (numR F) by rw [← L1.out]; exact ok2.n)
              have SG2 := Lib.hid (at2.s.turn TT.out (fun _ h => h.elim) (fun _ _ h => h))
              have GA2 := Lib.hid (And.intro at2.a at2.c)
              obtain ⟨n2, hn2⟩ : ∃ n, n = g2.l.length := ⟨_, rfl⟩
              have HN2 := Lib.hid hn2
              have hn2L : n2 ≤ L := by rw [hn2, L2.out]; exact Nat.le_trans (numR_le _) (by rw [← L1.out, ← HN1.out]; exact hn1L)
              obtain ⟨d1, -, d35, d36, -⟩ := HQ2.out.facts
              rw [← hn2] at d36
              have hL64 : IntKind.u64.wrap (L : Int) = (L : Int) := by rw [IntWalk.u64_in _ (by omega)]
              clear hz2 ok2 at2 an2 ac2 GE2 hn2 TT hE2
              have TK := Lib.hid (take_full N g2.A g2.c n2 g2.l HN2.out.symm (tF 1 L) V2 rfl (.inr (.inl rfl)) (by show L < _; omega) SG2.out GA2.out.1 (by rw [HN2.out]; exact GA2.out.2) (by omega))
              rw [tF_cells] at TK
              go_wp2_with (go_at_call 69; refine stop ?_)
              unfold Stop
              refine TK.out.mono ?_
              rintro r wa ⟨g3, rfl, hd, hge, hgx, hg0, t⟩
              have GD3 := Lib.hid hd
              have GE3 := Lib.hid (And.intro hge hg0)
              have ta := t
              clear TK hd hge hgx hg0 t
              obtain ⟨C, hC⟩ : ∃ C, C = g3.cells.toArray := ⟨_, rfl⟩
              have GK := Lib.hid (gkeep g3 GD3.out)
              rw [← hC] at GK ⊢
              have HC := Lib.hid hC
              clear hC
              have HA := Lib.hid (show (wa.alloc (.cells Z37 119)).heap[wa.heap.size]? = some (.cells Z37 119 (0, 0)) from heap_alloc_new _ _)
              go_upto_region 29 with (refine wpList_store_row rfl _ _ _ rfl wa.heap.size C rfl rfl 119 Z37 HA.out GK.out.1 GK.out.2.1.symm GK.out.2.2 ?_)
              obtain ⟨V3, hw⟩ : ∃ w', w' = (wa.alloc (.cells Z37 119)).setRow wa.heap.size C := ⟨_, rfl⟩
              have tt : Turn (fun _ => False) V2 V3 := by rw [hw]; exact ta.trans (((Turn.refl (fun _ => False) wa).alloc _).setRow _ _ (fun h => by omega)) (fun _ _ h => h)
              obtain ⟨Q3, hQ⟩ : ∃ Q, Q = wa.heap.size := ⟨_, rfl⟩
              have HQ3 := Lib.hid (show GBl V3 Q3 g3 from ⟨by rw [hw, hQ, ← HC.out]; exact setRow_heap _ _ _ _ _ _ HA.out, GD3.out⟩)
              change Code.wp _ _ _ _ ((wa.alloc (.cells Z37 119)).setRow wa.heap.size C)
              rw [← hw, ← hQ]
              clear hw hQ HA HC GK ta
              have TT := Lib.hid tt
              clear tt
              clear hzz d1 d35 d36
              have HRV3 := Lib.hid (TT.out.heap HRV2.out (fun h => h))
              have TV3 := Lib.hid (TV2.out.trans TT.out (fun _ _ h => h))
              have HQ13 := Lib.hid (HQ12.out.turn TT.out (fun h => h))
              have HQ23 := Lib.hid (HQ2.out.turn TT.out (fun h => h))
              have hE3 : sE (tF 1 L) g2.l = eText (F.length : Int) (numR (numR F)) := by rw [L2.out, HBL.out]; rfl
              by_cases hz3 : g3.e = 0
              rotate_left 1
              · have hzz : ((g3.e : Int) != 0) = true := by rw [bne_iff_ne]; exact_mod_cast hz3
                have NO := Lib.hid (readS_fld (l := l) (.inl (by
                  rw [← HF.out]; unfold fldE; rw [if_neg (by rw [EN1.out]; simp), if_neg (by rw [EN2.out]; simp), ← hE3, ← GE3.out.1]; exact hz3)))
                obtain ⟨-, -, d35, -, -⟩ := HQ3.out.facts
                clear hz3
                go_upto_region 30 with fail
                go_wp2_with (refine wpList_store_row rfl _ _ _ rfl w.heap.size ZRc rfl rfl _ ZRc HRV3.out KR.out.1 rfl KR.out.2 ?_)
                refine bodyPost_ret (v := .tuple #[.agg ZRc, .bool false]) ?_ rfl (NONE.out _ NO.out (turn_zero TV3.out _))
                exact results_rc Tryd.results47 _ _ w.heap.size _ _ rfl rfl (setRow_heap _ _ _ _ _ _ HRV3.out) rfl
              have hzz : ((g3.e : Int) != 0) = false := by rw [hz3]; rfl
              obtain ⟨ok3, at3, an3, ac3⟩ := GE3.out.2 (by rw [← GE3.out.1]; exact hz3)
              have EN3 := Lib.hid (show eText (F.length : Int) (numR (numR F)) = 0 by rw [← hE3, ← GE3.out.1]; exact hz3)
              have L3 := Lib.hid (show g3.l = (fldT F).drop (fldK F) by have h := ok3.l; rw [L2.out] at h; exact h)
              have B3 := Lib.hid (show g3.f.b = (fldT F).take (fldK F) by have h := ok3.b; rw [L2.out] at h; exact h)
              have SG3 := Lib.hid (at3.t.turn TT.out (fun _ h => h.elim) (fun _ _ h => h))
              have GA3 := Lib.hid (And.intro an3 ac3)
              obtain ⟨n3, hn3⟩ : ∃ n, n = g3.l.length := ⟨_, rfl⟩
              have HN3 := Lib.hid hn3
              obtain ⟨-, d2, d35, d36, -⟩ := HQ3.out.facts
              rw [← hn3] at d36
              clear hz3 ok3 at3 an3 ac3 GE3 hn3 TT hE3
              by_cases hn30 : n3 = 0
              rotate_left 1
              · have dz : decide ((0 : Int) < (n3 : Int)) = true := decide_eq_true (by omega)
                have dz' : decide (0 < n3) = true := decide_eq_true (by omega)
                have dz'' : 0 < n3 := by omega
                have NO := Lib.hid (readS_fld (l := l) (.inr (by
                  rw [← HF.out, ← L3.out]; intro h; exact hn30 (by rw [HN3.out, h]; rfl))))
                clear hn30 d2
                go_upto_region 30 with fail
                go_wp2_with (refine wpList_store_row rfl _ _ _ rfl w.heap.size ZRc rfl rfl _ ZRc HRV3.out KR.out.1 rfl KR.out.2 ?_)
                refine bodyPost_ret (v := .tuple #[.agg ZRc, .bool false]) ?_ rfl (NONE.out _ NO.out (turn_zero TV3.out _))
                exact results_rc Tryd.results47 _ _ w.heap.size _ _ rfl rfl (setRow_heap _ _ _ _ _ _ HRV3.out) rfl
              have dz : decide ((0 : Int) < (n3 : Int)) = false := decide_eq_false (by omega)
              have dz' : decide (0 < n3) = false := decide_eq_false (by omega)
              have dz'' : ¬ 0 < n3 := by omega
              have L30 := Lib.hid (show (fldT F).drop (fldK F) = [] by rw [← L3.out]; exact List.eq_nil_of_length_eq_zero (by rw [← HN3.out]; exact hn30))
              clear hn30
              obtain ⟨e1, -, -, -, -⟩ := HQ13.out.facts
              obtain ⟨e2, -, -, -, -⟩ := HQ23.out.facts
              have hb1 : numV F ≤ 1099511627776 := by
                have h := EN1.out
                unfold eNum mostS at h
                split at h
                · contradiction
                · split at h
                  · cases h
                  · omega
              have hb2 : numV (numR F) ≤ 1099511627776 := by
                have h := EN2.out
                unfold eNum mostS at h
                split at h
                · contradiction
                · split at h
                  · cases h
                  · omega
              obtain ⟨q1, hq1⟩ : ∃ q, q = g1.f.n := ⟨_, rfl⟩
              obtain ⟨q2, hq2⟩ : ∃ q, q = g2.f.n := ⟨_, rfl⟩
              rw [← hq1] at e1
              rw [← hq2] at e2
              rw [← N1.out, ← hq1] at hb1
              rw [← N2.out, ← hq2] at hb2
              have hw1 : IntKind.i64.wrap (q1 : Int) = (q1 : Int) := IntWalk.i64_in _ (by omega)
              have hw2 : IntKind.i64.wrap (q2 : Int) = (q2 : Int) := IntWalk.i64_in _ (by omega)
              have HQq1 := Lib.hid hq1
              have HQq2 := Lib.hid hq2
              obtain ⟨lb, hlb⟩ : ∃ x, x = g3.f.b.length := ⟨_, rfl⟩
              rw [← hlb] at d2
              have HLB := Lib.hid hlb
              obtain ⟨A3, hA3⟩ : ∃ x, x = g3.f.A := ⟨_, rfl⟩
              obtain ⟨c3, hc3⟩ : ∃ x, x = g3.f.c := ⟨_, rfl⟩
              rw [← hA3, ← hc3] at d2
              have HA3 := Lib.hid (And.intro hA3 hc3)
              obtain ⟨Z, hZ⟩ : ∃ x : Int, x = ((M : Int) + (p : Int)) / 64 := ⟨_, rfl⟩
              have HZZ := Lib.hid hZ
              clear hq1 hq2 hlb hA3 hc3 hZ
              obtain ⟨CR, hCR⟩ : ∃ CR : Array Value, CR = #[.int .i64 (q1 : Int), .int .i64 (q2 : Int), .int .i64 (((M : Int) + (p : Int)) / 64), .slice A3 lb c3] := ⟨_, rfl⟩
              have KC := Lib.hid (show (Tryd.prog.info? 84).map (·.size) = some CR.size ∧ ZRc.size = CR.size ∧ CR.all (·.oneCell') = true by rw [hCR]; exact ⟨rc_info, rfl, by simp [Value.oneCell']⟩)
              have HCR := Lib.hid hCR
              clear hCR
              go_wp2_with (refine wpList_store_row rfl _ _ _ rfl w.heap.size CR rfl (by rw [HCR.out]; rfl) 84 ZRc HRV3.out KC.out.1 KC.out.2.1 KC.out.2.2 ?_)
              refine bodyPost_ret (v := .tuple #[.agg CR, .bool true]) ?_ rfl ?_
              · exact results_rc Tryd.results47 _ _ w.heap.size _ _ rfl rfl (setRow_heap _ _ _ _ _ _ HRV3.out) (by rw [HCR.out]; rfl)
              have HFE : fldE F = 0 := by unfold fldE; rw [if_neg (by rw [EN1.out]; simp), if_neg (by rw [EN2.out]; simp)]; exact EN3.out
              have hr := readS_some (l := l) (M := M) (p := p) (by rw [← HL.out]; exact HM.out) HP.out (by rw [← HL.out]; exact HBIG.out) (by rw [← HNL.out]; exact hjn) HZ.out (by rw [← HF.out]; exact HS.out) (by rw [← HF.out]; exact HFE) (by rw [← HF.out]; exact L30.out)
              rw [← HF.out] at hr
              unfold RdPost
              rw [hr]
              refine ⟨⟨A3, c3, ?_, ?_, ?_, ?_⟩, turn_zero TV3.out _⟩
              · rw [HCR.out, ← N1.out, ← N2.out, ← HQq1.out, ← HQq2.out, ← B3.out, ← HLB.out]
                show _ = Ending.returned (.tuple #[.agg #[.int .i64 (q1 : Int), .int .i64 (q2 : Int), .int .i64 (((M + p) / 64 : Nat) : Int), .slice A3 lb c3], .bool true])
                push_cast
                rfl
              · have h := SG3.out.turn ((Turn.refl (fun i => i = w.heap.size) V3).setRow w.heap.size CR (fun _ => rfl)) (fun i hi => by have h' : i = w.heap.size := hi; rw [h']; exact HN.out _ (Nat.le_refl _)) (fun _ _ h => h)
                rw [HA3.out.1, ← B3.out]; exact h
              · rw [HA3.out.1, HA3.out.2]; exact GA3.out.1
              · rw [HA3.out.2, ← B3.out]; exact GA3.out.2
end
end Go.Proofs.YtajdcekkmikbcaaDoor
