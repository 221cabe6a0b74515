/- Merged: The document's Read of a record. The document's Scan. The landed drum over its own blocks; what a stretch of it has. What the landed scroll's calls are to come to. -/
import Derived.Test.YthbheobjhpmoeaaDoorM29
import Derived.Test.YthbheobjhpmoeaaDoorM18
namespace Go.Proofs.YthbheobjhpmoeaaDoor
section
set_option linter.unusedVariables false
set_option linter.unusedSimpArgs false
open Go.RowKit
theorem of_turn {w w' : World} (h : Below w.heap.size w w') : Turn (fun _ => False) w w' := Turn.of_below h
theorem turn_zero {w w' : World} (t : Turn (fun _ => False) w w') (C : Array Value) : Turn (fun _ => False) w (w'.setRow w.heap.size C) :=
  t.trans ((Turn.refl (fun i => i = w.heap.size) _).setRow _ _ (fun _ => rfl)) (fun i hi h => by have h' : i = w.heap.size := h; omega)
theorem stp_drew (w : World) : Stp w w.drew := ⟨rfl, rfl, rfl, Nat.le_refl _, fun _ _ => rfl⟩
/-- What reading a record comes to. -/
def RdPost (N : Nat → Prop) (l : List B8) (w : World) (r : Ending) (w' : World) : Prop := (match readS l with
  | none => r = .returned (.tuple #[.agg ZRc, .bool false])
  | some x => ∃ A' c', r = .returned (.tuple #[.agg #[.int .i64 (x.t : Int), .int .i64 (x.n : Int), .int .i64 (x.size : Int), .slice A' x.b.length c'], .bool true]) ∧ SlN w' N A' (x.b.map bv) ∧ (A' = none → c' = 0) ∧ x.b.length ≤ c') ∧ Turn (fun _ => False) w w'
theorem rd_none {N : Nat → Prop} {l : List B8} {w w' : World} (h : readS l = none) (t : Turn (fun _ => False) w w') : RdPost N l w (.returned (.tuple #[.agg ZRc, .bool false])) w' := by
  unfold RdPost; rw [h]; exact ⟨rfl, t⟩
theorem readS_short {l : List B8} (h : l.length < 12 ∨ 65524 < lenS l ∨ l.length < endS l) : readS l = none := by
  unfold readS; rw [if_pos h]
theorem readS_pad {l : List B8} {k : Nat} {x : B8} (hk : k < secPad (12 + lenS l)) (hx : l[12 + lenS l + k]? = some x) (h0 : x ≠ 0) : readS l = none := by
  unfold readS
  split
  · rfl
  rw [if_pos]
  intro h
  have h1 : ((l.drop (12 + lenS l)).take (secPad (12 + lenS l)))[k]? = some x := by
    rw [List.getElem?_take, if_pos hk, List.getElem?_drop]; exact hx
  rw [h, zeros, List.getElem?_replicate, if_pos hk] at h1
  exact h0 (Option.some.inj h1).symm
theorem readS_sum {l : List B8} {k : Nat} {x y : B8} (hx : l[4 + k]? = some x) (hy : (sumS (bodyS l))[k]? = some y) (h0 : x ≠ y) : readS l = none := by
  unfold readS
  split
  · rfl
  split
  · rfl
  rw [if_pos]
  intro h
  have hk : k < 8 := by
    obtain ⟨h, -⟩ := List.getElem?_eq_some_iff.1 hy
    rw [sumS_len] at h; exact h
  have h1 : ((l.drop 4).take 8)[k]? = some x := by
    rw [List.getElem?_take, if_pos hk, List.getElem?_drop]; exact hx
  rw [h, hy] at h1
  exact h0 (Option.some.inj h1).symm
theorem readS_fld {l : List B8} (h : fldE (bodyS l) ≠ 0 ∨ (fldT (bodyS l)).drop (fldK (bodyS l)) ≠ []) : readS l = none := by
  unfold readS
  by_cases h1 : l.length < 12 ∨ 65524 < lenS l ∨ l.length < endS l
  · rw [if_pos h1]
  rw [if_neg h1]
  by_cases h2 : (l.drop (12 + lenS l)).take (secPad (12 + lenS l)) ≠ zeros (secPad (12 + lenS l))
  · rw [if_pos h2]
  rw [if_neg h2]
  by_cases h3 : (l.drop 4).take 8 ≠ sumS (bodyS l)
  · rw [if_pos h3]
  rw [if_neg h3, if_pos h]
theorem readS_some {l : List B8} {M p : Nat} (hM : M = 12 + lenS l) (hp : p = secPad M) (h1 : ¬ 65524 < lenS l) (h2 : M + p ≤ l.length) (hz : ∀ i, i < p → l[M + i]? = some 0)
    (hs : (l.drop 4).take 8 = sumS (bodyS l)) (hf : fldE (bodyS l) = 0) (hd : (fldT (bodyS l)).drop (fldK (bodyS l)) = []) :
    readS l = some ⟨numV (bodyS l), numV (numR (bodyS l)), (M + p) / 64, (fldT (bodyS l)).take (fldK (bodyS l))⟩ := by
  have he : endS l = M + p := by unfold endS; rw [← hM, ← hp]
  unfold readS
  rw [if_neg (by rw [he]; omega), if_neg, if_neg (by rw [hs]; simp), if_neg (by rw [hf, hd]; simp), he]
  rw [← hM, ← hp, Classical.not_not]
  refine List.ext_getElem? fun i => ?_
  rw [List.getElem?_take, zeros, List.getElem?_replicate]
  by_cases hi : i < p
  · rw [if_pos hi, if_pos hi, List.getElem?_drop]; exact hz i hi
  · rw [if_neg hi, if_neg hi]
set_option maxRecDepth 100000 in
set_option maxHeartbeats 16000000 in
theorem rread13_any (N : Nat → Prop) (A : Option Addr) (c : Nat) (l : List B8) (w : World) (hN : ∀ i, w.heap.size ≤ i → N i) (hs : SlN w N A (l.map bv)) (hA : A = none → c = 0) (hc : l.length ≤ c) (hlen : l.length ≤ 1000000) :
    Calls Tryd.prog 17 #[.slice A l.length c] w (RdPost N l w) := by
  have hrz := zero_rc
  have KR := Lib.hid (show (Tryd.prog.info? 42).map (·.size) = some ZRc.size ∧ ZRc.all (·.oneCell') = true from ⟨rc_info, by simp [Value.oneCell']⟩)
  obtain ⟨w1, hw1⟩ : ∃ w1, w1 = w.alloc (.cells ZRc 42) := ⟨_, rfl⟩
  have t1 : Turn (fun _ => False) w w1 := by rw [hw1]; exact (Turn.refl _ _).alloc _
  have HR1 := Lib.hid (show w1.heap[w.heap.size]? = some (.cells ZRc 42 (0, 0)) by rw [hw1]; exact heap_alloc_new _ _)
  have S1 : w.heap.size < w1.heap.size := by rw [hw1]; simp
  have T1 := Lib.hid t1
  have SL1 := Lib.hid (hs.turn t1 (fun _ h => h.elim) (fun _ _ h => h))
  have AC := Lib.hid (And.intro hA hc)
  have HN := Lib.hid hN
  have NONE := Lib.hid (fun (w' : World) (h : readS l = none) (t : Turn (fun _ => False) w w') => rd_none (N := N) h t)
  obtain ⟨n, hn⟩ : ∃ n, n = l.length := ⟨_, rfl⟩
  rw [← hn] at hlen ⊢
  have HNL := Lib.hid hn
  clear hs hA hc hN t1 hn
  go_enter Tryd.func17, Tryd.ntmps17
  go_upto_region 1 with fail
  change Code.wp _ _ _ _ (w.alloc (.cells ZRc 42))
  rw [← hw1]
  clear hw1
  by_cases h12 : n < 12
  · have NO := Lib.hid (readS_short (l := l) (.inl (by rw [← HNL.out]; exact h12)))
    have d12 : decide ((n : Int) < 12) = true := decide_eq_true (by omega)
    clear h12
    --BODY
    go_wp2_with (refine wpList_store_row rfl _ _ _ rfl w.heap.size ZRc rfl rfl _ ZRc HR1.out KR.out.1 rfl KR.out.2 ?_)
    refine bodyPost_ret (v := .tuple #[.agg ZRc, .bool false]) ?_ rfl (NONE.out _ NO.out (turn_zero T1.out _))
    exact results_rc Tryd.results17 _ _ w.heap.size _ _ rfl rfl (setRow_heap _ _ _ _ _ _ HR1.out) rfl
  have d12 : decide ((n : Int) < 12) = false := decide_eq_false (by omega)
  obtain ⟨ad, rfl⟩ : ∃ ad, A = some ad := by
    obtain ⟨x, hx⟩ : ∃ x, (l.map bv)[0]? = some x := ⟨_, List.getElem?_eq_getElem (by rw [List.length_map, ← HNL.out]; omega)⟩
    obtain ⟨ad, e, -⟩ := SL1.out 0 x hx
    exact ⟨ad, e⟩
  have CELL := Lib.hid (fun (k : Nat) (x : B8) (h : l[k]? = some x) => (show w1.cell? (ad.add k) = some (.int .u8 (x.toNat : Int)) from by
    obtain ⟨ad', e, -, h3⟩ := SL1.out k (bv x) (by rw [List.getElem?_map, h]; rfl)
    injection e with e; subst e; exact h3))
  go_wp2
  go_loop [4, 5] (fun v i => ∃ k : Nat, k ≤ 4 ∧ i = .int .i64 k ∧ v = .int .i64 (valB (l.take k) : Int)) (fun _ i => (4 - intOf i).toNat)
  case atStart => exact ⟨0, by omega, rfl, by simp [valB]⟩
  case round =>
    obtain ⟨k, hk, rfl, rfl⟩ := hrel
    by_cases h4 : k < 4
    · have hkn : k < l.length := by have := HNL.out; omega
      have hv := valB_lt (l.take k)
      rw [List.length_take, Nat.min_eq_left (by omega)] at hv
      have hp : 256 ^ k ≤ 256 ^ 3 := Nat.pow_le_pow_right (by omega) (by omega)
      have hq := Lib.hid (valB_take l k hkn)
      have hcell := CELL.out k l[k] (List.getElem?_eq_getElem hkn)
      obtain ⟨x, hx⟩ : ∃ x, x = l[k] := ⟨_, rfl⟩
      rw [← hx] at hq hcell
      have hx8 : x.toNat < 256 := x.isLt
      obtain ⟨V, hV⟩ : ∃ V, V = valB (l.take k) := ⟨_, rfl⟩
      rw [← hV] at hq hv ⊢
      have hV3 : V < 16777216 := by omega
      have hkn' : (k : Int) < (n : Int) := by have := HNL.out; omega
      clear hx hV hv hp hkn
      go_wp2
      go_round
      case rel => exact ⟨k + 1, by omega, by go_num, by rw [hq.out]; push_cast; rfl⟩
      case measure => simp [intOf]; omega
    · obtain rfl : k = 4 := by omega
      have hv := valB_lt (l.take 4)
      rw [List.length_take, Nat.min_eq_left (by have := HNL.out; omega)] at hv
      obtain ⟨L, hL⟩ : ∃ L, L = lenS l := ⟨_, rfl⟩
      have hL' : valB (l.take 4) = L := hL.symm
      rw [hL'] at hv ⊢
      have HL := Lib.hid hL
      have hv' : L < 4294967296 := by simpa using hv
      clear hL hL' hv
      by_cases hbig : 65524 < L
      · have NO := Lib.hid (readS_short (l := l) (.inr (.inl (by rw [← HL.out]; exact hbig))))
        have d1 : decide ((65524 : Int) < (L : Int)) = true := decide_eq_true (by omega)
        clear hbig
        go_upto_region 9 with fail
        go_wp2_with (refine wpList_store_row rfl _ _ _ rfl w.heap.size ZRc rfl rfl _ ZRc HR1.out KR.out.1 rfl KR.out.2 ?_)
        refine bodyPost_ret (v := .tuple #[.agg ZRc, .bool false]) ?_ rfl (NONE.out _ NO.out (turn_zero T1.out _))
        exact results_rc Tryd.results17 _ _ w.heap.size _ _ rfl rfl (setRow_heap _ _ _ _ _ _ HR1.out) rfl

      have d1 : decide ((65524 : Int) < (L : Int)) = false := decide_eq_false (by omega)
      have HBIG := Lib.hid hbig
      by_cases hlong : n - 12 < L
      · have NO := Lib.hid (readS_short (l := l) (.inr (.inr (by unfold endS; rw [← HL.out, ← HNL.out]; omega))))
        have d2 : decide ((n : Int) - 12 < (L : Int)) = true := decide_eq_true (by omega)
        clear hbig hlong
        go_upto_region 9 with fail
        go_wp2_with (refine wpList_store_row rfl _ _ _ rfl w.heap.size ZRc rfl rfl _ ZRc HR1.out KR.out.1 rfl KR.out.2 ?_)
        refine bodyPost_ret (v := .tuple #[.agg ZRc, .bool false]) ?_ rfl (NONE.out _ NO.out (turn_zero T1.out _))
        exact results_rc Tryd.results17 _ _ w.heap.size _ _ rfl rfl (setRow_heap _ _ _ _ _ _ HR1.out) rfl

      have d2 : decide ((n : Int) - 12 < (L : Int)) = false := decide_eq_false (by omega)
      obtain ⟨M, hM⟩ : ∃ M, M = 12 + L := ⟨_, rfl⟩
      have hMn : M ≤ n := by omega
      have hM6 : M ≤ 65536 := by omega
      have hMi : (12 : Int) + (L : Int) = (M : Int) := by omega
      have HM := Lib.hid hM
      clear hbig hlong hM
      have HEL := Lib.hid (show endS l = M + secPad M by unfold endS; rw [← HL.out, ← HM.out])
      go_wp2
      go_loop [6] (fun e => ∃ j : Nat, j ≤ secPad M ∧ e = .int .i64 ((M : Int) + (j : Int)) ∧ M + j ≤ n ∧ ∀ i, i < j → l[M + i]? = some 0) (fun e => (((M + secPad M : Nat) : Int) - intOf e).toNat)
      case atStart => exact ⟨0, by omega, by simp, by omega, fun i hi => by omega⟩
      case round =>
        obtain ⟨j, hj, rfl, hjn, hz⟩ := hrel
        have HZ := Lib.hid hz
        have hs64 := secPad_lt M
        have hsd := secPad_div M
        have hpe : secPad M = (64 - M % 64) % 64 := rfl
        clear hz
        by_cases hl : j < secPad M
        · have hne : (((M : Int) + (j : Int)) % 64 != 0) = true := by
            rw [bne_iff_ne]; omega
          by_cases hfull : n ≤ M + j
          · have NO := Lib.hid (readS_short (l := l) (.inr (.inr (by rw [HEL.out, ← HNL.out]; omega))))
            have d3 : decide ((n : Int) ≤ (M : Int) + (j : Int)) = true := decide_eq_true (by omega)
            clear hfull hs64 hsd hpe
            go_upto_region 13 with fail
            go_wp2_with (refine wpList_store_row rfl _ _ _ rfl w.heap.size ZRc rfl rfl _ ZRc HR1.out KR.out.1 rfl KR.out.2 ?_)
            refine bodyPost_ret (v := .tuple #[.agg ZRc, .bool false]) ?_ rfl (NONE.out _ NO.out (turn_zero T1.out _))
            exact results_rc Tryd.results17 _ _ w.heap.size _ _ rfl rfl (setRow_heap _ _ _ _ _ _ HR1.out) rfl

          have d3 : decide ((n : Int) ≤ (M : Int) + (j : Int)) = false := decide_eq_false (by omega)
          have hkn : M + j < l.length := by have := HNL.out; omega
          have hcell := CELL.out (M + j) l[M + j] (List.getElem?_eq_getElem hkn)
          have HX := Lib.hid (List.getElem?_eq_getElem hkn)
          generalize l[M + j] = x at hcell HX
          have hti : ((M : Int) + (j : Int)).toNat = M + j := by omega
          have hlt3 : (M : Int) + (j : Int) < (n : Int) := by omega
          have hge3 : (0 : Int) ≤ (M : Int) + (j : Int) := by omega
          clear hfull
          by_cases hx0 : x = 0
          · have HX0 := Lib.hid (show l[M + j]? = some 0 by rw [← hx0]; exact HX.out)
            subst hx0
            have d4 : (((0 : B8).toNat : Int) != 0) = false := rfl
            have hw1 : IntKind.i64.wrap ((M : Int) + (j : Int) + 1) = (M : Int) + ((j + 1 : Nat) : Int) := by rw [IntWalk.i64_in _ (by omega)]; omega
            clear hs64 hsd hpe
            go_wp2
            refine ⟨⟨j + 1, by omega, by push_cast; rfl, by omega, fun i hi => ?_⟩, by simp [intOf]; omega⟩
            by_cases hij : i < j
            · exact HZ.out i hij
            · obtain rfl : i = j := by omega
              exact HX0.out
          · have NO := Lib.hid (readS_pad (l := l) (k := j) (x := x) (by rw [← HL.out, ← HM.out]; exact hl) (by rw [← HL.out, ← HM.out]; exact HX.out) hx0)
            have d4 : ((x.toNat : Int) != 0) = true := by
              rw [bne_iff_ne]; intro h; exact hx0 (BitVec.eq_of_toNat_eq (by simpa using h))
            clear hx0 hs64 hsd hpe
            go_upto_region 13 with fail
            go_wp2_with (refine wpList_store_row rfl _ _ _ rfl w.heap.size ZRc rfl rfl _ ZRc HR1.out KR.out.1 rfl KR.out.2 ?_)
            refine bodyPost_ret (v := .tuple #[.agg ZRc, .bool false]) ?_ rfl (NONE.out _ NO.out (turn_zero T1.out _))
            exact results_rc Tryd.results17 _ _ w.heap.size _ _ rfl rfl (setRow_heap _ _ _ _ _ _ HR1.out) rfl

        · obtain rfl : j = secPad M := by omega
          have hne : (((M : Int) + (secPad M : Int)) % 64 != 0) = false := by
            rw [bne_eq_false_iff_eq]; omega
          obtain ⟨p, hp⟩ : ∃ p, p = secPad M := ⟨_, rfl⟩
          have HP := Lib.hid hp
          rw [← hp] at hj hjn HZ hl hne HEL ⊢
          have HPD := Lib.hid (show (M + p) % 64 = 0 by rw [hp]; exact hsd)
          have hp64 : p < 64 := by omega
          clear hs64 hsd hpe hj hl hp
          obtain ⟨c2, hc2⟩ : ∃ c2, c2 = c - 12 := ⟨_, rfl⟩
          obtain ⟨A2, hA2⟩ : ∃ A2, A2 = cutA (some ad) c 12 := ⟨_, rfl⟩
          have hLn : L ≤ n - 12 := by have := HM.out; omega
          have hcn : n ≤ c := by have := AC.out.2; have := HNL.out; omega
          have SLI : ∀ w, (Instr.slice 22 (.slice (some ad) n c) (some (.int .i64 12)) (some (.int .i64 (M : Int))) none).run Tryd.prog w = .ok (.slice A2 L c2) w := fun w => by
            have hMt : (M : Int).toNat - 12 = L := by have := HM.out; omega
            rw [run_slice_lh (P := Tryd.prog) w 22 (some ad) n c (by kernel_rfl) .i64 .i64 12 (M : Int) (by omega) (by have := HM.out; omega) (by omega)]
            rw [show Tryd.prog.elem 22 = 5 by kernel_rfl, size_u8]
            simp only [Result.andThen, sliced, hA2, hc2, cutA, Nat.mul_one]
            rw [show (12 : Int).toNat = 12 from rfl, hMt]
          have SB := Lib.hid (show SlN w1 N A2 ((bodyS l).map bv) from by
            have h := (sln_cut SL1.out c 12 (by have := HNL.out; omega)).take L
            rw [bodyS, ← HL.out, hA2, List.map_take]; exact h)
          have HBL := Lib.hid (show (bodyS l).length = L by rw [bodyS, List.length_take, List.length_drop, ← HL.out, ← HNL.out]; omega)
          have hL2 : L ≤ c2 := by omega
          have hA2n : A2 = none → c2 = 0 := by rw [hA2, hc2]; exact cut_none (fun h => by cases h)
          obtain ⟨F, hF⟩ : ∃ F, F = bodyS l := ⟨_, rfl⟩
          rw [← hF] at SB HBL
          have HF := Lib.hid hF
          have SM := Lib.hid (rsum13_any A2 c2 F w1 (fun j u hu => by obtain ⟨ad, h1, -, h3⟩ := SB.out j u hu; exact ⟨ad, h1, h3⟩) hA2n (by rw [HBL.out]; omega))
          rw [HBL.out] at SM
          clear hc2 hA2 hF
          go_wp2_with (go_at_call 37; refine stop ?_)
          unfold Stop
          refine SM.out.mono ?_
          rintro r w2 ⟨v2, rfl, ho2, hb2⟩
          obtain ⟨gs, cs, rfl, hg1, hg2⟩ := ho2.form (by omega)
          have HR2 := Lib.hid (show w2.heap[w.heap.size]? = some (.cells ZRc 42 (0, 0)) from heap_below' hb2 HR1.out)
          have T2 := Lib.hid (T1.out.trans (of_turn hb2) (fun _ _ h => h))
          have SL2 := Lib.hid (SL1.out.turn (of_turn hb2) (fun _ h => h.elim) (fun _ _ h => h))
          have SB2 := Lib.hid (SB.out.turn (of_turn hb2) (fun _ h => h.elim) (fun _ _ h => h))
          have S2 := hb2.size
          have CELL2 := Lib.hid (fun (k m : Nat) (x : B8) (h : l[k]? = some x) => (show (w2.drewN m).cell? (ad.add k) = some (.int .u8 (x.toNat : Int)) from by
            obtain ⟨ad', e, -, h3⟩ := SL2.out k (bv x) (by rw [List.getElem?_map, h]; rfl)
            injection e with e; subst e; exact h3))
          have SCELL := Lib.hid (fun (k m : Nat) (x : B8) (h : (sumS F)[k]? = some x) => (show (w2.drewN m).cell? ⟨gs, k, none⟩ = some (.int .u8 (x.toNat : Int)) from by
            obtain ⟨A', c', e, h3, -⟩ := own_sl ho2
            injection e with e1 e2 e3
            subst e1
            obtain ⟨ad', e, -, h4⟩ := h3 k (bv x) (by rw [List.getElem?_map, h]; rfl)
            injection e with e; subst e
            rw [add_row] at h4; exact h4))
          clear ho2 hb2 SM
          go_wp2
          go_loopw [9] (fun i wr => ∃ k : Nat, k ≤ 8 ∧ i = .int .i64 k ∧ (∀ i, i < k → l[4 + i]? = (sumS F)[i]?) ∧ Stp w2 wr) (fun i _ => (8 - intOf i).toNat)
          case atStart => exact ⟨0, by omega, rfl, fun i hi => by omega, Stp.refl _⟩
          case round =>
            obtain ⟨k, hk8, rfl, he, hwr⟩ := hrel
            have HE := Lib.hid he
            clear he
            have HR3 := Lib.hid (heap_below' hwr HR2.out)
            have T3 := Lib.hid (T2.out.trans (of_turn hwr) (fun _ _ h => h))
            have HWR := Lib.hid hwr
            clear hwr
            by_cases hk : k < 8
            · have hkn : 4 + k < l.length := by have := HNL.out; omega
              have hks : k < (sumS F).length := by rw [sumS_len]; exact hk
              have C1 := Lib.hid (show ∀ w4, Stp w2 w4 → w4.cell? (ad.add (4 + k)) = some (.int .u8 ((l[4 + k]).toNat : Int)) from fun w4 h4 => by
                have h := CELL2.out _ 0 _ (List.getElem?_eq_getElem hkn)
                exact (h4.cell (World.block_lt_of_cell? w2 _ h)).trans h)
              have C2 := Lib.hid (show ∀ w4, Stp w2 w4 → w4.cell? ⟨gs, k, none⟩ = some (.int .u8 (((sumS F)[k]).toNat : Int)) from fun w4 h4 => by
                have h := SCELL.out _ 0 _ (List.getElem?_eq_getElem hks)
                exact (h4.cell (World.block_lt_of_cell? w2 _ h)).trans h)
              have X1 := Lib.hid (List.getElem?_eq_getElem hkn)
              have X2 := Lib.hid (List.getElem?_eq_getElem hks)
              generalize l[4 + k] = x at C1 X1
              generalize (sumS F)[k] = y at C2 X2
              have hk4 : ((4 : Int) + (k : Int)).toNat = 4 + k := by omega
              have hkk : (4 : Int) + (k : Int) < (n : Int) := by have := HNL.out; omega
              have hk0 : (0 : Int) ≤ (4 : Int) + (k : Int) := by omega
              have hk8' : (k : Int) < 8 := by omega
              have hk88 : k < 8 := hk
              clear hkn hks hk
              have hd8 : decide ((k : Int) < 8) = true := decide_eq_true hk8'
              obtain ⟨W3, eW3⟩ : ∃ W3, W3 = wr := ⟨_, rfl⟩
              subst eW3
              have HWD := Lib.hid (Stp.trans _ _ _ HWR.out (stp_drew W3))
              go_upto_region 20 with fail
              refine wp_region_rel 124 Stp [.one ?_, .one ?_, .one ?_, .one ?_, .one ?_, .one ?_, .one ?_, .one ?_, .one ?_, .one ?_] (by kernel_rfl) (by kernel_rfl) rfl (by kernel_rfl) Stp.refl Stp.trans trivial ?main
              case main =>
              iterate 4
                refine wpR_one (A' := ?_) Stp.refl (by rfl) _ rfl 124 (by rfl) (by rfl) ?_ ?_ ?_
                rotate_left 1
                · simp only [Act.put, List.setIfInBounds_toArray, List.set_cons_zero, List.set_cons_succ]; rfl
                · intro w1 hs hf K hK
                  go_big_quiet_op
                  first
                    | go_big_quiet_on
                    | (refine ⟨_, fun _ _ => rfl, ?_⟩; go_big_quiet_on)
                  rfl
              refine wpR_one (A' := ?_) Stp.refl (by rfl) _ rfl 124 (by rfl) (by rfl) ?_ ?_ ?_
              rotate_left 1
              · simp only [Act.put, List.setIfInBounds_toArray, List.set_cons_zero, List.set_cons_succ]; rfl
              · intro w1 hs hf K hK
                refine cls_load_cell 5 (.tmp 71) rfl (ad.add (4 + k)) rfl (.int .u8 (x.toNat : Int)) (fun w h => by simp [go_sem, h]) (fun w2 h2 => C1.out _ (Stp.trans _ _ _ HWD.out (Stp.trans _ _ _ hs h2))) ?_
                refine hK _ ?_
                simp only [Act.put, List.setIfInBounds_toArray, List.set_cons_zero, List.set_cons_succ]
                rfl
              iterate 3
                refine wpR_one (A' := ?_) Stp.refl (by rfl) _ rfl 124 (by rfl) (by rfl) ?_ ?_ ?_
                rotate_left 1
                · simp only [Act.put, List.setIfInBounds_toArray, List.set_cons_zero, List.set_cons_succ]; rfl
                · intro w1 hs hf K hK
                  go_big_quiet_op
                  first
                    | go_big_quiet_on
                    | (refine ⟨_, fun _ _ => rfl, ?_⟩; go_big_quiet_on)
                  rfl
              refine wpR_one (A' := ?_) Stp.refl (by rfl) _ rfl 124 (by rfl) (by rfl) ?_ ?_ ?_
              rotate_left 1
              · simp only [Act.put, List.setIfInBounds_toArray, List.set_cons_zero, List.set_cons_succ]; rfl
              · intro w1 hs hf K hK
                refine cls_load_cell 5 (.tmp 75) rfl ⟨gs, k, none⟩ rfl (.int .u8 (y.toNat : Int)) (fun w h => by simp [go_sem, h]) (fun w2 h2 => C2.out _ (Stp.trans _ _ _ HWD.out (Stp.trans _ _ _ hs h2))) ?_
                refine hK _ ?_
                simp only [Act.put, List.setIfInBounds_toArray, List.set_cons_zero, List.set_cons_succ]
                rfl
              iterate 1
                refine wpR_one (A' := ?_) Stp.refl (by rfl) _ rfl 124 (by rfl) (by rfl) ?_ ?_ ?_
                rotate_left 1
                · simp only [Act.put, List.setIfInBounds_toArray, List.set_cons_zero, List.set_cons_succ]; rfl
                · intro w1 hs hf K hK
                  go_big_quiet_op
                  first
                    | go_big_quiet_on
                    | (refine ⟨_, fun _ _ => rfl, ?_⟩; go_big_quiet_on)
                  rfl
              intro wz hs1 hf
              have hwz := Stp.trans _ _ _ HWD.out hs1
              have HR4 := Lib.hid (heap_below' hwz HR2.out)
              have T4 := Lib.hid (T2.out.trans (of_turn hwz) (fun _ _ h => h))
              have HWZ := Lib.hid hwz
              clear hs1 hf hwz HWD HWR T3 HR3
              by_cases hxy : x = y
              · have q3 : ((x.toNat : Int) != (y.toNat : Int)) = false := by rw [hxy, bne_self_eq_false]
                have HT4 := Lib.hid (show l[4 + k]? = (sumS F)[k]? by rw [X1.out, X2.out, hxy])
                clear hxy
                go_wp2
                go_roundw
                case rel =>
                  refine ⟨k + 1, by omega, by go_num, fun i hi => ?_, HWZ.out⟩
                  by_cases hik : i < k
                  · exact HE.out i hik
                  · obtain rfl : i = k := by omega
                    exact HT4.out
                case measure => simp [intOf]; omega
              · have q3 : ((x.toNat : Int) != (y.toNat : Int)) = true := by
                  rw [bne_iff_ne]; intro h; exact hxy (BitVec.eq_of_toNat_eq (by exact_mod_cast h))
                have NO := Lib.hid (readS_sum (l := l) (k := k) X1.out (by rw [← HF.out]; exact X2.out) hxy)
                clear hxy
                go_upto_region 21 with fail
                go_wp2_with (refine wpList_store_row rfl _ _ _ rfl w.heap.size ZRc rfl rfl _ ZRc HR4.out KR.out.1 rfl KR.out.2 ?_)
                refine bodyPost_ret (v := .tuple #[.agg ZRc, .bool false]) ?_ rfl (NONE.out _ NO.out (turn_zero T4.out _))
                exact results_rc Tryd.results17 _ _ w.heap.size _ _ rfl rfl (setRow_heap _ _ _ _ _ _ HR4.out) rfl
            · obtain rfl : k = 8 := by omega
              have HS := Lib.hid (show (l.drop 4).take 8 = sumS F from by
                refine List.ext_getElem? fun i => ?_
                rw [List.getElem?_take]
                by_cases hi : i < 8
                · rw [if_pos hi, List.getElem?_drop]; exact HE.out i hi
                · rw [if_neg hi, List.getElem?_eq_none (by rw [sumS_len]; omega)])
              have SB3 := Lib.hid (SB2.out.turn (of_turn HWR.out) (fun _ h => h.elim) (fun _ _ h => h))
              obtain ⟨W3, eW3⟩ : ∃ W3, W3 = wr := ⟨_, rfl⟩
              subst eW3
              have hd8 : decide (((8 : Nat) : Int) < 8) = false := by decide
              clear HE hk hk8
              have hzf := zero_field'
              have hzg := zero_got'
              have TK := Lib.hid (take_full N A2 c2 L F HBL.out (tF 0 1099511627776) W3 rfl (.inl rfl) (by show (1099511627776 : Nat) < _; decide) SB3.out hA2n hL2 (by omega))
              rw [tF_cells] at TK
              go_wp2_with (go_at_call 45; refine stop ?_)
              unfold Stop
              refine TK.out.mono ?_
              rintro r wa ⟨g1, rfl, hd, hge, hgx, hg0, t⟩
              have GD1 := Lib.hid hd
              have GE1 := Lib.hid (And.intro hge hg0)
              have ta := t
              clear TK hd hge hgx hg0 t
              obtain ⟨C, hC⟩ : ∃ C, C = g1.cells.toArray := ⟨_, rfl⟩
              have GK := Lib.hid (gkeep g1 GD1.out)
              rw [← hC] at GK ⊢
              have HC := Lib.hid hC
              clear hC
              have HA := Lib.hid (show (wa.alloc (.cells Z37 97)).heap[wa.heap.size]? = some (.cells Z37 97 (0, 0)) from heap_alloc_new _ _)
              go_upto_region 23 with (refine wpList_store_row rfl _ _ _ rfl wa.heap.size C rfl rfl 97 Z37 HA.out GK.out.1 GK.out.2.1.symm GK.out.2.2 ?_)
              obtain ⟨V1, hw⟩ : ∃ w', w' = (wa.alloc (.cells Z37 97)).setRow wa.heap.size C := ⟨_, rfl⟩
              have tt : Turn (fun _ => False) W3 V1 := by rw [hw]; exact ta.trans (((Turn.refl (fun _ => False) wa).alloc _).setRow _ _ (fun h => by omega)) (fun _ _ h => h)
              obtain ⟨Q1, hQ⟩ : ∃ Q, Q = wa.heap.size := ⟨_, rfl⟩
              have HQ1 := Lib.hid (show GBl V1 Q1 g1 from ⟨by rw [hw, hQ, ← HC.out]; exact setRow_heap _ _ _ _ _ _ HA.out, GD1.out⟩)
              change Code.wp _ _ _ _ ((wa.alloc (.cells Z37 97)).setRow wa.heap.size C)
              rw [← hw, ← hQ]
              clear hw hQ HA HC GK ta
              have TT := Lib.hid tt
              clear tt
              have HRV1 := Lib.hid (TT.out.heap HR3.out (fun h => h))
              have TV1 := Lib.hid (T3.out.trans TT.out (fun _ _ h => h))
              have hE1 : sE (tF 0 1099511627776) F = eNum mostS F := rfl
              by_cases hz1 : g1.e = 0
              rotate_left 1
              · have hzz : ((g1.e : Int) != 0) = true := by rw [bne_iff_ne]; exact_mod_cast hz1
                have NO := Lib.hid (readS_fld (l := l) (.inl (by
                  rw [← HF.out]; unfold fldE; rw [if_pos (by rw [← hE1, ← GE1.out.1]; exact hz1), ← hE1, ← GE1.out.1]; exact hz1)))
                obtain ⟨-, -, d35, -, -⟩ := HQ1.out.facts
                clear hz1
                go_upto_region 24 with fail
                go_wp2_with (refine wpList_store_row rfl _ _ _ rfl w.heap.size ZRc rfl rfl _ ZRc HRV1.out KR.out.1 rfl KR.out.2 ?_)
                refine bodyPost_ret (v := .tuple #[.agg ZRc, .bool false]) ?_ rfl (NONE.out _ NO.out (turn_zero TV1.out _))
                exact results_rc Tryd.results17 _ _ w.heap.size _ _ rfl rfl (setRow_heap _ _ _ _ _ _ HRV1.out) rfl
              have hzz : ((g1.e : Int) != 0) = false := by rw [hz1]; rfl
              obtain ⟨ok1, at1, an1, ac1⟩ := GE1.out.2 (by rw [← GE1.out.1]; exact hz1)
              have EN1 := Lib.hid (show eNum mostS F = 0 by rw [← hE1, ← GE1.out.1]; exact hz1)
              have L1 := Lib.hid (show g1.l = numR F from ok1.l)
              have N1 := Lib.hid (show g1.f.n = numV F from ok1.n)
              have SG1 := Lib.hid (at1.s.turn TT.out (fun _ h => h.elim) (fun _ _ h => h))
              have GA1 := Lib.hid (And.intro at1.a at1.c)
              obtain ⟨n1, hn1⟩ : ∃ n, n = g1.l.length := ⟨_, rfl⟩
              have HN1 := Lib.hid hn1
              have hn1L : n1 ≤ L := by rw [hn1, L1.out, ← HBL.out]; exact numR_le F
              obtain ⟨d1, -, d35, d36, -⟩ := HQ1.out.facts
              rw [← hn1] at d36
              clear hz1 ok1 at1 an1 ac1 GE1 hn1 TT hE1
              have TK := Lib.hid (take_full N g1.A g1.c n1 g1.l HN1.out.symm (tF 0 1099511627776) V1 rfl (.inl rfl) (by show (1099511627776 : Nat) < _; decide) SG1.out GA1.out.1 (by rw [HN1.out]; exact GA1.out.2) (by omega))
              rw [tF_cells] at TK
              go_wp2_with (go_at_call 45; refine stop ?_)
              unfold Stop
              refine TK.out.mono ?_
              rintro r wa ⟨g2, rfl, hd, hge, hgx, hg0, t⟩
              have GD2 := Lib.hid hd
              have GE2 := Lib.hid (And.intro hge hg0)
              have ta := t
              clear TK hd hge hgx hg0 t
              obtain ⟨C, hC⟩ : ∃ C, C = g2.cells.toArray := ⟨_, rfl⟩
              have GK := Lib.hid (gkeep g2 GD2.out)
              rw [← hC] at GK ⊢
              have HC := Lib.hid hC
              clear hC
              have HA := Lib.hid (show (wa.alloc (.cells Z37 97)).heap[wa.heap.size]? = some (.cells Z37 97 (0, 0)) from heap_alloc_new _ _)
              go_upto_region 26 with (refine wpList_store_row rfl _ _ _ rfl wa.heap.size C rfl rfl 97 Z37 HA.out GK.out.1 GK.out.2.1.symm GK.out.2.2 ?_)
              obtain ⟨V2, hw⟩ : ∃ w', w' = (wa.alloc (.cells Z37 97)).setRow wa.heap.size C := ⟨_, rfl⟩
              have tt : Turn (fun _ => False) V1 V2 := by rw [hw]; exact ta.trans (((Turn.refl (fun _ => False) wa).alloc _).setRow _ _ (fun h => by omega)) (fun _ _ h => h)
              obtain ⟨Q2, hQ⟩ : ∃ Q, Q = wa.heap.size := ⟨_, rfl⟩
              have HQ2 := Lib.hid (show GBl V2 Q2 g2 from ⟨by rw [hw, hQ, ← HC.out]; exact setRow_heap _ _ _ _ _ _ HA.out, GD2.out⟩)
              change Code.wp _ _ _ _ ((wa.alloc (.cells Z37 97)).setRow wa.heap.size C)
              rw [← hw, ← hQ]
              clear hw hQ HA HC GK ta
              have TT := Lib.hid tt
              clear tt
              clear hzz d1 d35 d36
              have HRV2 := Lib.hid (TT.out.heap HRV1.out (fun h => h))
              have TV2 := Lib.hid (TV1.out.trans TT.out (fun _ _ h => h))
              have HQ12 := Lib.hid (HQ1.out.turn TT.out (fun h => h))
              have hE2 : sE (tF 0 1099511627776) g1.l = eNum mostS (numR F) := by rw [L1.out]; rfl
              by_cases hz2 : g2.e = 0
              rotate_left 1
              · have hzz : ((g2.e : Int) != 0) = true := by rw [bne_iff_ne]; exact_mod_cast hz2
                have NO := Lib.hid (readS_fld (l := l) (.inl (by
                  rw [← HF.out]; unfold fldE; rw [if_neg (by rw [EN1.out]; simp), if_pos (by rw [← hE2, ← GE2.out.1]; exact hz2), ← hE2, ← GE2.out.1]; exact hz2)))
                obtain ⟨-, -, d35, -, -⟩ := HQ2.out.facts
                clear hz2
                go_upto_region 27 with fail
                go_wp2_with (refine wpList_store_row rfl _ _ _ rfl w.heap.size ZRc rfl rfl _ ZRc HRV2.out KR.out.1 rfl KR.out.2 ?_)
                refine bodyPost_ret (v := .tuple #[.agg ZRc, .bool false]) ?_ rfl (NONE.out _ NO.out (turn_zero TV2.out _))
                exact results_rc Tryd.results17 _ _ w.heap.size _ _ rfl rfl (setRow_heap _ _ _ _ _ _ HRV2.out) rfl
              have hzz : ((g2.e : Int) != 0) = false := by rw [hz2]; rfl
              obtain ⟨ok2, at2, an2, ac2⟩ := GE2.out.2 (by rw [← GE2.out.1]; exact hz2)
              have EN2 := Lib.hid (show eNum mostS (numR F) = 0 by rw [← hE2, ← GE2.out.1]; exact hz2)
              have L2 := Lib.hid (show g2.l = numR (numR F) by rw [← L1.out]; exact ok2.l)
              have N2 := Lib.hid (show g2.f.n = numV (numR F) by rw [← L1.out]; exact ok2.n)
              have SG2 := Lib.hid (at2.s.turn TT.out (fun _ h => h.elim) (fun _ _ h => h))
              have GA2 := Lib.hid (And.intro at2.a at2.c)
              obtain ⟨n2, hn2⟩ : ∃ n, n = g2.l.length := ⟨_, rfl⟩
              have HN2 := Lib.hid hn2
              have hn2L : n2 ≤ L := by rw [hn2, L2.out]; exact Nat.le_trans (numR_le _) (by rw [← L1.out, ← HN1.out]; exact hn1L)
              obtain ⟨d1, -, d35, d36, -⟩ := HQ2.out.facts
              rw [← hn2] at d36
              have hL64 : IntKind.u64.wrap (L : Int) = (L : Int) := by rw [IntWalk.u64_in _ (by omega)]
              clear hz2 ok2 at2 an2 ac2 GE2 hn2 TT hE2
              have TK := Lib.hid (take_full N g2.A g2.c n2 g2.l HN2.out.symm (tF 1 L) V2 rfl (.inr (.inl rfl)) (by show L < _; omega) SG2.out GA2.out.1 (by rw [HN2.out]; exact GA2.out.2) (by omega))
              rw [tF_cells] at TK
              go_wp2_with (go_at_call 45; refine stop ?_)
              unfold Stop
              refine TK.out.mono ?_
              rintro r wa ⟨g3, rfl, hd, hge, hgx, hg0, t⟩
              have GD3 := Lib.hid hd
              have GE3 := Lib.hid (And.intro hge hg0)
              have ta := t
              clear TK hd hge hgx hg0 t
              obtain ⟨C, hC⟩ : ∃ C, C = g3.cells.toArray := ⟨_, rfl⟩
              have GK := Lib.hid (gkeep g3 GD3.out)
              rw [← hC] at GK ⊢
              have HC := Lib.hid hC
              clear hC
              have HA := Lib.hid (show (wa.alloc (.cells Z37 97)).heap[wa.heap.size]? = some (.cells Z37 97 (0, 0)) from heap_alloc_new _ _)
              go_upto_region 29 with (refine wpList_store_row rfl _ _ _ rfl wa.heap.size C rfl rfl 97 Z37 HA.out GK.out.1 GK.out.2.1.symm GK.out.2.2 ?_)
              obtain ⟨V3, hw⟩ : ∃ w', w' = (wa.alloc (.cells Z37 97)).setRow wa.heap.size C := ⟨_, rfl⟩
              have tt : Turn (fun _ => False) V2 V3 := by rw [hw]; exact ta.trans (((Turn.refl (fun _ => False) wa).alloc _).setRow _ _ (fun h => by omega)) (fun _ _ h => h)
              obtain ⟨Q3, hQ⟩ : ∃ Q, Q = wa.heap.size := ⟨_, rfl⟩
              have HQ3 := Lib.hid (show GBl V3 Q3 g3 from ⟨by rw [hw, hQ, ← HC.out]; exact setRow_heap _ _ _ _ _ _ HA.out, GD3.out⟩)
              change Code.wp _ _ _ _ ((wa.alloc (.cells Z37 97)).setRow wa.heap.size C)
              rw [← hw, ← hQ]
              clear hw hQ HA HC GK ta
              have TT := Lib.hid tt
              clear tt
              clear hzz d1 d35 d36
              have HRV3 := Lib.hid (TT.out.heap HRV2.out (fun h => h))
              have TV3 := Lib.hid (TV2.out.trans TT.out (fun _ _ h => h))
              have HQ13 := Lib.hid (HQ12.out.turn TT.out (fun h => h))
              have HQ23 := Lib.hid (HQ2.out.turn TT.out (fun h => h))
              have hE3 : sE (tF 1 L) g2.l = eText (F.length : Int) (numR (numR F)) := by rw [L2.out, HBL.out]; rfl
              by_cases hz3 : g3.e = 0
              rotate_left 1
              · have hzz : ((g3.e : Int) != 0) = true := by rw [bne_iff_ne]; exact_mod_cast hz3
                have NO := Lib.hid (readS_fld (l := l) (.inl (by
                  rw [← HF.out]; unfold fldE; rw [if_neg (by rw [EN1.out]; simp), if_neg (by rw [EN2.out]; simp), ← hE3, ← GE3.out.1]; exact hz3)))
                obtain ⟨-, -, d35, -, -⟩ := HQ3.out.facts
                clear hz3
                go_upto_region 30 with fail
                go_wp2_with (refine wpList_store_row rfl _ _ _ rfl w.heap.size ZRc rfl rfl _ ZRc HRV3.out KR.out.1 rfl KR.out.2 ?_)
                refine bodyPost_ret (v := .tuple #[.agg ZRc, .bool false]) ?_ rfl (NONE.out _ NO.out (turn_zero TV3.out _))
                exact results_rc Tryd.results17 _ _ w.heap.size _ _ rfl rfl (setRow_heap _ _ _ _ _ _ HRV3.out) rfl
              have hzz : ((g3.e : Int) != 0) = false := by rw [hz3]; rfl
              obtain ⟨ok3, at3, an3, ac3⟩ := GE3.out.2 (by rw [← GE3.out.1]; exact hz3)
              have EN3 := Lib.hid (show eText (F.length : Int) (numR (numR F)) = 0 by rw [← hE3, ← GE3.out.1]; exact hz3)
              have L3 := Lib.hid (show g3.l = (fldT F).drop (fldK F) by have h := ok3.l; rw [L2.out] at h; exact h)
              have B3 := Lib.hid (show g3.f.b = (fldT F).take (fldK F) by have h := ok3.b; rw [L2.out] at h; exact h)
              have SG3 := Lib.hid (at3.t.turn TT.out (fun _ h => h.elim) (fun _ _ h => h))
              have GA3 := Lib.hid (And.intro an3 ac3)
              obtain ⟨n3, hn3⟩ : ∃ n, n = g3.l.length := ⟨_, rfl⟩
              have HN3 := Lib.hid hn3
              obtain ⟨-, d2, d35, d36, -⟩ := HQ3.out.facts
              rw [← hn3] at d36
              clear hz3 ok3 at3 an3 ac3 GE3 hn3 TT hE3
              by_cases hn30 : n3 = 0
              rotate_left 1
              · have dz : decide ((0 : Int) < (n3 : Int)) = true := decide_eq_true (by omega)
                have dz' : decide (0 < n3) = true := decide_eq_true (by omega)
                have dz'' : 0 < n3 := by omega
                have NO := Lib.hid (readS_fld (l := l) (.inr (by
                  rw [← HF.out, ← L3.out]; intro h; exact hn30 (by rw [HN3.out, h]; rfl))))
                clear hn30 d2
                go_upto_region 30 with fail
                go_wp2_with (refine wpList_store_row rfl _ _ _ rfl w.heap.size ZRc rfl rfl _ ZRc HRV3.out KR.out.1 rfl KR.out.2 ?_)
                refine bodyPost_ret (v := .tuple #[.agg ZRc, .bool false]) ?_ rfl (NONE.out _ NO.out (turn_zero TV3.out _))
                exact results_rc Tryd.results17 _ _ w.heap.size _ _ rfl rfl (setRow_heap _ _ _ _ _ _ HRV3.out) rfl
              have dz : decide ((0 : Int) < (n3 : Int)) = false := decide_eq_false (by omega)
              have dz' : decide (0 < n3) = false := decide_eq_false (by omega)
              have dz'' : ¬ 0 < n3 := by omega
              have L30 := Lib.hid (show (fldT F).drop (fldK F) = [] by rw [← L3.out]; exact List.eq_nil_of_length_eq_zero (by rw [← HN3.out]; exact hn30))
              clear hn30
              obtain ⟨e1, -, -, -, -⟩ := HQ13.out.facts
              obtain ⟨e2, -, -, -, -⟩ := HQ23.out.facts
              have hb1 : numV F ≤ 1099511627776 := by
                have h := EN1.out
                unfold eNum mostS at h
                split at h
                · contradiction
                · split at h
                  · cases h
                  · omega
              have hb2 : numV (numR F) ≤ 1099511627776 := by
                have h := EN2.out
                unfold eNum mostS at h
                split at h
                · contradiction
                · split at h
                  · cases h
                  · omega
              obtain ⟨q1, hq1⟩ : ∃ q, q = g1.f.n := ⟨_, rfl⟩
              obtain ⟨q2, hq2⟩ : ∃ q, q = g2.f.n := ⟨_, rfl⟩
              rw [← hq1] at e1
              rw [← hq2] at e2
              rw [← N1.out, ← hq1] at hb1
              rw [← N2.out, ← hq2] at hb2
              have hw1 : IntKind.i64.wrap (q1 : Int) = (q1 : Int) := IntWalk.i64_in _ (by omega)
              have hw2 : IntKind.i64.wrap (q2 : Int) = (q2 : Int) := IntWalk.i64_in _ (by omega)
              have HQq1 := Lib.hid hq1
              have HQq2 := Lib.hid hq2
              obtain ⟨lb, hlb⟩ : ∃ x, x = g3.f.b.length := ⟨_, rfl⟩
              rw [← hlb] at d2
              have HLB := Lib.hid hlb
              obtain ⟨A3, hA3⟩ : ∃ x, x = g3.f.A := ⟨_, rfl⟩
              obtain ⟨c3, hc3⟩ : ∃ x, x = g3.f.c := ⟨_, rfl⟩
              rw [← hA3, ← hc3] at d2
              have HA3 := Lib.hid (And.intro hA3 hc3)
              obtain ⟨Z, hZ⟩ : ∃ x : Int, x = ((M : Int) + (p : Int)) / 64 := ⟨_, rfl⟩
              have HZZ := Lib.hid hZ
              clear hq1 hq2 hlb hA3 hc3 hZ
              obtain ⟨CR, hCR⟩ : ∃ CR : Array Value, CR = #[.int .i64 (q1 : Int), .int .i64 (q2 : Int), .int .i64 (((M : Int) + (p : Int)) / 64), .slice A3 lb c3] := ⟨_, rfl⟩
              have KC := Lib.hid (show (Tryd.prog.info? 42).map (·.size) = some CR.size ∧ ZRc.size = CR.size ∧ CR.all (·.oneCell') = true by rw [hCR]; exact ⟨rc_info, rfl, by simp [Value.oneCell']⟩)
              have HCR := Lib.hid hCR
              clear hCR
              go_wp2_with (refine wpList_store_row rfl _ _ _ rfl w.heap.size CR rfl (by rw [HCR.out]; rfl) 42 ZRc HRV3.out KC.out.1 KC.out.2.1 KC.out.2.2 ?_)
              refine bodyPost_ret (v := .tuple #[.agg CR, .bool true]) ?_ rfl ?_
              · exact results_rc Tryd.results17 _ _ w.heap.size _ _ rfl rfl (setRow_heap _ _ _ _ _ _ HRV3.out) (by rw [HCR.out]; rfl)
              have HFE : fldE F = 0 := by unfold fldE; rw [if_neg (by rw [EN1.out]; simp), if_neg (by rw [EN2.out]; simp)]; exact EN3.out
              have hr := readS_some (l := l) (M := M) (p := p) (by rw [← HL.out]; exact HM.out) HP.out (by rw [← HL.out]; exact HBIG.out) (by rw [← HNL.out]; exact hjn) HZ.out (by rw [← HF.out]; exact HS.out) (by rw [← HF.out]; exact HFE) (by rw [← HF.out]; exact L30.out)
              rw [← HF.out] at hr
              unfold RdPost
              rw [hr]
              refine ⟨⟨A3, c3, ?_, ?_, ?_, ?_⟩, turn_zero TV3.out _⟩
              · rw [HCR.out, ← N1.out, ← N2.out, ← HQq1.out, ← HQq2.out, ← B3.out, ← HLB.out]
                show _ = Ending.returned (.tuple #[.agg #[.int .i64 (q1 : Int), .int .i64 (q2 : Int), .int .i64 (((M + p) / 64 : Nat) : Int), .slice A3 lb c3], .bool true])
                push_cast
                rfl
              · have h := SG3.out.turn ((Turn.refl (fun i => i = w.heap.size) V3).setRow w.heap.size CR (fun _ => rfl)) (fun i hi => by have h' : i = w.heap.size := hi; rw [h']; exact HN.out _ (Nat.le_refl _)) (fun _ _ h => h)
                rw [HA3.out.1, ← B3.out]; exact h
              · rw [HA3.out.1, HA3.out.2]; exact GA3.out.1
              · rw [HA3.out.2, ← B3.out]; exact GA3.out.2
end
section
set_option linter.unusedVariables false
set_option linter.unusedSimpArgs false
open Go.RowKit
set_option maxRecDepth 100000
/-- A scan by a turn that may be no turn. -/
def scanI (l : List B8) (t : Int) (k : Nat) : List (List B8) × Nat := if t < 0 then ([], 0) else scanN l t.toNat k
theorem scanI_none {l : List B8} (h : readS l = none) (t : Int) (k : Nat) : scanI l t k = ([], 0) := by
  unfold scanI; split
  · rfl
  · exact scanN_none h _ _
theorem scanI_other {l : List B8} {r : Rc} (h : readS l = some r) {t : Int} {k : Nat} (hn : (r.t : Int) ≠ t ∨ r.n ≠ k) : scanI l t k = ([], 0) := by
  unfold scanI; split
  · rfl
  · refine scanN_other h ?_
    rcases hn with hn | hn
    · exact .inl (by omega)
    · exact .inr hn
theorem scanI_some {l : List B8} {r : Rc} (h : readS l = some r) : scanI l (r.t : Int) r.n = (r.b :: (scanI (l.drop (64 * r.size)) (r.t : Int) (r.n + 1)).1, r.size + (scanI (l.drop (64 * r.size)) (r.t : Int) (r.n + 1)).2) := by
  unfold scanI
  rw [if_neg (by omega), if_neg (by omega), Int.toNat_natCast]
  exact scanN_some h
/-- A list of texts, none of whose cells lies in N. -/
def LstQ (w : World) (N : Nat → Prop) (A : Option Addr) (ls : List (List B8)) : Prop := ∀ (i : Nat) (xs : List B8), ls[i]? = some xs → ∃ ad Ai ci, A = some ad ∧ ¬ N ad.block ∧ w.cell? (ad.add i) = some (.slice Ai xs.length ci) ∧ xs.length ≤ ci ∧ (Ai = none → ci = 0) ∧ SlN w N Ai (xs.map bv)
theorem LstQ.turn {S N N' : Nat → Prop} {w w' : World} {A : Option Addr} {ls : List (List B8)} (h : LstQ w N A ls) (t : Turn S w w') (hS : ∀ i, S i → N i) (hN : ∀ i, i < w.heap.size → N' i → N i) : LstQ w' N' A ls := fun i xs hi => by
  obtain ⟨ad, Ai, ci, e, hb, hc, h1, h2, h3⟩ := h i xs hi
  have hlt := World.block_lt_of_cell? w _ hc
  rw [add_block] at hlt
  exact ⟨ad, Ai, ci, e, fun hn => hb (hN _ hlt hn), t.cell hc (by rw [add_block]; exact fun hs => hb (hS _ hs)), h1, h2, h3.turn t hS hN⟩
theorem LstQ.lstN {w : World} {N : Nat → Prop} {A : Option Addr} {ls : List (List B8)} (h : LstQ w N A ls) : LstN w A ls := fun i xs hi => by
  obtain ⟨ad, Ai, ci, e, hb, hc, h1, h2, h3⟩ := h i xs hi
  exact ⟨ad, Ai, ci, e, hc, h1, h2, Bts.of_sl h3.sl⟩
/-- Slices that hold texts. -/
def TxtV (w : World) (N : Nat → Prop) (xs : List (List B8)) (vs : List Value) : Prop := vs.length = xs.length ∧ ∀ (i : Nat) (x : List B8), xs[i]? = some x → ∃ Ai ci, vs[i]? = some (.slice Ai x.length ci) ∧ x.length ≤ ci ∧ (Ai = none → ci = 0) ∧ SlN w N Ai (x.map bv)
theorem TxtV.turn {S N N' : Nat → Prop} {w w' : World} {xs : List (List B8)} {vs : List Value} (h : TxtV w N xs vs) (t : Turn S w w') (hS : ∀ i, S i → N i) (hN : ∀ i, i < w.heap.size → N' i → N i) : TxtV w' N' xs vs := ⟨h.1, fun i x hi => by
  obtain ⟨Ai, ci, h1, h2, h3, h4⟩ := h.2 i x hi
  exact ⟨Ai, ci, h1, h2, h3, h4.turn t hS hN⟩⟩
theorem TxtV.add {w : World} {N : Nat → Prop} {xs : List (List B8)} {vs : List Value} (h : TxtV w N xs vs) {x : List B8} {A : Option Addr} {c : Nat} (h1 : x.length ≤ c) (h2 : A = none → c = 0) (h3 : SlN w N A (x.map bv)) : TxtV w N (xs ++ [x]) (vs ++ [.slice A x.length c]) := ⟨by rw [List.length_append, List.length_append, h.1]; rfl, fun i y hi => by
  rw [List.getElem?_append] at hi
  split at hi
  · rename_i hlt
    obtain ⟨Ai, ci, g1, g2⟩ := h.2 i y hi
    exact ⟨Ai, ci, by rw [List.getElem?_append_left (by rw [h.1]; exact hlt)]; exact g1, g2⟩
  · rename_i hlt
    have h0 : i - xs.length = 0 := by
      have := (List.getElem?_eq_some_iff.1 hi).1
      simp at this; omega
    rw [h0] at hi
    simp at hi
    subst hi
    exact ⟨A, c, by rw [List.getElem?_append_right (by rw [h.1]; omega), h.1, h0]; rfl, h1, h2, h3⟩⟩
theorem TxtV.lst {w : World} {N : Nat → Prop} {xs : List (List B8)} {vs : List Value} (h : TxtV w N xs vs) {A : Option Addr} (hs : SlN w N A vs) : LstQ w N A xs := fun i x hi => by
  obtain ⟨Ai, ci, g1, g2, g3, g4⟩ := h.2 i x hi
  obtain ⟨ad, e, hb, hc⟩ := hs i _ g1
  exact ⟨ad, Ai, ci, e, hb, hc, g2, g3, g4⟩
theorem own_sln {w : World} {B n : Nat} {e : TypeId} {A : Option Addr} {c : Nat} {vs : List Value} {N : Nat → Prop} (h : w.ownsRow B e 1 (.slice A n c) n vs) (hN : ∀ i, N i → i < B) : SlN w N A vs := fun j u hu => by
  obtain ⟨A', c', e, hs, -⟩ := own_sl h
  injection e with e1 e2 e3
  subst e1
  obtain ⟨ad, rfl, hb, hc⟩ := hs j u hu
  exact ⟨ad, rfl, fun hn => by have := (h.lt _ rfl).1; have := hN _ hn; omega, hc⟩
def Srow (w : World) (B : Nat) (v : Value) (n : Nat) (vs : List Value) : Prop := w.ownsRow B 22 1 v n vs
theorem one_slice (A : Option Addr) (n c : Nat) : ∀ u ∈ [Value.slice A n c], u.oneCell' = true := by intro u hu; simp at hu; subst hu; rfl
set_option maxHeartbeats 8000000 in
theorem rscan13_any (N : Nat → Prop) (A : Option Addr) (c : Nat) (l : List B8) (t : Int) (w : World) (hN : ∀ i, N i → i < w.heap.size) (hs : SlN w N A (l.map bv)) (hA : A = none → c = 0) (hc : l.length ≤ c) (hlen : l.length ≤ 1000000) :
    Calls Tryd.prog 18 #[.slice A l.length c, .int .i64 t] w fun r w' => ∃ A' c', r = .returned (.tuple #[.slice A' (scanI l t 0).1.length c', .int .i64 ((scanI l t 0).2 : Int)]) ∧ LstQ w' N A' (scanI l t 0).1 ∧ (A' = none → c' = 0) ∧ (scanI l t 0).1.length ≤ c' ∧ Turn (fun _ => False) w w' := by
  obtain ⟨i0, hi, hz0, hz1, hz2⟩ := info_parts info_sl
  have hrz := zero_rc
  have KR := Lib.hid (show (Tryd.prog.info? 42).map (·.size) = some ZRc.size ∧ ZRc.all (·.oneCell') = true from ⟨rc_info, by simp [Value.oneCell']⟩)
  obtain ⟨N', hN'⟩ : ∃ N' : Nat → Prop, N' = fun i => N i ∨ w.heap.size ≤ i := ⟨_, rfl⟩
  have hs' : SlN w N' A (l.map bv) := fun j u hu => by
    obtain ⟨ad, e, hb, hc⟩ := hs j u hu
    have hlt := World.block_lt_of_cell? w _ hc
    rw [add_block] at hlt
    exact ⟨ad, e, by rw [hN']; intro h; exact h.elim hb (fun h => by omega), hc⟩
  have SL := Lib.hid hs'
  have HN := Lib.hid hN'
  have HNN := Lib.hid hN
  have AC := Lib.hid (And.intro hA hc)
  obtain ⟨n, hn⟩ : ∃ n, n = l.length := ⟨_, rfl⟩
  rw [← hn] at hlen ⊢
  have HNL := Lib.hid hn
  obtain ⟨E, hE⟩ : ∃ E, E = scanI l t 0 := ⟨_, rfl⟩
  rw [← hE]
  have HE := Lib.hid hE
  clear hs hs' hA hc hN hN' hn hE
  go_enter Tryd.func18, Tryd.ntmps18
  go_wp2
  go_loopw [6, 7] (fun v uu wr => ∃ (xs : List (List B8)) (vs : List Value) (u : Nat), uu = .int .i64 (u : Int) ∧ 64 * u ≤ n ∧ xs.length ≤ u ∧ Srow wr w.heap.size v xs.length vs ∧ TxtV wr N' xs vs ∧ E = (xs ++ (scanI (l.drop (64 * u)) t xs.length).1, u + (scanI (l.drop (64 * u)) t xs.length).2) ∧ Turn (fun _ => False) w wr) (fun _ uu _ => n - (64 * (intOf uu)).toNat)
  case atStart => exact ⟨[], [], 0, rfl, by omega, by simp, World.ownsRow_nil _ _ _ _, ⟨rfl, fun i x h => by simp at h⟩, by rw [HE.out]; simp, Turn.refl _ _⟩
  case round =>
    obtain ⟨xs, vs, u, rfl, hun, hxu, ho, hv, he, ht⟩ := hrel
    --BODY
    obtain ⟨Av, cv, rfl, -, -, hcv, hav⟩ := own_sl (show wr.ownsRow _ _ _ _ _ _ from ho)
    have HO := Lib.hid (show wr.ownsRow w.heap.size 22 1 (.slice Av xs.length cv) xs.length vs from ho)
    have HV := Lib.hid hv
    have HEE := Lib.hid he
    have HT := Lib.hid ht
    have AV := Lib.hid (And.intro hcv hav)
    have hsz := ht.size
    obtain ⟨A2, hA2⟩ : ∃ x, x = cutA A c (64 * u) := ⟨_, rfl⟩
    obtain ⟨c2, hc2⟩ : ∃ x, x = c - 64 * u := ⟨_, rfl⟩
    obtain ⟨l2, hl2⟩ : ∃ x, x = l.drop (64 * u) := ⟨_, rfl⟩
    have hn2 : l2.length = n - 64 * u := by rw [hl2, List.length_drop, ← HNL.out]
    have hcn : n ≤ c := by have := AC.out.2; have := HNL.out; omega
    have SLI : ∀ w, (Instr.slice 22 (.slice A n c) (some (.int .i64 (64 * (u : Int)))) none none).run Tryd.prog w = .ok (.slice A2 (n - 64 * u) c2) w := fun w => by
      rw [run_slice_l (P := Tryd.prog) w 22 A n c (by kernel_rfl) .i64 (64 * (u : Int)) (by omega) (by omega)]
      rw [show Tryd.prog.elem 22 = 5 by kernel_rfl, size_u8]
      simp only [Result.andThen, sliced, hA2, hc2, cutA, Nat.mul_one]
      rw [show ((64 : Int) * (u : Int)).toNat = 64 * u by omega]
    have SL2 := Lib.hid (show SlN wr N' A2 (l2.map bv) from by
      rw [hl2, hA2]; exact sln_cut (SL.out.turn ht (fun _ h => h.elim) (fun _ _ h => h)) c (64 * u) (by have := HNL.out; omega))
    have RD := Lib.hid (rread13_any N' A2 c2 l2 wr (fun i hi => by rw [HN.out]; exact .inr (by omega)) SL2.out (by rw [hA2, hc2]; exact cut_none AC.out.1) (by rw [hn2, hc2]; omega) (by rw [hn2]; omega))
    rw [hn2] at RD
    rw [← hl2] at HEE
    have HL2 := Lib.hid hl2
    have hu64 : IntKind.i64.wrap (64 * (u : Int)) = 64 * (u : Int) := IntWalk.i64_in _ (by omega)
    clear ho hv he ht hcv hav hA2 hc2 hl2
    obtain ⟨W3, eW3⟩ : ∃ W3, W3 = wr := ⟨_, rfl⟩
    subst eW3
    go_wp2_with (go_at_call 17; refine stop ?_)
    unfold Stop
    refine RD.out.mono ?_
    rintro r wa hp
    unfold RdPost at hp
    clear RD
    cases hr : readS l2 with
    | none =>
      rw [hr] at hp
      obtain ⟨rfl, ta⟩ := hp
      have HE0 := Lib.hid (show E = (xs, u) by rw [HEE.out, scanI_none hr, List.append_nil]; rfl)
      clear hr HEE
      have HA := Lib.hid (show (wa.alloc (.cells ZRc 42)).heap[wa.heap.size]? = some (.cells ZRc 42 (0, 0)) from heap_alloc_new _ _)
      go_upto_region 4 with (refine wpList_store_row rfl _ _ _ rfl wa.heap.size ZRc rfl rfl 42 ZRc HA.out KR.out.1 rfl KR.out.2 ?_)
      obtain ⟨wb, hw⟩ : ∃ w', w' = (wa.alloc (.cells ZRc 42)).setRow wa.heap.size ZRc := ⟨_, rfl⟩
      have tt : Turn (fun _ => False) W3 wb := by rw [hw]; exact ta.trans (((Turn.refl (fun _ => False) wa).alloc _).setRow _ _ (fun h => by omega)) (fun _ _ h => h)
      obtain ⟨Q, hQ⟩ : ∃ Q, Q = wa.heap.size := ⟨_, rfl⟩
      have HQ := Lib.hid (show wb.heap[Q]? = some (.cells ZRc 42 (0, 0)) from by rw [hw, hQ]; exact setRow_heap _ _ _ _ _ _ HA.out)
      change Code.wp _ _ _ _ ((wa.alloc (.cells ZRc 42)).setRow wa.heap.size ZRc)
      rw [← hw, ← hQ]
      have QB : W3.heap.size ≤ Q := by rw [hQ]; exact ta.size
      have TT := Lib.hid tt
      clear hw hQ HA ta tt
      go_wp2
      refine bodyPost_ret (results_tmp2 rfl _ _ _) rfl ?_
      refine ⟨Av, cv, by rw [HE0.out]; rfl, ?_, AV.out.2, by rw [HE0.out]; exact AV.out.1, HT.out.trans TT.out (fun _ _ h => h)⟩
      rw [HE0.out]
      exact ((HV.out.turn TT.out (fun _ h => h.elim) (fun i _ h => by rw [HN.out]; exact .inl h)).lst (own_sln (own_turn TT.out HO.out (fun _ _ h => h)) HNN.out))
    | some x =>
      rw [hr] at hp
      obtain ⟨⟨Ab, cb, rfl, sb, hab, hcb⟩, ta⟩ := hp
      obtain ⟨rs1, rs2, rs3⟩ := readS_size hr
      have HR := Lib.hid hr
      obtain ⟨xt, hxt⟩ : ∃ y, y = x.t := ⟨_, rfl⟩
      obtain ⟨xn, hxn⟩ : ∃ y, y = x.n := ⟨_, rfl⟩
      obtain ⟨xz, hxz⟩ : ∃ y, y = x.size := ⟨_, rfl⟩
      obtain ⟨xb, hxb⟩ : ∃ y, y = x.b := ⟨_, rfl⟩
      rw [← hxb] at sb hcb
      rw [← hxz] at rs1 rs2 rs3
      rw [← hxt, ← hxn, ← hxz, ← hxb]
      obtain ⟨lb, hlb⟩ : ∃ y, y = xb.length := ⟨_, rfl⟩
      rw [← hlb] at hcb ⊢
      have HXT := Lib.hid hxt
      have HXN := Lib.hid hxn
      have HXZ := Lib.hid hxz
      have HXB := Lib.hid hxb
      have HLB := Lib.hid hlb
      have AB := Lib.hid (And.intro hab hcb)
      obtain ⟨CR, hCR⟩ : ∃ CR : Array Value, CR = #[.int .i64 (xt : Int), .int .i64 (xn : Int), .int .i64 (xz : Int), .slice Ab lb cb] := ⟨_, rfl⟩
      have KC := Lib.hid (show (Tryd.prog.info? 42).map (·.size) = some CR.size ∧ ZRc.size = CR.size ∧ CR.all (·.oneCell') = true by rw [hCR]; exact ⟨rc_info, rfl, by simp [Value.oneCell']⟩)
      rw [← hCR]
      have HCR := Lib.hid hCR
      clear hr hxt hxn hxz hxb hlb hCR hab hcb
      have HA := Lib.hid (show (wa.alloc (.cells ZRc 42)).heap[wa.heap.size]? = some (.cells ZRc 42 (0, 0)) from heap_alloc_new _ _)
      go_upto_region 4 with (refine wpList_store_row rfl _ _ _ rfl wa.heap.size CR rfl rfl 42 ZRc HA.out KC.out.1 KC.out.2.1 KC.out.2.2 ?_)
      obtain ⟨wb, hw⟩ : ∃ w', w' = (wa.alloc (.cells ZRc 42)).setRow wa.heap.size CR := ⟨_, rfl⟩
      have tt : Turn (fun _ => False) W3 wb := by rw [hw]; exact ta.trans (((Turn.refl (fun _ => False) wa).alloc _).setRow _ _ (fun h => by omega)) (fun _ _ h => h)
      obtain ⟨Q, hQ⟩ : ∃ Q, Q = wa.heap.size := ⟨_, rfl⟩
      have HQ := Lib.hid (show wb.heap[Q]? = some (.cells CR 42 (0, 0)) from by rw [hw, hQ]; exact setRow_heap _ _ _ _ _ _ HA.out)
      change Code.wp _ _ _ _ ((wa.alloc (.cells ZRc 42)).setRow wa.heap.size CR)
      rw [← hw, ← hQ]
      have QB : W3.heap.size ≤ Q := by rw [hQ]; exact ta.size
      have TT := Lib.hid tt
      have tz : Turn (fun _ => False) wa wb := by rw [hw]; exact ((Turn.refl (fun _ => False) wa).alloc _).setRow _ _ (fun h => by omega)
      have SB := Lib.hid (show SlN wb N' Ab (xb.map bv) from sb.turn tz (fun _ h => h.elim) (fun _ _ h => h))
      clear hw hQ HA ta tt sb
      have k0 : wb.cell? ⟨Q, 0, none⟩ = some (.int .i64 (xt : Int)) := by rw [cell_of_row _ _ _ _ _ _ HQ.out, HCR.out]; rfl
      have k1 : wb.cell? ⟨Q, 1, none⟩ = some (.int .i64 (xn : Int)) := by rw [cell_of_row _ _ _ _ _ _ HQ.out, HCR.out]; rfl
      have k2 : wb.cell? ⟨Q, 2, none⟩ = some (.int .i64 (xz : Int)) := by rw [cell_of_row _ _ _ _ _ _ HQ.out, HCR.out]; rfl
      have k3 : wb.cell? ⟨Q, 3, none⟩ = some (.slice Ab lb cb) := by rw [cell_of_row _ _ _ _ _ _ HQ.out, HCR.out]; rfl
      by_cases hxt : (xt : Int) = t
      rotate_left 1
      · have HE0 := Lib.hid (show E = (xs, u) by rw [HEE.out, scanI_other HR.out (.inl (by rw [← HXT.out]; exact hxt)), List.append_nil]; rfl)
        have dt : ((xt : Int) != t) = true := by rw [bne_iff_ne]; exact hxt
        clear hxt HEE
        go_wp2
        refine bodyPost_ret (results_tmp2 rfl _ _ _) rfl ?_
        refine ⟨Av, cv, by rw [HE0.out]; rfl, ?_, AV.out.2, by rw [HE0.out]; exact AV.out.1, HT.out.trans TT.out (fun _ _ h => h)⟩
        rw [HE0.out]
        exact ((HV.out.turn TT.out (fun _ h => h.elim) (fun i _ h => by rw [HN.out]; exact .inl h)).lst (own_sln (own_turn TT.out HO.out (fun _ _ h => h)) HNN.out))
      have dt : ((xt : Int) != t) = false := by rw [bne_eq_false_iff_eq]; exact hxt
      by_cases hxn : xn = xs.length
      rotate_left 1
      · have HE0 := Lib.hid (show E = (xs, u) by rw [HEE.out, scanI_other HR.out (.inr (by rw [← HXN.out]; exact hxn)), List.append_nil]; rfl)
        have dn : ((xn : Int) != (xs.length : Int)) = true := by rw [bne_iff_ne]; omega
        clear hxt hxn HEE
        go_wp2
        refine bodyPost_ret (results_tmp2 rfl _ _ _) rfl ?_
        refine ⟨Av, cv, by rw [HE0.out]; rfl, ?_, AV.out.2, by rw [HE0.out]; exact AV.out.1, HT.out.trans TT.out (fun _ _ h => h)⟩
        rw [HE0.out]
        exact ((HV.out.turn TT.out (fun _ h => h.elim) (fun i _ h => by rw [HN.out]; exact .inl h)).lst (own_sln (own_turn TT.out HO.out (fun _ _ h => h)) HNN.out))
      have dn : ((xn : Int) != (xs.length : Int)) = false := by rw [bne_eq_false_iff_eq]; omega
      have HNX := Lib.hid (show E = (xs ++ [xb] ++ (scanI (l.drop (64 * (u + xz))) t (xs ++ [xb]).length).1, u + xz + (scanI (l.drop (64 * (u + xz))) t (xs ++ [xb]).length).2) from by
        have h := scanI_some HR.out
        rw [← HXT.out, ← HXN.out, ← HXZ.out, ← HXB.out, hxt, hxn, HL2.out, List.drop_drop] at h
        rw [HEE.out, HL2.out, h]
        rw [List.length_append, List.length_singleton, show 64 * u + 64 * xz = 64 * (u + xz) by omega]
        simp [Nat.add_assoc])
      have HXS := Lib.hid hxn
      have hsb := TT.out.size
      have hO := own_turn TT.out HO.out (fun _ _ h => h)
      have O4 := Lib.hid hO
      have hx15 : xs.length ≤ 1000000 := by omega
      have hux : IntKind.i64.wrap ((u : Int) + (xz : Int)) = ((u + xz : Nat) : Int) := by rw [IntWalk.i64_in _ (by omega)]; omega
      have hwsz : w.heap.size ≤ W3.heap.size := hsz
      clear hxt hxn HEE hO
      go_upto_region 6 with fail
      go_step
      iterate 12 go_step
      refine wpList_append_any_at (o := ⟨some 39, _, _, _, _, _⟩) rfl _ _ 36 rfl w.heap.size 22 i0 (.slice none 0 0) 24 Tryd.underlying36 hi hz0 hz1 hz2 rfl _ xs.length vs rfl (O4.out.alloc _) (some ⟨wb.heap.size, 0, none⟩) 1 1 [.slice Ab lb cb] rfl (fun h => by cases h) rfl ?_ (one_slice Ab lb cb) ?_ ?_ ?_ ?_
      · intro j u hu
        exact ⟨_, rfl, World.news_of_block (heap_alloc_new wb (.cells #[.slice Ab lb cb] 22)) j u hu⟩
      · unfold maxLen; omega
      · omega
      · simp; omega
      intro v9 w9 own9 gr9 at9
      have t9 : Turn (fun i => some i = (Value.slice Av xs.length cv).ownBlock) wb w9 := (((Turn.refl _ wb).alloc (.cells #[.slice Ab lb cb] 22)).grown gr9 (fun i hi e => e))
      have hQn : ¬ (some Q = (Value.slice Av xs.length cv).ownBlock) := fun e => by have := (HO.out.lt Q e.symm).2; omega
      have hk2 := t9.cell k2 hQn
      have hv9 : TxtV w9 N' (xs ++ [xb]) (vs ++ [.slice Ab lb cb]) := by
        have h := (HV.out.turn TT.out (fun _ h => h.elim) (fun _ _ h => h)).add (x := xb) (by rw [← HLB.out]; exact AB.out.2) AB.out.1 SB.out
        rw [← HLB.out] at h
        exact h.turn t9 (fun i e => by rw [HN.out]; exact .inr (O4.out.lt i e.symm).1) (fun _ _ h => h)
      have HV9 := Lib.hid hv9
      have T9 := Lib.hid ((HT.out.trans TT.out (fun _ _ h => h)).trans t9 (fun i hi e => by have := (O4.out.lt i e.symm).1; omega))
      have HO9 := Lib.hid (show Srow w9 w.heap.size v9 (xs ++ [xb]).length (vs ++ [.slice Ab lb cb]) from by rw [List.length_append]; exact own9)
      have hxl : (xs ++ [xb]).length = xs.length + 1 := by rw [List.length_append]; rfl
      have hmz : 64 * (u + xz) ≤ n := by omega
      clear own9 gr9 at9 t9 hQn k0 k1 k2 k3 hv9 dt dn HO HV O4 SB TT HT hsb
      go_wp2
      go_roundw
      case rel => exact ⟨xs ++ [xb], vs ++ [.slice Ab lb cb], u + xz, by go_num, hmz, by omega, HO9.out, HV9.out, HNX.out, T9.out⟩
      case measure => simp [intOf]; omega
end
section
set_option linter.unusedVariables false
set_option linter.unusedSimpArgs false
open Go.RowKit
set_option maxRecDepth 100000
/-- The landed drum at g, over its own blocks. -/
def LD (w : World) (g n : Nat) (d : Dr) (D : Nat → Prop) : Prop := (Glob w ∧ ∀ k, D k → 2 ≤ k) ∧ ∃ Sv Wv, LMem w g Sv Wv d n D
theorem glob_turns {S : Nat → Prop} {w w' : World} (h : Glob w) (t : Turn S w w') (hS : ∀ k, S k → 2 ≤ k) : Glob w' := h.below (t.below (B := 2) (fun i _ hi => hS i hi) h.1) (Nat.le_refl _)
theorem glob_turn {w w' : World} (h : Glob w) (t : Turn (fun _ => False) w w') : Glob w' := glob_turns h t (fun _ h => h.elim)
theorem dn_two {D : Nat → Prop} {w w' : World} (hD : ∀ k, D k → 2 ≤ k) (h : 2 ≤ w.heap.size) : ∀ k, Dn D w w' k → 2 ≤ k := fun k hk => hk.elim (hD k) (fun h' => by have := h'.1; omega)
section
variable {w w2 : World} {g n : Nat} {d : Dr} {D : Nat → Prop}
theorem LD.glob (h : LD w g n d D) : Glob w := h.1.1
theorem LD.two (h : LD w g n d D) : ∀ k, D k → 2 ≤ k := h.1.2
theorem LD.keep {S : Nat → Prop} {w' : World} (h : LD w g n d D) (t : Turn S w w') (hS : ∀ k, D k → ¬ S k) (h2 : ∀ k, S k → 2 ≤ k) : LD w' g n d D := by
  obtain ⟨hg, Sv, Wv, h⟩ := h
  exact ⟨⟨glob_turns hg.1 t h2, hg.2⟩, Sv, Wv, h.keep t hS⟩
theorem LD.quiet {w' : World} (h : LD w g n d D) (t : Turn (fun _ => False) w w') : LD w' g n d D := h.keep t (fun _ _ h => h) (fun _ h => h.elim)
theorem LD.ok (h : LD w g n d D) : d.Ok n := by obtain ⟨-, _, _, h⟩ := h; exact h.ok
theorem LD.lt (h : LD w g n d D) : ∀ k, D k → k < w.heap.size := by obtain ⟨-, _, _, h⟩ := h; exact h.lt
theorem LD.own (h : LD w g n d D) : D g := by obtain ⟨-, _, _, h⟩ := h; exact h.ownG
theorem LD.few (h : LD w g n d D) : d.W.length ≤ 10000 := by obtain ⟨-, _, _, h⟩ := h; exact h.few
theorem LD.more {w' : World} (h : LD w' g n d D) (hs : 2 ≤ w.heap.size) : LD w' g n d (Dn D w w') := by obtain ⟨hg, Sv, Wv, h⟩ := h; exact ⟨⟨hg.1, dn_two hg.2 hs⟩, Sv, Wv, h.more⟩
theorem LD.new (n : Nat) (h1 : 1 ≤ n) (h2 : n ≤ 8192) (w : World) (hG : Glob w) : Calls Tryd.prog 13 #[.int .i64 (n : Int)] w fun r w' => ∃ g, r = .returned (.pointer (some ⟨g, 0, none⟩)) ∧ LD w' g n (Dr.new n) (Since w w') ∧ Turn (fun _ => False) w w' := by
  refine (new_any n h1 h2 w).mono ?_
  rintro r w' ⟨g, rfl, ⟨Sv, h⟩, hb⟩
  exact ⟨g, rfl, ⟨⟨glob_turn hG (Turn.of_below hb), fun k hk => by have := hG.1; have := hk.1; omega⟩, Sv, _, h⟩, Turn.of_below hb⟩
theorem LD.on (h : LD w g n d D) : Calls Tryd.prog 46 #[.pointer (some ⟨g, 0, none⟩)] w fun r w' => r = .returned (.bool (!d.off)) ∧ w' = w := by
  obtain ⟨hg, Sv, Wv, h⟩ := h
  exact lon_any g n Sv Wv d _ w h
theorem LD.len (h : LD w g n d D) : Calls Tryd.prog 61 #[.pointer (some ⟨g, 0, none⟩)] w fun r w' => r = .returned (.int .i64 (n : Int)) ∧ w' = w := by
  obtain ⟨hg, Sv, Wv, h⟩ := h
  exact llen_any g n Sv Wv d _ w h
theorem LD.read (h : LD w g n d D) (a : Int) : Calls Tryd.prog 53 #[.pointer (some ⟨g, 0, none⟩), .int .i64 a] w fun r w' => ∃ v, r = .returned (.tuple #[v, .int .i64 (d.readE a : Int)]) ∧ RdV w w' d a v ∧ Turn (fun _ => False) w w' := by
  obtain ⟨hg, Sv, Wv, h⟩ := h
  exact lread_any g n Sv Wv d _ a w h
theorem LD.write (h : LD w g n d D) (a : Int) (A : Option Addr) (c : Nat) (bb : List B8) (hM : SlN w D A (bb.map bv)) (hMl : bb.length ≤ maxLen) (hroom : d.W.length < 10000) :
    Calls Tryd.prog 14 #[.pointer (some ⟨g, 0, none⟩), .int .i64 a, .slice A bb.length c] w fun r w' => r = .returned (.int .i64 (d.writeE a bb : Int)) ∧ LD w' g n (d.write a bb) (Dn D w w') ∧ Turn D w w' := by
  obtain ⟨hg, Sv, Wv, h⟩ := h
  refine (lwrite_any g n Sv Wv d _ a A c bb w h hM hMl hroom).mono ?_
  rintro r w' ⟨hr, ⟨Wv', h1⟩, h2⟩
  exact ⟨hr, ⟨⟨glob_turns hg.1 h2 hg.2, dn_two hg.2 hg.1.1⟩, Sv, Wv', h1⟩, h2⟩
theorem LD.start (h : LD w g n d D) (A : Option Addr) (c : Nat) (M : List B8) (hM : SlN w D A (M.map bv)) (hMl : M.length ≤ maxLen) :
    Calls Tryd.prog 25 #[.pointer (some ⟨g, 0, none⟩), .slice A M.length c] w fun r w' => (∃ v, r = .returned v) ∧ LD w' g n (d.start M) D ∧ Turn D w w' := by
  obtain ⟨hg, Sv, Wv, h⟩ := h
  refine (lstart_any g n Sv Wv d _ A c M w h hM hMl).mono ?_
  rintro r w' ⟨hr, h1, h2⟩
  exact ⟨hr, ⟨⟨glob_turns hg.1 h2 hg.2, hg.2⟩, _, _, h1⟩, h2⟩
theorem LD.sync (h : LD w g n d D) : Calls Tryd.prog 51 #[.pointer (some ⟨g, 0, none⟩)] w fun r w' => r = .returned (.int .i64 (d.syncE : Int)) ∧ LD w' g n d.sync D ∧ Turn D w w' := by
  obtain ⟨hg, Sv, Wv, h⟩ := h
  refine (lsync_any g n Sv Wv d _ w h).mono ?_
  rintro r w' ⟨hr, ⟨Wv', h1⟩, h2⟩
  exact ⟨hr, ⟨⟨glob_turns hg.1 h2 hg.2, hg.2⟩, _, _, h1⟩, h2⟩
theorem LD.fuse (h : LD w g n d D) (a : Int) (ha : a < 9223372036854775808) : Calls Tryd.prog 28 #[.pointer (some ⟨g, 0, none⟩), .int .i64 a] w fun r w' => (∃ v, r = .returned v) ∧ LD w' g n (d.lay a) D ∧ Turn D w w' := by
  obtain ⟨hg, Sv, Wv, h⟩ := h
  refine (lfuse_any g n Sv Wv d _ a ha w h).mono ?_
  rintro r w' ⟨hr, h1, h2⟩
  exact ⟨hr, ⟨⟨glob_turns hg.1 h2 hg.2, hg.2⟩, _, _, h1⟩, h2⟩
theorem LD.fail (h : LD w g n d D) : Calls Tryd.prog 19 #[.pointer (some ⟨g, 0, none⟩)] w fun r w' => (∃ v, r = .returned v) ∧ LD w' g n d.fail D ∧ Turn D w w' := by
  obtain ⟨hg, Sv, Wv, h⟩ := h
  refine (lfail_any g n Sv Wv d _ w h).mono ?_
  rintro r w' ⟨hr, h1, h2⟩
  exact ⟨hr, ⟨⟨glob_turns hg.1 h2 hg.2, hg.2⟩, _, _, h1⟩, h2⟩
end
theorem readE_on {d : Dr} {n : Nat} (h : OnD d n) {k : Nat} (hk : k < n) : d.readE (k : Int) = 0 := by
  unfold Dr.readE
  rw [h.ok.len, h.off, if_neg (by simp), if_pos (by omega)]
/-- A sector read. -/
theorem LD.sector {w : World} {g n : Nat} {d : Dr} {D : Nat → Prop} (h : LD w g n d D) (on : OnD d n) {k : Nat} (hk : k < n) : Calls Tryd.prog 53 #[.pointer (some ⟨g, 0, none⟩), .int .i64 (k : Int)] w fun r w' => ∃ A c, r = .returned (.tuple #[.slice A 64 c, .int .i64 0]) ∧ SlN w' (fun k => k < w.heap.size) A ((d.now k).map bv) ∧ (A = none → c = 0) ∧ Turn (fun _ => False) w w' := by
  have he := readE_on on hk
  refine (h.read (k : Int)).mono ?_
  rintro r w' ⟨v, rfl, hv, t⟩
  have hr : d.readV (k : Int) = d.now k := by unfold Dr.readV; rw [if_pos he]; rfl
  have hl := Dr.now_len h.ok k hk
  obtain ⟨A, c, rfl, h1, -⟩ := hv.sl h.ok
  rw [hr, hl, he]
  rw [hr] at h1
  refine ⟨A, c, rfl, h1, ?_, t⟩
  rintro rfl
  obtain ⟨x, hx⟩ : ∃ x, ((d.now k).map bv)[0]? = some x := ⟨_, List.getElem?_eq_getElem (by rw [List.length_map, hl]; omega)⟩
  obtain ⟨ad, e, -⟩ := h1 0 x hx
  cases e
set_option maxHeartbeats 4000000 in
/-- What a stretch has. -/
theorem lbytes_any (g n p m : Nat) (d : Dr) (D : Nat → Prop) (w : World) (h : LD w g n d D) (on : OnD d n) (hp : p + m ≤ n) (hn : n ≤ 8192) :
    Calls Tryd.prog 26 #[.pointer (some ⟨g, 0, none⟩), .int .i64 (p : Int), .int .i64 (m : Int)] w fun r w' => ∃ A c, r = .returned (.slice A (64 * m) c) ∧ w'.ownsRow w.heap.size 5 1 (.slice A (64 * m) c) (64 * m) ((cutD d p m).map bv) ∧ Turn (fun _ => False) w w' := by
  have HL := Lib.hid h
  have HOK := Lib.hid h.ok
  have HON := Lib.hid on
  clear h on
  go_enter Tryd.func26, Tryd.ntmps26
  go_wp2
  go_loopw [7, 8] (fun v iv wr => ∃ i : Nat, i ≤ m ∧ iv = .int .i64 (i : Int) ∧ wr.ownsRow w.heap.size 5 1 v (64 * i) ((cutD d p i).map bv) ∧ Turn (fun _ => False) w wr) (fun _ iv _ => m - (intOf iv).toNat)
  case atStart => exact ⟨0, by omega, rfl, World.ownsRow_nil _ _ _ _, Turn.refl _ _⟩
  case round =>
    obtain ⟨i, him, rfl, ho, ht⟩ := hrel
    obtain ⟨Av, cv, rfl, -, -, hcv, hav⟩ := own_sl ho
    by_cases hi : i < m
    · have hpi : p + i < n := by omega
      have RD := Lib.hid ((HL.out.quiet ht).sector HON.out hpi)
      have hcs : cutD d p (i + 1) = cutD d p i ++ d.now (p + i) := cutD_succ d p i
      have hcl := cutD_len HOK.out p i (by omega)
      have hnl := Dr.now_len HOK.out (p + i) hpi
      have HCS := Lib.hid hcs
      have HCL := Lib.hid hcl
      have HNL := Lib.hid hnl
      have HO := Lib.hid ho
      have HT := Lib.hid ht
      have hsz := ht.size
      have hpi' : (p : Int) + (i : Int) = ((p + i : Nat) : Int) := by omega
      have hw1 : IntKind.i64.wrap ((p : Int) + (i : Int)) = ((p + i : Nat) : Int) := by rw [IntWalk.i64_in _ (by omega)]; omega
      clear ho ht hcs hcl hnl
      obtain ⟨q, hq⟩ : ∃ q, q = p + i := ⟨_, rfl⟩
      rw [← hq] at RD HCS HNL hpi' hw1
      obtain ⟨W3, eW3⟩ : ∃ W3, W3 = wr := ⟨_, rfl⟩
      subst eW3
      clear hq
      go_wp2_with (go_at_call 53; refine stop ?_)
      unfold Stop
      refine RD.out.mono ?_
      rintro r w4 ⟨A4, c4, rfl, s4, a4, t4⟩
      have O4 := Lib.hid (own_turn t4 HO.out (fun _ _ h => h))
      have P4 := Lib.hid (Bts.of_sl s4.sl)
      have T4 := Lib.hid (HT.out.trans t4 (fun _ _ h => h))
      have S4 := t4.size
      clear s4 t4 RD HO HT
      go_wp2_with (at_builtin; refine stop ?_)
      unfold Stop
      refine wpList_app (o := ⟨some 28, _, _, _, _, _⟩) rfl _ _ rfl w.heap.size _ (cutD d p i) (d.now q) (64 * i) 64 HCL.out HNL.out rfl O4.out A4 c4 rfl a4 P4.out (by omega) (by omega) ?_
      intro A5 c5 w5 a5 k5 ho5 hg5
      have T5 := Lib.hid (T4.out.grown hg5 (fun i hi e => by have := (O4.out.lt i e.symm).1; omega))
      have O5 := Lib.hid (show w5.ownsRow w.heap.size 5 1 (.slice A5 (64 * i + 64) c5) (64 * (i + 1)) ((cutD d p (i + 1)).map bv) from by rw [HCS.out]; exact ho5)
      clear ho5 hg5 O4 P4 T4
      go_wp2
      go_roundw
      case rel => exact ⟨i + 1, by omega, by go_num, O5.out, T5.out⟩
      case measure => simp [intOf]; omega
    · obtain rfl : i = m := by omega
      have HO := Lib.hid ho
      have HT := Lib.hid ht
      clear ho ht
      go_wp2
      go_ret
      exact ⟨Av, cv, rfl, HO.out, HT.out⟩
end
section
set_option linter.unusedVariables false
set_option linter.unusedSimpArgs false
open Go.RowKit
set_option maxRecDepth 100000
/-- A scroll: its next sector, its end, its turn, its next number; gone: behind an error of the drum. -/
structure Scr where
  pos : Nat
  fin : Nat
  turn : Nat
  n : Nat
  gone : Bool
/-- Sectors written one by one, up to the first error. -/
def putR (d : Dr) (a : Nat) : List Sec → Dr × Nat
  | [] => (d, 0)
  | s :: l => if d.writeE (a : Int) s ≠ 0 then (d.write (a : Int) s, d.writeE (a : Int) s) else putR (d.write (a : Int) s) (a + 1) l
def secsOf (f : List B8) : Nat := f.length / 64
def Scr.form (s : Scr) (b : List B8) : List B8 := formV13 s.turn s.n b
def Scr.formE (s : Scr) (b : List B8) : Nat := formE13 s.turn s.n b
def Scr.all (s : Scr) (d : Dr) (b : List B8) : Dr × Nat := putR d s.pos (chunks (secsOf (s.form b)) (s.form b))
/-- The error of Put before the drum is asked. -/
def Scr.pre (s : Scr) (b : List B8) : Nat := if s.gone = true then 20 else if s.formE b ≠ 0 then s.formE b else if s.fin < s.pos + secsOf (s.form b) then 18 else 0
def Scr.putE (s : Scr) (d : Dr) (b : List B8) : Nat := if s.pre b ≠ 0 then s.pre b else (s.all d b).2
def Scr.putD (s : Scr) (d : Dr) (b : List B8) : Dr := if s.pre b ≠ 0 then d else (s.all d b).1
/-- The scroll behind a Put. -/
def Scr.PutS (s : Scr) (d : Dr) (b : List B8) (s' : Scr) : Prop := if s.pre b ≠ 0 then s' = s else if (s.all d b).2 = 0 then s' = ⟨s.pos + secsOf (s.form b), s.fin, s.turn, s.n + 1, false⟩ else s'.gone = true
def Scr.syncE (s : Scr) (d : Dr) : Nat := if s.gone = true then 20 else d.syncE
def Scr.syncD (s : Scr) (d : Dr) : Dr := if s.gone = true then d else d.sync
def Scr.SyncS (s : Scr) (d : Dr) (s' : Scr) : Prop := if s.syncE d = 0 then s' = s else s'.gone = true
/-- What Scan answers. -/
def inS (n : Nat) (a m : Int) : Prop := 0 ≤ a ∧ 0 ≤ m ∧ a ≤ n ∧ m ≤ n - a
instance (n : Nat) (a m : Int) : Decidable (inS n a m) := by unfold inS; exact inferInstance
def scanE (n : Nat) (d : Dr) (a m t : Int) : Nat := if t < 0 ∨ (mostS : Int) < t ∨ ¬ inS n a m then 1 else if d.off = true then 21 else 0
def scanV (n : Nat) (d : Dr) (a m t : Int) : List (List B8) × Nat := if scanE n d a m t ≠ 0 then ([], 0) else scanN (cutD d a.toNat m.toNat) t.toNat 0
def peekV (n : Nat) (d : Dr) (a m : Int) : Option Rc := if ¬ inS n a m ∨ d.off = true then none else match readS (cutD d a.toNat m.toNat) with
  | none => none
  | some r => if r.n = 0 then some r else none
/-- A scroll and its drum, each in its own blocks. -/
structure Ats (SB : World → Nat → Nat → Scr → (Nat → Prop) → Prop) (w : World) (g s n : Nat) (d : Dr) (sc : Scr) (D E : Nat → Prop) : Prop where
  ld : LD w g n d D
  sb : SB w s g sc E
  dj : ∀ k, E k → ¬ D k
  lt : ∀ k, E k → k < w.heap.size
/-- The landed scroll's calls; SB: a scroll at s, on the drum at g, in blocks E. -/
structure SC (SB : World → Nat → Nat → Scr → (Nat → Prop) → Prop) : Prop where
  keep : ∀ {w w' : World} {s g : Nat} {sc : Scr} {E S : Nat → Prop}, SB w s g sc E → Turn S w w' → (∀ k, E k → ¬ S k) → SB w' s g sc E
  form : ∀ (t n : Int) (A : Option Addr) (c : Nat) (b : List B8) (w : World), Glob w → Bts w A b → (A = none → c = 0) → b.length ≤ c → b.length ≤ 900000 →
    Calls Tryd.prog 10 #[.int .i64 t, .int .i64 n, .slice A b.length c] w fun r w' => ∃ A' c', r = .returned (.tuple #[.slice A' (formV13 t n b).length c', .int .i64 (formE13 t n b : Int)]) ∧ SlN w' (fun k => k < w.heap.size) A' ((formV13 t n b).map bv) ∧ (A' = none → c' = 0) ∧ (formV13 t n b).length ≤ c' ∧ Turn (fun _ => False) w w'
  scan : ∀ (w : World) (g n : Nat) (d : Dr) (D : Nat → Prop) (a m t : Int), LD w g n d D → n ≤ 8192 → a ≤ 9223372036854775807 →
    Calls Tryd.prog 15 #[.pointer (some ⟨g, 0, none⟩), .int .i64 a, .int .i64 m, .int .i64 t] w fun r w' => ∃ A c, r = .returned (.tuple #[.slice A (scanV n d a m t).1.length c, .int .i64 ((scanV n d a m t).2 : Int), .int .i64 (scanE n d a m t : Int)]) ∧ LstQ w' (fun k => k < w.heap.size) A (scanV n d a m t).1 ∧ (A = none → c = 0) ∧ (scanV n d a m t).1.length ≤ c ∧ Turn (fun _ => False) w w'
  peek : ∀ (w : World) (g n : Nat) (d : Dr) (D : Nat → Prop) (a m : Int), LD w g n d D → n ≤ 8192 → a ≤ 9223372036854775807 →
    Calls Tryd.prog 16 #[.pointer (some ⟨g, 0, none⟩), .int .i64 a, .int .i64 m] w fun r w' => (match peekV n d a m with
      | none => r = .returned (.tuple #[.int .i64 0, .slice none 0 0, .bool false])
      | some x => ∃ A c, r = .returned (.tuple #[.int .i64 (x.t : Int), .slice A x.b.length c, .bool true]) ∧ SlN w' (fun k => k < w.heap.size) A (x.b.map bv) ∧ (A = none → c = 0) ∧ x.b.length ≤ c) ∧ Turn (fun _ => False) w w'
  blank : ∀ (w : World) (g n p m t : Nat) (d : Dr) (D : Nat → Prop), LD w g n d D → OnD d n → n ≤ 8192 → p + m ≤ n → t ≤ mostS → d.W.length + m < 10000 →
    Calls Tryd.prog 21 #[.pointer (some ⟨g, 0, none⟩), .int .i64 (p : Int), .int .i64 (m : Int), .int .i64 (t : Int)] w fun r w' => ∃ s d' D' E, r = .returned (.tuple #[.pointer (some ⟨s, 0, none⟩), .int .i64 0]) ∧ Ats SB w' g s n d' ⟨p, p + m, t, 0, false⟩ D' E ∧ (∀ k, D' k → Dn D w w' k) ∧ (∀ k, E k → w.heap.size ≤ k) ∧ OnD d' n ∧ (∀ k, k < m → d'.now (p + k) = zeros 64) ∧ ((∀ k, k < m → d.now (p + k) = zeros 64) → d' = d) ∧ d'.W.length ≤ d.W.length + m ∧ Turn D w w'
  opn : ∀ (w : World) (g n p m t : Nat) (d : Dr) (D : Nat → Prop), LD w g n d D → OnD d n → n ≤ 8192 → p + m ≤ n → t ≤ mostS → d.W = [] →
    Calls Tryd.prog 27 #[.pointer (some ⟨g, 0, none⟩), .int .i64 (p : Int), .int .i64 (m : Int), .int .i64 (t : Int)] w fun r w' => ∃ s A c d' D' E, r = .returned (.tuple #[.pointer (some ⟨s, 0, none⟩), .slice A (scanN (cutD d p m) t 0).1.length c, .int .i64 0]) ∧ Ats SB w' g s n d' ⟨p + (scanN (cutD d p m) t 0).2, p + m, t, (scanN (cutD d p m) t 0).1.length, false⟩ D' E ∧ LstQ w' (fun k => k < w.heap.size ∨ D' k ∨ E k) A (scanN (cutD d p m) t 0).1 ∧ (A = none → c = 0) ∧ (scanN (cutD d p m) t 0).1.length ≤ c ∧ (∀ k, D' k → Dn D w w' k) ∧ (∀ k, E k → w.heap.size ≤ k) ∧ OnD d' n ∧ d'.W = [] ∧ (∀ k, k < (scanN (cutD d p m) t 0).2 → d'.now (p + k) = d.now (p + k)) ∧ (∀ k, (scanN (cutD d p m) t 0).2 ≤ k → k < m → d'.now (p + k) = zeros 64) ∧ Turn D w w'
  put : ∀ (w : World) (g s n : Nat) (d : Dr) (sc : Scr) (D E : Nat → Prop) (A : Option Addr) (c : Nat) (b : List B8), Ats SB w g s n d sc D E → n ≤ 8192 → (sc.gone = false → sc.turn ≤ mostS ∧ sc.pos ≤ sc.fin ∧ sc.fin ≤ n ∧ sc.n ≤ mostS) → SlN w (fun k => D k ∨ E k) A (b.map bv) → (A = none → c = 0) → b.length ≤ c → b.length ≤ 900000 → d.W.length + 1024 < 10000 →
    Calls Tryd.prog 23 #[.pointer (some ⟨s, 0, none⟩), .slice A b.length c] w fun r w' => ∃ D' sc', r = .returned (.int .i64 (sc.putE d b : Int)) ∧ Ats SB w' g s n (sc.putD d b) sc' D' E ∧ sc.PutS d b sc' ∧ (∀ k, D' k → Dn D w w' k) ∧ Turn (fun k => D k ∨ E k) w w'
  sync : ∀ (w : World) (g s n : Nat) (d : Dr) (sc : Scr) (D E : Nat → Prop), Ats SB w g s n d sc D E →
    Calls Tryd.prog 24 #[.pointer (some ⟨s, 0, none⟩)] w fun r w' => ∃ D' sc', r = .returned (.int .i64 (sc.syncE d : Int)) ∧ Ats SB w' g s n (sc.syncD d) sc' D' E ∧ sc.SyncS d sc' ∧ (∀ k, D' k → Dn D w w' k) ∧ Turn (fun k => D k ∨ E k) w w'
  left : ∀ (w : World) (g s n : Nat) (d : Dr) (sc : Scr) (D E : Nat → Prop), Ats SB w g s n d sc D E → sc.gone = false → sc.pos ≤ sc.fin → sc.fin ≤ n → n ≤ 8192 →
    Calls Tryd.prog 22 #[.pointer (some ⟨s, 0, none⟩)] w fun r w' => r = .returned (.int .i64 ((sc.fin - sc.pos : Nat) : Int)) ∧ w' = w
theorem Ats.keep {SB : World → Nat → Nat → Scr → (Nat → Prop) → Prop} (S13 : SC SB) {w w' : World} {g s n : Nat} {d : Dr} {sc : Scr} {D E S : Nat → Prop} (h : Ats SB w g s n d sc D E) (t : Turn S w w') (hD : ∀ k, D k → ¬ S k) (hE : ∀ k, E k → ¬ S k) (h2 : ∀ k, S k → 2 ≤ k) : Ats SB w' g s n d sc D E :=
  ⟨h.ld.keep t hD h2, S13.keep h.sb t hE, h.dj, fun k hk => Nat.lt_of_lt_of_le (h.lt k hk) t.size⟩
theorem Ats.quiet {SB : World → Nat → Nat → Scr → (Nat → Prop) → Prop} (S13 : SC SB) {w w' : World} {g s n : Nat} {d : Dr} {sc : Scr} {D E : Nat → Prop} (h : Ats SB w g s n d sc D E) (t : Turn (fun _ => False) w w') : Ats SB w' g s n d sc D E := h.keep S13 t (fun _ _ h => h) (fun _ _ h => h) (fun _ h => h.elim)
theorem putR_on {n : Nat} : ∀ (l : List Sec) (d : Dr) (p : Nat), OnD d n → p + l.length ≤ n → (∀ s ∈ l, s.length = 64) → putR d p l = (Go.Proofs.YthbheobjhpmoeaaDoor.putD d p l, 0)
  | [], d, p, h, hp, hs => rfl
  | s :: l, d, p, h, hp, hs => by
    rw [List.length_cons] at hp
    have hw := h.writeE p (by omega) s (hs s (List.mem_cons_self ..))
    rw [putR, if_neg (by rw [hw]; simp)]
    exact putR_on l _ _ (h.write _ _) (by omega) fun x hx => hs x (List.mem_cons_of_mem _ hx)
theorem formV_ok {t n : Nat} {b : List B8} (h : formE13 t n b = 0) : formV13 t n b = formS t n b ∧ t ≤ mostS ∧ n ≤ mostS ∧ (fldS t n b).length ≤ 65524 := by
  refine ⟨by unfold formV13; rw [if_pos h]; rfl, ?_⟩
  unfold formE13 at h
  split at h
  · cases h
  · rename_i h1
    split at h
    · cases h
    · rename_i h2
      simp only [Int.toNat_natCast] at h2
      exact ⟨by omega, by omega, by omega⟩
theorem formE_ok {t n : Nat} {b : List B8} (ht : t ≤ mostS) (hn : n ≤ mostS) (hf : (fldS t n b).length ≤ 65524) : formE13 t n b = 0 := by
  unfold formE13
  rw [if_neg (by omega), if_neg (by simp only [Int.toNat_natCast]; omega)]
/-- A Put on a drum that is on: all is well. -/
theorem put_on {d : Dr} {n : Nat} {s : Scr} {b : List B8} (on : OnD d n) (hf : s.fin ≤ n) (h : s.pre b = 0) : s.putE d b = 0 ∧ s.putD d b = Go.Proofs.YthbheobjhpmoeaaDoor.putD d s.pos (chunks (secsOf (formS s.turn s.n b)) (formS s.turn s.n b)) ∧ OnD (s.putD d b) n ∧ ∀ s', s.PutS d b s' → s' = ⟨s.pos + secsOf (formS s.turn s.n b), s.fin, s.turn, s.n + 1, false⟩ := by
  have hp := h
  unfold Scr.pre at hp
  split at hp
  · cases hp
  · split at hp
    · rename_i h2; exact absurd hp h2
    · rename_i h2
      split at hp
      · cases hp
      · rename_i h3
        have he : s.formE b = 0 := by simpa using h2
        obtain ⟨e, -, -, -⟩ := formV_ok he
        have ef : s.form b = formS s.turn s.n b := e
        have hl : ∀ x ∈ chunks (secsOf (formS s.turn s.n b)) (formS s.turn s.n b), x.length = 64 := chunks_sec _ _ (by unfold secsOf; omega)
        have ha : s.all d b = (Go.Proofs.YthbheobjhpmoeaaDoor.putD d s.pos (chunks (secsOf (formS s.turn s.n b)) (formS s.turn s.n b)), 0) := by
          unfold Scr.all
          rw [ef]
          exact putR_on _ d s.pos on (by rw [chunks_len, ← ef]; omega) hl
        refine ⟨by unfold Scr.putE; rw [if_neg (by rw [h]; simp), ha], by unfold Scr.putD; rw [if_neg (by rw [h]; simp), ha], ?_, fun s' hs => ?_⟩
        · unfold Scr.putD; rw [if_neg (by rw [h]; simp), ha]
          exact (putD_on _ d s.pos on (by rw [chunks_len, ← ef]; omega) hl).1
        · unfold Scr.PutS at hs
          rw [if_neg (by rw [h]; simp), ha, if_pos rfl, ef] at hs
          exact hs
end
end Go.Proofs.YthbheobjhpmoeaaDoor
