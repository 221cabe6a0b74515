/- Digests that came in; the walk of 'TreeAny'. -/
import Derived.Test.YtppkjlmnnpfcfaaDoorTrR
set_option linter.unusedVariables false
namespace Go.Proofs.YtppkjlmnnpfcfaaDoor
open Go.RowKit Go.ChangeShapes Go.WideShapes Go.ChangeAt
attribute [local go_sem ↓] loadAt_id
attribute [local go_sem] rowOf_drew rowOf_drewN run_idLoad
theorem addr_zero (a : Addr) : a.add 0 = a := by unfold Addr.add; simp
theorem rangeAt_of {w : World} {base : Nat} {a : Addr} {n : Nat} {cs : List Value} (h : w.cells? base a n = some cs) (hn : 0 < n) : a.spot = none ∧ w.rangeAt a.block a.off cs ∧ a.block < w.heap.size ∧ cs.length = n := by
  obtain ⟨hb, hl, hc⟩ := World.cells?_some h
  have h0 := hc 0 hn
  have hsp : a.spot = none := by
    rw [addr_zero] at h0
    unfold World.cell? at h0
    cases hh : a.spot with
    | none => rfl
    | some z =>
      rw [hh] at h0
      rw [List.getElem?_eq_getElem (by omega)] at h0
      revert h0
      split <;> simp
  refine ⟨hsp, fun j v hj => ?_, World.cells?_block h hn, hl⟩
  have hj' := (List.getElem?_eq_some_iff.1 hj).1
  have := hc j (by omega)
  rw [hj] at this
  rw [← this]
  congr 1
  unfold Addr.add
  split
  · rename_i h; subst h; cases a; simp_all
  · rfl
section
variable {H : Type} {enc : TypeId × Value → H} {W : World} {fuel : Nat} {x : DataW H × List MemPlace}
theorem trod_id {cs : List Value} (h : DataW.trod enc Tryd.prog W 0 (fun _ => true) true fuel 26 cs = some x) : ∃ l : List B8, l.length = 32 ∧ cs = l.map bv := by
  obtain ⟨xs, m, -, -, hl, hxl, hall⟩ := DataW.trod_array Tryd.underlying26 h
  have c26 : Tryd.prog.cellsOf 26 = 32 := by kernel_rfl
  have c5 : Tryd.prog.cellsOf 5 = 1 := by kernel_rfl
  have hl32 : cs.length = 32 := by rw [hl, c26]
  have hget : ∀ i, i < 32 → ∃ x : B8, cs[i]? = some (bv x) := by
    intro i hi
    have h := hall i hi
    rw [c5, Nat.mul_one] at h
    rw [List.getElem?_eq_getElem (by omega)] at h
    obtain ⟨z, e1, -, hw⟩ := DataW.trod_int Tryd.underlying5 h
    have h0 : ((cs.drop i).take 1)[0]? = some (.int .u8 z) := by rw [e1]; rfl
    have hb := bounds_u8 hw
    refine ⟨BitVec.ofNat 8 z.toNat, ?_⟩
    have h1 : cs[i]? = some (.int .u8 z) := by simpa using h0
    rw [h1]; unfold bv
    rw [BitVec.toNat_ofNat, Nat.mod_eq_of_lt (by omega)]
    rw [Int.toNat_of_nonneg hb.1]
  refine ⟨(List.range 32).map fun i => if h : i < 32 then (hget i h).choose else 0, by simp, ?_⟩
  apply List.ext_getElem?
  intro i
  by_cases hi : i < 32
  · rw [(hget i hi).choose_spec]
    simp [hi]
  · rw [List.getElem?_eq_none (by omega), List.getElem?_eq_none (by simp; omega)]
theorem open_ids {r : Reach} {b0 : Nat} {v : Value} {d : DataW H} {p : List MemPlace} (hval : Value.okWide Tryd.prog W r b0 29 v) (hd : DataW.Trod enc Tryd.prog W 0 (fun _ => true) true 29 v d p) :
    ∃ (A : Option Addr) (c : Nat) (l : List (List B8)), v = .slice A l.length c ∧ IdsAt W A l ∧ (A = none → c = 0) ∧ l.length ≤ c ∧ l.length ≤ maxLen := by
  obtain ⟨a0, len, cap, rfl⟩ := okWide_slice Tryd.underlying29 hval
  obtain ⟨fuel, hf⟩ := hd
  rcases DataW.trod_slice Tryd.underlying29 hf with ⟨hcs, -⟩ | ⟨a, len', cap', elems, rest, m, -, hcs, h1, h2, hl, hm, hel, hall, h3, h4⟩
  · simp [Value.cells] at hcs
    obtain ⟨rfl, rfl, rfl⟩ := hcs
    exact ⟨none, 0, [], rfl, fun i f h => by simp at h, fun _ => rfl, by simp, by simp⟩
  · simp [Value.cells] at hcs
    obtain ⟨rfl, rfl, rfl⟩ := hcs
    have c31 : Tryd.prog.cellsOf 26 = 32 := by kernel_rfl
    have each : ∀ i, i < len → ∃ f : List B8, f.length = 32 ∧ (i = 0 → a.spot = none) ∧ a.block < W.heap.size ∧ W.rangeAt a.block (a.off + i * 32) (f.map bv) := by
      intro i hi
      have h := hall i hi
      rw [c31, List.getElem?_eq_getElem (by omega), Option.bind_eq_some_iff] at h
      obtain ⟨cs, hcs, ht⟩ := h
      obtain ⟨f, hok, rfl⟩ := trod_id ht
      obtain ⟨hsp, hr, hb, -⟩ := rangeAt_of hcs (by omega)
      have hadd : (a.add (i * 32)).block = a.block := add_block _ _
      refine ⟨f, hok, ?_, by rw [← hadd]; exact hb, ?_⟩
      · rintro rfl
        rw [Nat.zero_mul, addr_zero] at hsp; exact hsp
      · rw [hadd] at hr
        have : (a.add (i * 32)).off = a.off + i * 32 := by unfold Addr.add; split <;> simp_all
        rwa [this] at hr
    have hlen : ((List.range len).map fun i => if h : i < len then (each i h).choose else []).length = len := by simp
    refine ⟨some a, cap, (List.range len).map fun i => if h : i < len then (each i h).choose else [], by rw [hlen], ?_, (fun h => by cases h), by omega, by omega⟩
    intro i f hf
    have hi : i < len := by have := (List.getElem?_eq_some_iff.1 hf).1; simpa using this
    simp [hi] at hf
    have hsp := (each 0 (by omega)).choose_spec.2.1 rfl
    obtain ⟨h1, h2, h3, h4⟩ := (each i hi).choose_spec
    rw [hf] at h1 h4
    refine ⟨h1, a.block, a.off, ?_, h3, h4⟩
    cases a; simp_all
end
theorem rclimb_any (A : Option Addr) (c : Nat) (b : List B8) (z zn : Int) (p : List (List B8)) (A' : Option Addr) (c' : Nat) (w : World) (hA : A = none → c = 0) (hc : b.length ≤ c) (hb : b.length ≤ 1000000) (hpc : p.length ≤ c') (hpm : p.length ≤ 1000000) (hI : IdsAt w A' p) (hB : Bts w A b) :
    Calls Tryd.prog 16 #[.slice A b.length c, .int .i64 z, .int .i64 zn, .slice A' p.length c'] w fun e w' => e = .returned (ansV (climbZ b z zn p)) ∧ Below w.heap.size w w' := by
  by_cases h : 0 ≤ z ∧ z < zn ∧ zn ≤ 1048576
  · obtain ⟨k, rfl⟩ : ∃ k : Nat, z = (k : Int) := ⟨z.toNat, by omega⟩
    obtain ⟨n, rfl⟩ : ∃ n : Nat, zn = (n : Int) := ⟨zn.toNat, by omega⟩
    rw [climbZ_nat (by omega) (by omega)]
    exact rclimb_nat A c b hA hc hb n n k p A' c' w (Nat.le_refl _) (by omega) (by omega) hpc hpm hI hB
  · have e : climbZ b z zn p = none := by unfold climbZ; rw [if_neg h]
    rw [e]
    exact rclimb_bad A A' b.length c p.length c' z zn w (.inl h) (by unfold maxLen; omega)
set_option maxRecDepth 100000 in
set_option maxHeartbeats 4000000 in
theorem any_any (A : Option Addr) (c : Nat) (b : List B8) (z zn : Int) (A' : Option Addr) (c' : Nat) (p : List (List B8)) (root : List B8) (w : World) (hB : Bts w A b) (hA : A = none → c = 0) (hc : b.length ≤ c) (hm : b.length ≤ maxLen)
    (hI : IdsAt w A' p) (hpc : p.length ≤ c') (hpm : p.length ≤ maxLen) (hr : root.length = 32) (hG : Glob w) :
    Calls Tryd.prog 4 #[.slice A b.length c, .int .i64 z, .int .i64 zn, .slice A' p.length c', .agg (root.map bv).toArray] w fun e w' => e = .returned (.bool true) ∧ Below w.heap.size w w' := by
  unfold maxLen at hm hpm
  obtain ⟨w1, hw1⟩ : ∃ w1, w1 = w.alloc (.cells (root.map bv).toArray 26) := ⟨_, rfl⟩
  have hb1 : Below w.heap.size w w1 := by rw [hw1]; exact (Below.refl _ _).alloc (Nat.le_refl _) _
  have HB1 := Lib.hid hb1
  have HG1 := Lib.hid (glob_below hG hb1 (Nat.le_refl _))
  by_cases hbad : b.length ≤ 60 ∧ p.length ≤ 40
  · obtain ⟨h60, h40⟩ := hbad
    have t0 : decide ((60 : Int) < (b.length : Int)) = false := by rw [decide_eq_false_iff_not]; omega
    have t1 : decide ((40 : Int) < (p.length : Int)) = false := by rw [decide_eq_false_iff_not]; omega
    have HX1 := Lib.hid (hB.below hb1)
    have HI1 := Lib.hid (hI.below hb1)
    have HR1 := Lib.hid (show w1.heap[w.heap.size]? = some (.cells (root.map bv).toArray 26 (0, 0)) by rw [hw1]; exact heap_alloc_new w _)
    have C1 := Lib.hid (climb_any A c b z zn p A' c' w1 hc (by omega) hpc (by omega) HI1.out HX1.out HG1.out)
    have C2 := Lib.hid (fun w4 (hI : IdsAt w4 A' p) (hB : Bts w4 A b) => rclimb_any A c b z zn p A' c' w4 hA hc (by omega) hpc (by omega) hI hB)
    have IS := Lib.hid (fun w4 (hI : IdsAt w4 A' p) (hB : Bts w4 A b) (hG : Glob w4) => is_any root A c b z zn p A' c' w4 hr hc (by omega) hpc (by omega) hI hB hG)
    have hy32 := climbZ_len (b := b) (z := z) (zn := zn) (p := p)
    rw [isD_eq] at IS
    generalize climbZ b z zn p = o at *
    obtain ⟨y, hy⟩ : ∃ y, y = o.getD (zeros 32) := ⟨_, rfl⟩
    obtain ⟨ob, hob⟩ : ∃ ob, ob = o.isSome := ⟨_, rfl⟩
    have ea : ansV o = .tuple #[.agg (y.map bv).toArray, .bool ob] := by rw [hy, hob]; rfl
    rw [ea] at C1 C2
    rw [← hy, ← hob] at IS
    rw [← hy] at hy32
    have D1 := Lib.hid (show (Tryd.prog.info? 26).map (·.size) = some ((y.map bv).toArray).size by simp only [List.size_toArray, List.length_map, hy32]; kernel_rfl)
    have D2 := Lib.hid (show ZId.size = ((y.map bv).toArray).size by simp only [List.size_toArray, List.length_map, hy32]; rfl)
    have D3 := Lib.hid (bvs_one y)
    have HR := Lib.hid hr
    have HY := Lib.hid hy32
    have eq1 : ∀ w, (Op.equalIn 10000 26 (.agg (y.map bv).toArray) (.agg (y.map bv).toArray)).run Tryd.prog w = .ok true w := fun w => by
      rw [eq_id _ _ hy32 hy32 w]; simp
    have eq2 : ∀ w, (Op.equalIn 10000 26 (.agg (y.map bv).toArray) (.agg (root.map bv).toArray)).run Tryd.prog w = .ok (decide (y = root)) w := fun w => eq_id _ _ hy32 hr w
    generalize decide (y = root) = q at *
    clear hb1 hB hI hG hr hy32 hy hob ea
    go_enter Tryd.func4, Tryd.ntmps4
    go_upto_region 1 with fail
    rw [← hw1]
    clear hw1
    go_upto_region 4 with (first
      | (go_at_call 15; refine C1.out.mono ?_; rintro e w2 ⟨rfl, hb⟩; have HB2 := Lib.hid hb; clear hb)
      | (refine wpList_store_row rfl _ _ _ rfl w2.heap.size (y.map bv).toArray rfl rfl 26 _ (heap_alloc_new w2 _) D1.out D2.out D3.out ?_; rw [World.setRow_alloc_new]))
    obtain ⟨w3, hw3⟩ : ∃ w3, w3 = w2.alloc (.cells (y.map bv).toArray 26) := ⟨_, rfl⟩
    have h23 : Below w2.heap.size w2 w3 := by rw [hw3]; exact (Below.refl _ _).alloc (Nat.le_refl _) _
    have h13 := HB2.out.trans (h23.mono HB2.out.size)
    have HB3 := Lib.hid (HB1.out.trans (h13.mono HB1.out.size))
    have HG3 := Lib.hid (glob_below HG1.out h13 (Nat.le_refl _))
    have HX3 := Lib.hid (HX1.out.below h13)
    have HI3 := Lib.hid (HI1.out.below h13)
    have HR3 := Lib.hid (heap_below h13 HR1.out)
    have HY3 := Lib.hid (show w3.heap[w2.heap.size]? = some (.cells (y.map bv).toArray 26 (0, 0)) by rw [hw3]; exact heap_alloc_new w2 _)
    rw [← hw3]
    clear hw3 h23 h13
    go_upto_region 5 with (first
      | (go_at_call 16; refine (C2.out w3 HI3.out HX3.out).mono ?_; rintro e w4 ⟨rfl, hb⟩; have HB4 := Lib.hid hb; clear hb)
      | (refine wpList_store_row rfl _ _ _ rfl w4.heap.size (y.map bv).toArray rfl rfl 26 _ (heap_alloc_new w4 _) D1.out D2.out D3.out ?_; rw [World.setRow_alloc_new]))
    obtain ⟨w5, hw5⟩ : ∃ w5, w5 = w4.alloc (.cells (y.map bv).toArray 26) := ⟨_, rfl⟩
    have h45 : Below w4.heap.size w4 w5 := by rw [hw5]; exact (Below.refl _ _).alloc (Nat.le_refl _) _
    have h35 := HB4.out.trans (h45.mono HB4.out.size)
    have HB5 := Lib.hid (HB3.out.trans (h35.mono HB3.out.size))
    have HG5 := Lib.hid (glob_below HG3.out h35 (Nat.le_refl _))
    have HX5 := Lib.hid (HX3.out.below h35)
    have HI5 := Lib.hid (HI3.out.below h35)
    have HR5 := Lib.hid (heap_below h35 HR3.out)
    have HY5 := Lib.hid (show w5.heap[w4.heap.size]? = some (.cells (y.map bv).toArray 26 (0, 0)) by rw [hw5]; exact heap_alloc_new w4 _)
    have r1 : rowOf w5 w2.heap.size 0 32 = some (y.map bv).toArray := rowOf_id HY.out (heap_below h35 HY3.out)
    have r2 : rowOf w5 w4.heap.size 0 32 = some (y.map bv).toArray := rowOf_id HY.out HY5.out
    have r3 : rowOf w5 w.heap.size 0 32 = some (root.map bv).toArray := rowOf_id HR.out HR5.out
    rw [← hw5]
    clear hw5 h45 h35
    have IS5 := Lib.hid (IS.out w5 HI5.out HX5.out HG5.out)
    cases ob with
    | false =>
      rw [Bool.false_and] at IS5
      generalize (y.map bv).toArray = Y at *
      generalize (root.map bv).toArray = R at *
      go_wp2_with (first
        | (go_at_call 17; refine IS5.out.mono ?_; rintro e w6 ⟨rfl, hb⟩; have HB6 := Lib.hid (HB5.out.trans (hb.mono HB5.out.size)); have HG6 := Lib.hid (glob_below HG5.out hb (Nat.le_refl _)); clear hb)
        | (go_at_call 9; refine (awake_any w6 HG6.out).mono ?_; rintro e wf ⟨rfl, hb⟩; have HBf := Lib.hid (HB6.out.trans (hb.mono HB6.out.size)); clear hb))
      go_ret
      exact ⟨rfl, HBf.out⟩
    | true =>
      rw [Bool.true_and] at IS5
      have e1 := HY5.out
      go_wp2_with (first
        | (go_at_call 17; refine IS5.out.mono ?_; rintro e w6 ⟨rfl, hb⟩; have HB6 := Lib.hid (HB5.out.trans (hb.mono HB5.out.size)); have HG6 := Lib.hid (glob_below HG5.out hb (Nat.le_refl _)); have r4 := rowOf_id HY.out (heap_below hb HY5.out); have r5 := rowOf_id HR.out (heap_below hb HR5.out); clear hb)
        | (go_at_call 9; refine (awake_any w6 HG6.out).mono ?_; rintro e wf ⟨rfl, hb⟩; have HBf := Lib.hid (HB6.out.trans (hb.mono HB6.out.size)); clear hb))
      go_ret
      exact ⟨rfl, HBf.out⟩
  · clear hB hI
    by_cases h60 : 60 < b.length
    · have t0 : decide ((60 : Int) < (b.length : Int)) = true := by rw [decide_eq_true_eq]; omega
      go_enter Tryd.func4, Tryd.ntmps4
      go_upto_region 1 with fail
      rw [← hw1]
      clear hw1
      go_wp2_with (go_at_call 9; refine (awake_any _ HG1.out).mono ?_; rintro e w' ⟨rfl, hb4⟩)
      go_ret
      exact ⟨rfl, HB1.out.trans (hb4.mono HB1.out.size)⟩
    · have t0 : decide ((60 : Int) < (b.length : Int)) = false := by rw [decide_eq_false_iff_not]; omega
      have t1 : decide ((40 : Int) < (p.length : Int)) = true := by rw [decide_eq_true_eq]; omega
      go_enter Tryd.func4, Tryd.ntmps4
      go_upto_region 1 with fail
      rw [← hw1]
      clear hw1
      go_wp2_with (go_at_call 9; refine (awake_any _ HG1.out).mono ?_; rintro e w' ⟨rfl, hb4⟩)
      go_ret
      exact ⟨rfl, HB1.out.trans (hb4.mono HB1.out.size)⟩
theorem any_law (A : Option Addr) (c : Nat) (b : List B8) (z zn : Int) (A' : Option Addr) (c' : Nat) (p : List (List B8)) (root : List B8) (w : World) (hB : Sl w w.heap.size A (b.map bv)) (hm : b.length ≤ maxLen) (hA : A = none → c = 0) (hc : b.length ≤ c) {p1 : Prop} (_ : p1) {p2 : Prop} (_ : p2)
    (hI : IdsAt w A' p) (hpm : p.length ≤ maxLen) (hA' : A' = none → c' = 0) (hpc : p.length ≤ c') (hr : root.length = 32) (hG : Glob w) :
    Calls Tryd.prog 4 #[.slice A b.length c, .int .i64 z, .int .i64 zn, .slice A' p.length c', .agg (root.map bv).toArray] w fun e w' => e = .returned (.bool true) ∧ Below w.heap.size w w' :=
  any_any A c b z zn A' c' p root w (Bts.of_sl hB) hA hc hm hI hpc hpm hr hG
end Go.Proofs.YtppkjlmnnpfcfaaDoor
