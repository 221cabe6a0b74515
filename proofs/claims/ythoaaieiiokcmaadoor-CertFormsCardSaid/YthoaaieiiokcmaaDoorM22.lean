/- Merged: Digests that lie in a slice; the code's climbOne and joinedIf. The code's Climb. The code's Climb at a place that there is. -/
import Derived.Test.YthoaaieiiokcmaaDoorM21
import Derived.Laws.ResultCell
import Derived.Test.YthoaaieiiokcmaaDoorM09
namespace Go.Proofs.YthoaaieiiokcmaaDoor
section
set_option linter.unusedVariables false
open Go.RowKit
attribute [local go_sem ↓] loadAt_id
attribute [local go_sem] rowOf_drew rowOf_drewN run_idLoad
/-- Digests that lie in a slice. -/
def IdsAt (w : World) (A : Option Addr) (ds : List (List B8)) : Prop := ∀ (i : Nat) (d : List B8), ds[i]? = some d → d.length = 32 ∧ ∃ b o, A = some ⟨b, o, none⟩ ∧ b < w.heap.size ∧ w.rangeAt b (o + i * 32) (d.map bv)
theorem range_belowT {w w' : World} {b o : Nat} {cs : List Value} (h : w.rangeAt b o cs) (hb : Below w.heap.size w w') (hlt : b < w.heap.size) : w'.rangeAt b o cs := fun j v hj => (hb.cell hlt).trans (h j v hj)
theorem IdsAt.below {w w' : World} {A : Option Addr} {ds : List (List B8)} (h : IdsAt w A ds) (hb : Below w.heap.size w w') : IdsAt w' A ds := fun i d hi => by
  obtain ⟨h1, b, o, e, hlt, hr⟩ := h i d hi
  exact ⟨h1, b, o, e, Nat.lt_of_lt_of_le hlt hb.size, range_belowT hr hb hlt⟩
theorem IdsAt.front {w : World} {A : Option Addr} {ds : List (List B8)} (h : IdsAt w A ds) (n : Nat) : IdsAt w A (ds.take n) := fun i d hi => by
  rw [List.getElem?_take] at hi
  split at hi
  · exact h i d hi
  · cases hi
theorem IdsAt.row {w : World} {A : Option Addr} {ds : List (List B8)} (h : IdsAt w A ds) {i : Nat} {d : List B8} (hi : ds[i]? = some d) : ∃ b o, A = some ⟨b, o, none⟩ ∧ b < w.heap.size ∧ rowOf w b (o + i * 32) 32 = some (d.map bv).toArray := by
  obtain ⟨h1, b, o, e, hlt, hr⟩ := h i d hi
  exact ⟨b, o, e, hlt, rowOf_eq (by simp [h1]) hr⟩
theorem idsV_at : ∀ (ds : List (List B8)) (h : ∀ d ∈ ds, d.length = 32) (i : Nat) (d : List B8), ds[i]? = some d → ∀ j, j < 32 → (idsV ds)[i * 32 + j]? = (d.map bv)[j]?
  | [], _, i, d, hi, _, _ => by simp at hi
  | x :: l, h, 0, d, hi, j, hj => by
    obtain rfl : x = d := by simpa using hi
    have hx := h x (by simp)
    unfold idsV
    rw [List.flatMap_cons, List.getElem?_append_left (by simp [hx]; omega)]
    congr 1; omega
  | x :: l, h, i + 1, d, hi, j, hj => by
    have hx := h x (by simp)
    have := idsV_at l (fun y hy => h y (by simp [hy])) i d (by simpa using hi) j hj
    unfold idsV at *
    rw [List.flatMap_cons, List.getElem?_append_right (by simp [hx]; omega), List.length_map, hx, show (i + 1) * 32 + j - 32 = i * 32 + j by omega]
    exact this
/-- A row of one's own, read as digests. -/
theorem IdsAt.of_own {w : World} {B n : Nat} {A : Option Addr} {c : Nat} {ds : List (List B8)} (h : w.ownsRow B 24 32 (.slice A n c) n (idsV ds)) (hd : ∀ d ∈ ds, d.length = 32) : IdsAt w A ds := fun i d hi => by
  have hlen := idsV_len ds hd
  have hlt := (List.getElem?_eq_some_iff.1 hi).1
  refine ⟨hd d (List.mem_of_getElem? hi), ?_⟩
  rcases h.2 with ⟨e, hn⟩ | ⟨g, cap, cur, e, hg, hh, r⟩
  · exfalso
    have := h.1
    omega
  · injection e with e1 e2 e3
    refine ⟨g, 0, e1, lt_of_block hh, fun j v hj => ?_⟩
    have hj32 : j < 32 := by have := (List.getElem?_eq_some_iff.1 hj).1; simp [hd d (List.mem_of_getElem? hi)] at this; omega
    subst e1
    have h2 := h.cells (g := g) rfl (i * 32 + j) v (by rw [idsV_at ds hd i d hi j hj32]; exact hj)
    have e4 : (⟨g, 0, none⟩ : Addr).add (i * 32 + j) = ⟨g, 0 + i * 32 + j, none⟩ := by unfold Addr.add; split <;> simp_all
    rw [e4] at h2; exact h2
theorem results_twoT {P : Program} {fn : Func} {p u : Tmp} {ty : TypeId} (h : fn.results = #[.cell p ty, .tmp u]) (tmps : Array Value) (w : World) (g : Nat) (t : TypeId) (cs : Array Value) (fr : Nat × Nat) (d : TypeDesc) (v : Value)
    (hp : tmps.getD p undef = .pointer (some ⟨g, 0, none⟩)) (hv : tmps.getD u undef = v) (hg : w.heap[g]? = some (.cells cs t fr))
    (hu : P.underlying ty = some d) (hd : (match d with | .struct _ | .array _ _ => true | _ => false) = true) (hi : (P.info? ty).map (·.size) = some cs.size) :
    (results fn tmps).run P w = .ok (.tuple #[.agg cs, v]) w := by
  rw [results_cell_tmp h, hp, hv]
  simp [asAddr, run_loadVar_row w g t ty cs fr d hg hu hd hi, Result.andThen]
/-- What a climb hands back. -/
def ansV (o : Option (List B8)) : Value := .tuple #[.agg ((o.getD (zeros 32)).map bv).toArray, .bool o.isSome]
theorem ansV_none : ansV none = .tuple #[.agg ZIdT, .bool false] := rfl
theorem info_zT : (Tryd.prog.info? 24).map (·.size) = some ZIdT.size := by kernel_rfl
set_option maxRecDepth 100000 in
set_option maxHeartbeats 2000000 in
theorem climbOne_any (A A' : Option Addr) (c c' n : Nat) (b : List B8) (w : World) (hB : Bts w A b) (hc : b.length ≤ c) (hG : Glob w) (hb : b.length ≤ 1000000) (hn : n ≤ maxLen) :
    Calls Tryd.prog 100 #[.slice A b.length c, .slice A' n c'] w fun e w' => e = .returned (ansV (if n = 0 then some (leafD b) else none)) ∧ Below w.heap.size w w' := by
  unfold maxLen at hn
  obtain ⟨w1, hw1⟩ : ∃ w1, w1 = w.alloc (.cells ZIdT 24) := ⟨_, rfl⟩
  have hb1 : Below w.heap.size w w1 := by rw [hw1]; exact (Below.refl _ _).alloc (Nat.le_refl _) _
  have hz1 : w1.heap[w.heap.size]? = some (.cells ZIdT 24 (0, 0)) := by rw [hw1]; exact heap_alloc_new w _
  have HB1 := Lib.hid hb1
  have HZ1 := Lib.hid hz1
  by_cases h0 : n = 0
  · rw [if_pos h0]
    subst h0
    obtain ⟨C, hC⟩ : ∃ C, C = ((leafD b).map bv).toArray := ⟨_, rfl⟩
    have hC32 : C.size = 32 := by rw [hC]; simp [leafD_len]
    have H3 := Lib.hid (show C.all (·.oneCell') = true by rw [hC]; exact bvs_one _)
    have H1 := Lib.hid (show (Tryd.prog.info? 24).map (·.size) = some C.size by rw [hC32]; kernel_rfl)
    have H2 := Lib.hid (show ZIdT.size = C.size by rw [hC32]; rfl)
    have R := Lib.hid (rootOfOne_any A c b w1 (hB.below hb1) hc (hG.below hb1 hG.1) (by omega))
    rw [← hC] at R
    have ea : ansV (some (leafD b)) = .tuple #[.agg C, .bool true] := by rw [hC]; rfl
    rw [ea]
    clear hb1 hz1 hB hG hC hC32 ea
    go_enter Tryd.func100, Tryd.ntmps100
    go_upto_region 1 with fail
    rw [← hw1]
    clear hw1
    go_wp2_with (go_at_call 73; refine stop ?_)
    unfold Stop
    refine R.out.mono ?_
    rintro e w2 ⟨rfl, hb3⟩
    have HA := Lib.hid (heap_below hb3 HZ1.out)
    have HB3 := Lib.hid (HB1.out.trans (hb3.mono HB1.out.size))
    clear hb3
    go_wp2_with (refine wpList_store_row rfl _ _ _ rfl w.heap.size C rfl rfl _ ZIdT HA.out H1.out H2.out H3.out ?_)
    have hA2 := setRow_heap w2 w.heap.size ZIdT C 24 (0, 0) HA.out
    refine bodyPost_ret (v := .tuple #[.agg C, .bool true]) ?_ rfl ⟨rfl, below_setRow HB3.out (Nat.le_refl _) C⟩
    exact results_twoT Tryd.results100 _ _ w.heap.size _ C (0, 0) _ _ rfl rfl hA2 Tryd.underlying24 rfl H1.out
  · rw [if_neg h0, ansV_none]
    have h0' : 0 < n := by omega
    have H1 := Lib.hid info_zT
    have H3 := Lib.hid (show ZIdT.all (·.oneCell') = true by kernel_rfl)
    clear hb1 hz1 hB hG h0
    go_enter Tryd.func100, Tryd.ntmps100
    go_upto_region 1 with fail
    rw [← hw1]
    clear hw1
    go_wp2_with (refine wpList_store_row rfl _ _ _ rfl w.heap.size ZIdT rfl rfl _ ZIdT HZ1.out H1.out rfl H3.out ?_)
    have hA2 := setRow_heap w1 w.heap.size ZIdT ZIdT 24 (0, 0) HZ1.out
    refine bodyPost_ret (v := .tuple #[.agg ZIdT, .bool false]) ?_ rfl ⟨rfl, below_setRow HB1.out (Nat.le_refl _) ZIdT⟩
    exact results_twoT Tryd.results100 _ _ w.heap.size _ ZIdT (0, 0) _ _ rfl rfl hA2 Tryd.underlying24 rfl H1.out
set_option maxRecDepth 100000 in
set_option maxHeartbeats 2000000 in
theorem joinedIf_any (ok : Bool) (a b : List B8) (w : World) (ha : a.length = 32) (hb : b.length = 32) (hG : Glob w) :
    Calls Tryd.prog 101 #[.bool ok, .agg (a.map bv).toArray, .agg (b.map bv).toArray] w fun e w' => e = .returned (ansV (if ok then some (nodeD a b) else none)) ∧ Below w.heap.size w w' := by
  obtain ⟨w1, hw1⟩ : ∃ w1, w1 = ((w.alloc (.cells (a.map bv).toArray 24)).alloc (.cells (b.map bv).toArray 24)).alloc (.cells ZIdT 24) := ⟨_, rfl⟩
  have hb1 : Below w.heap.size w w1 := by rw [hw1]; exact (((Below.refl _ _).alloc (Nat.le_refl _) _).alloc (by simp) _).alloc (by simp; omega) _
  have hs2 : ((w.alloc (.cells (a.map bv).toArray 24)).alloc (.cells (b.map bv).toArray 24)).heap.size = w.heap.size + 2 := by simp
  have hz1 : w1.heap[w.heap.size + 2]? = some (.cells ZIdT 24 (0, 0)) := by rw [hw1, ← hs2]; exact heap_alloc_new _ _
  have hlast : Below ((w.alloc (.cells (a.map bv).toArray 24)).alloc (.cells (b.map bv).toArray 24)).heap.size ((w.alloc (.cells (a.map bv).toArray 24)).alloc (.cells (b.map bv).toArray 24)) w1 := by rw [hw1]; exact (Below.refl _ _).alloc (Nat.le_refl _) _
  have ra1 : rowOf w1 w.heap.size 0 32 = some (a.map bv).toArray := rowOf_id ha (heap_below hlast (heap_alloc2_old w _ _))
  have rb1 : rowOf w1 (w.heap.size + 1) 0 32 = some (b.map bv).toArray := rowOf_id hb (heap_below hlast (heap_alloc2_new w _ _))
  have HB1 := Lib.hid hb1
  have HZ1 := Lib.hid hz1
  have HG1 := Lib.hid (show Glob w1 from hG.below hb1 hG.1)
  cases ok with
  | true =>
    obtain ⟨C, hC⟩ : ∃ C, C = ((nodeD a b).map bv).toArray := ⟨_, rfl⟩
    have hC32 : C.size = 32 := by rw [hC]; simp [nodeD_len]
    have H3 := Lib.hid (show C.all (·.oneCell') = true by rw [hC]; exact bvs_one _)
    have H1 := Lib.hid (show (Tryd.prog.info? 24).map (·.size) = some C.size by rw [hC32]; kernel_rfl)
    have H2 := Lib.hid (show ZIdT.size = C.size by rw [hC32]; rfl)
    have J := Lib.hid (joined_any a b w1 ha hb HG1.out)
    have ea : ansV (if true = true then some (nodeD a b) else none) = .tuple #[.agg C, .bool true] := by rw [hC]; rfl
    rw [ea]
    rw [← hC] at J
    clear hb1 hz1 hG hC hC32 ea hlast hs2 ha hb
    go_enter Tryd.func101, Tryd.ntmps101
    go_upto_region 1 with fail
    change Code.wp _ _ _ _ (((w.alloc (.cells (a.map bv).toArray 24)).alloc (.cells (b.map bv).toArray 24)).alloc (.cells ZIdT 24))
    rw [← hw1]
    clear hw1
    go_wp2_with (go_at_call 75; refine stop ?_)
    unfold Stop
    refine J.out.mono ?_
    rintro e w2 ⟨rfl, hb3⟩
    have HA := Lib.hid (heap_below hb3 HZ1.out)
    have HB3 := Lib.hid (HB1.out.trans (hb3.mono HB1.out.size))
    clear hb3
    go_wp2_with (refine wpList_store_row rfl _ _ _ rfl (w.heap.size + 2) C rfl rfl _ ZIdT HA.out H1.out H2.out H3.out ?_)
    have hA2 := setRow_heap w2 (w.heap.size + 2) ZIdT C 24 (0, 0) HA.out
    refine bodyPost_ret (v := .tuple #[.agg C, .bool true]) ?_ rfl ⟨rfl, below_setRow HB3.out (by omega) C⟩
    exact results_twoT Tryd.results101 _ _ (w.heap.size + 2) _ C (0, 0) _ _ rfl rfl hA2 Tryd.underlying24 rfl H1.out
  | false =>
    rw [if_neg (by decide), ansV_none]
    have H1 := Lib.hid info_zT
    have H3 := Lib.hid (show ZIdT.all (·.oneCell') = true by kernel_rfl)
    clear hb1 hz1 hG hlast hs2 ha hb
    go_enter Tryd.func101, Tryd.ntmps101
    go_upto_region 1 with fail
    change Code.wp _ _ _ _ (((w.alloc (.cells (a.map bv).toArray 24)).alloc (.cells (b.map bv).toArray 24)).alloc (.cells ZIdT 24))
    rw [← hw1]
    clear hw1
    go_wp2_with (refine wpList_store_row rfl _ _ _ rfl (w.heap.size + 2) ZIdT rfl rfl _ ZIdT HZ1.out H1.out rfl H3.out ?_)
    have hA2 := setRow_heap w1 (w.heap.size + 2) ZIdT ZIdT 24 (0, 0) HZ1.out
    refine bodyPost_ret (v := .tuple #[.agg ZIdT, .bool false]) ?_ rfl ⟨rfl, below_setRow HB1.out (by omega) ZIdT⟩
    exact results_twoT Tryd.results101 _ _ (w.heap.size + 2) _ ZIdT (0, 0) _ _ rfl rfl hA2 Tryd.underlying24 rfl H1.out
end
section
set_option linter.unusedVariables false
open Go.RowKit
attribute [local go_sem ↓] loadAt_id
attribute [local go_sem] rowOf_drew rowOf_drewN run_idLoad
theorem size_id (w : World) : (sizeOf 24).run Tryd.prog w = .ok 32 w := by kernel_rfl
theorem slicei_hi (A : Option Addr) (len cap n : Nat) (h : n ≤ len) (hc : len ≤ cap) (w : World) : (Instr.slice 28 (.slice A len cap) none (some (.int .i64 (n : Int))) none).run Tryd.prog w = .ok (.slice A n cap) w := by
  rw [run_slice_h (P := Tryd.prog) w 28 A len cap (by kernel_rfl) .i64 (n : Int) (by omega) (by omega)]
  rw [show Tryd.prog.elem 28 = 24 by kernel_rfl, size_id]
  simp [Result.andThen, sliced, Addr.add]
def climbZ (leaf : List B8) (z zn : Int) (p : List (List B8)) : Option (List B8) := if 0 ≤ z ∧ z < zn ∧ zn ≤ 1048576 then climbD leaf z.toNat zn.toNat p else none
theorem climbZ_nat {leaf : List B8} {k n : Nat} {p : List (List B8)} (h : k < n) (hn : n ≤ 1048576) : climbZ leaf k n p = climbD leaf k n p := by
  unfold climbZ; rw [if_pos (by omega)]; rfl
theorem climbD_len32 : ∀ (n : Nat) (leaf : List B8) (k : Nat) (p : List (List B8)) (d : List B8), climbD leaf k n p = some d → d.length = 32 := by
  intro n leaf k p d h
  rw [climbD] at h
  split at h
  · split at h
    · cases h
    · split at h
      · obtain ⟨x, -, rfl⟩ := Option.map_eq_some_iff.1 h; exact nodeD_len _ _
      · obtain ⟨x, -, rfl⟩ := Option.map_eq_some_iff.1 h; exact nodeD_len _ _
  · split at h
    · split at h
      · injection h with h; rw [← h]; exact leafD_len _
      · cases h
    · cases h
theorem getD_len32 {leaf : List B8} {k n : Nat} {p : List (List B8)} : ((climbD leaf k n p).getD (zeros 32)).length = 32 := by
  cases h : climbD leaf k n p with
  | none => rfl
  | some d => exact climbD_len32 n leaf k p d h
set_option maxRecDepth 100000 in
set_option maxHeartbeats 4000000 in
theorem climb_bad (A A' : Option Addr) (lb c lp c' : Nat) (z zn : Int) (w : World) (h : ¬ (0 ≤ z ∧ z < zn ∧ zn ≤ 1048576)) :
    Calls Tryd.prog 69 #[.slice A lb c, .int .i64 z, .int .i64 zn, .slice A' lp c'] w fun e w' => e = .returned (ansV none) ∧ Below w.heap.size w w' := by
  obtain ⟨w1, hw1⟩ : ∃ w1, w1 = w.alloc (.cells ZIdT 24) := ⟨_, rfl⟩
  have hb1 : Below w.heap.size w w1 := by rw [hw1]; exact (Below.refl _ _).alloc (Nat.le_refl _) _
  have hz1 : w1.heap[w.heap.size]? = some (.cells ZIdT 24 (0, 0)) := by rw [hw1]; exact heap_alloc_new w _
  have HB1 := Lib.hid hb1
  have HZ1 := Lib.hid hz1
  have H1 := Lib.hid info_zT
  have H3 := Lib.hid (show ZIdT.all (·.oneCell') = true by kernel_rfl)
  have HH := Lib.hid h
  rw [ansV_none]
  clear hb1 hz1 h
  have fin : ∀ (tmps : Array Value) (g : Nat), g = 0 → True := fun _ _ _ => trivial
  by_cases h1 : z < 0
  · have t0 : decide (z < 0) = true := by rw [decide_eq_true_eq]; exact h1
    go_enter Tryd.func69, Tryd.ntmps69
    go_upto_region 1 with fail
    rw [← hw1]
    clear hw1
    go_wp2_with (refine wpList_store_row rfl _ _ _ rfl w.heap.size ZIdT rfl rfl _ ZIdT HZ1.out H1.out rfl H3.out ?_)
    have hA2 := setRow_heap w1 w.heap.size ZIdT ZIdT 24 (0, 0) HZ1.out
    refine bodyPost_ret (v := .tuple #[.agg ZIdT, .bool false]) ?_ rfl ⟨rfl, below_setRow HB1.out (Nat.le_refl _) ZIdT⟩
    exact results_twoT Tryd.results69 _ _ w.heap.size _ ZIdT (0, 0) _ _ rfl rfl hA2 Tryd.underlying24 rfl H1.out
  · have t0 : decide (z < 0) = false := by rw [decide_eq_false_iff_not]; exact h1
    by_cases h2 : zn ≤ z
    · have t1 : decide (zn ≤ z) = true := by rw [decide_eq_true_eq]; exact h2
      go_enter Tryd.func69, Tryd.ntmps69
      go_upto_region 1 with fail
      rw [← hw1]
      clear hw1
      go_wp2_with (refine wpList_store_row rfl _ _ _ rfl w.heap.size ZIdT rfl rfl _ ZIdT HZ1.out H1.out rfl H3.out ?_)
      have hA2 := setRow_heap w1 w.heap.size ZIdT ZIdT 24 (0, 0) HZ1.out
      refine bodyPost_ret (v := .tuple #[.agg ZIdT, .bool false]) ?_ rfl ⟨rfl, below_setRow HB1.out (Nat.le_refl _) ZIdT⟩
      exact results_twoT Tryd.results69 _ _ w.heap.size _ ZIdT (0, 0) _ _ rfl rfl hA2 Tryd.underlying24 rfl H1.out
    · have t1 : decide (zn ≤ z) = false := by rw [decide_eq_false_iff_not]; exact h2
      have t2 : decide (1048576 < zn) = true := by rw [decide_eq_true_eq]; have := HH.out; omega
      go_enter Tryd.func69, Tryd.ntmps69
      go_upto_region 1 with fail
      rw [← hw1]
      clear hw1
      go_wp2_with (refine wpList_store_row rfl _ _ _ rfl w.heap.size ZIdT rfl rfl _ ZIdT HZ1.out H1.out rfl H3.out ?_)
      have hA2 := setRow_heap w1 w.heap.size ZIdT ZIdT 24 (0, 0) HZ1.out
      refine bodyPost_ret (v := .tuple #[.agg ZIdT, .bool false]) ?_ rfl ⟨rfl, below_setRow HB1.out (Nat.le_refl _) ZIdT⟩
      exact results_twoT Tryd.results69 _ _ w.heap.size _ ZIdT (0, 0) _ _ rfl rfl hA2 Tryd.underlying24 rfl H1.out
end
section
set_option linter.unusedVariables false
open Go.RowKit
attribute [local go_sem ↓] loadAt_id
attribute [local go_sem] rowOf_drew rowOf_drewN run_idLoad
theorem range_rowB {w : World} {g : Nat} {d : List B8} {t : TypeId} {fr : Nat × Nat} (h : w.heap[g]? = some (.cells (d.map bv).toArray t fr)) : w.rangeAt g 0 (d.map bv) := fun j v hj => by
  rw [cell_of_row _ _ _ _ _ _ h, List.getElem?_toArray, Nat.zero_add]; exact hj
set_option maxRecDepth 100000 in
set_option maxHeartbeats 4000000 in
theorem climb_nat (A : Option Addr) (c : Nat) (b : List B8) (hc : b.length ≤ c) (hb : b.length ≤ 1000000) : ∀ (N n k : Nat) (p : List (List B8)) (A' : Option Addr) (c' : Nat) (w : World), n ≤ N → k < n → n ≤ 1048576 → p.length ≤ c' → p.length ≤ 1000000 → IdsAt w A' p → Bts w A b → Glob w →
    Calls Tryd.prog 69 #[.slice A b.length c, .int .i64 (k : Int), .int .i64 (n : Int), .slice A' p.length c'] w fun e w' => e = .returned (ansV (climbD b k n p)) ∧ Below w.heap.size w w' := by
  intro N
  induction N with
  | zero => intro n k p A' c' w hN hk; omega
  | succ N ih =>
    intro n k p A' c' w hN hk hn hpc hpm hI hB hG
    obtain ⟨w1, hw1⟩ : ∃ w1, w1 = w.alloc (.cells ZIdT 24) := ⟨_, rfl⟩
    have hb1 : Below w.heap.size w w1 := by rw [hw1]; exact (Below.refl _ _).alloc (Nat.le_refl _) _
    have hz1 : w1.heap[w.heap.size]? = some (.cells ZIdT 24 (0, 0)) := by rw [hw1]; exact heap_alloc_new w _
    have HB1 := Lib.hid hb1
    have HZ1 := Lib.hid hz1
    have HG1 := Lib.hid (show Glob w1 from hG.below hb1 hG.1)
    have HX1 := Lib.hid (hB.below hb1)
    have HI1 := Lib.hid (hI.below hb1)
    have t0 : decide ((k : Int) < 0) = false := by rw [decide_eq_false_iff_not]; omega
    have t1 : decide ((n : Int) ≤ (k : Int)) = false := by rw [decide_eq_false_iff_not]; omega
    have t2 : decide ((1048576 : Int) < (n : Int)) = false := by rw [decide_eq_false_iff_not]; omega
    have t3 : ¬ n ≤ k := by omega
    have t4 : ¬ 1048576 < n := by omega
    clear hb1 hz1 hI hB hG
    by_cases h1 : n = 1
    · subst h1
      obtain rfl : k = 0 := by omega
      rw [climbD_one]
      have R := Lib.hid (climbOne_any A A' c c' p.length b w1 HX1.out hc HG1.out hb (by unfold maxLen; omega))
      obtain ⟨o, ho⟩ : ∃ o, o = (if p.length = 0 then some (leafD b) else none) := ⟨_, rfl⟩
      rw [← ho] at R ⊢
      have ho32 : (o.getD (zeros 32)).length = 32 := by
        rw [ho]; split
        · exact leafD_len _
        · rfl
      obtain ⟨C, hC⟩ : ∃ C, C = ((o.getD (zeros 32)).map bv).toArray := ⟨_, rfl⟩
      obtain ⟨ob, hob⟩ : ∃ ob, ob = o.isSome := ⟨_, rfl⟩
      have ea : ansV o = .tuple #[.agg C, .bool ob] := by rw [hC, hob]; rfl
      rw [ea] at R ⊢
      have hC32 : C.size = 32 := by rw [hC]; simp [ho32]
      have H3 := Lib.hid (show C.all (·.oneCell') = true by rw [hC]; exact bvs_one _)
      have H1 := Lib.hid (show (Tryd.prog.info? 24).map (·.size) = some C.size by rw [hC32]; kernel_rfl)
      have H2 := Lib.hid (show ZIdT.size = C.size by rw [hC32]; rfl)
      clear hC hC32 ea ho ho32 hob ih
      go_enter Tryd.func69, Tryd.ntmps69
      go_upto_region 1 with fail
      rw [← hw1]
      clear hw1
      go_wp2_with (first
        | (go_at_call 100; refine R.out.mono ?_; rintro e w2 ⟨rfl, hb2⟩; have HB2 := Lib.hid (HB1.out.trans (hb2.mono HB1.out.size)); have HZ2 := Lib.hid (heap_below hb2 HZ1.out); clear hb2)
        | (refine wpList_store_row rfl _ _ _ rfl w.heap.size C rfl rfl _ ZIdT HZ2.out H1.out H2.out H3.out ?_))
      have hA2 := setRow_heap w2 w.heap.size ZIdT C 24 (0, 0) HZ2.out
      refine bodyPost_ret (v := .tuple #[.agg C, .bool ob]) ?_ rfl ⟨rfl, below_setRow HB2.out (Nat.le_refl _) C⟩
      exact results_twoT Tryd.results69 _ _ w.heap.size _ C (0, 0) _ _ rfl rfl hA2 Tryd.underlying24 rfl H1.out
    · have h2 : 2 ≤ n := by omega
      have t5 : ((n : Int) == 1) = false := beq_false_of_ne (by omega)
      rcases List.eq_nil_or_concat p with rfl | ⟨q, x, rfl⟩
      · rw [climbD_nil h2, ansV_none]
        have H1 := Lib.hid info_zT
        have H3 := Lib.hid (show ZIdT.all (·.oneCell') = true by kernel_rfl)
        clear ih
        go_enter Tryd.func69, Tryd.ntmps69
        go_upto_region 1 with fail
        rw [← hw1]
        clear hw1
        go_wp2_with (refine wpList_store_row rfl _ _ _ rfl w.heap.size ZIdT rfl rfl _ ZIdT HZ1.out H1.out rfl H3.out ?_)
        have hA2 := setRow_heap w1 w.heap.size ZIdT ZIdT 24 (0, 0) HZ1.out
        refine bodyPost_ret (v := .tuple #[.agg ZIdT, .bool false]) ?_ rfl ⟨rfl, below_setRow HB1.out (Nat.le_refl _) ZIdT⟩
        exact results_twoT Tryd.results69 _ _ w.heap.size _ ZIdT (0, 0) _ _ rfl rfl hA2 Tryd.underlying24 rfl H1.out
      · rw [List.concat_eq_append] at *
        have hlen : (q ++ [x]).length = q.length + 1 := by simp
        have hh := hp_lt h2
        have hh1 := hp_pos n
        have F := Lib.hid (fun w => firstOnes_any n w h2 (by omega))
        rw [hlen] at hpc hpm
        have sh := slicei_hi A' (q.length + 1) c' q.length (by omega) (by omega)
        obtain ⟨hx32, bx, ox, eA, hbx, hrow⟩ := HI1.out q.length x (by simp)
        subst eA
        have HR1 := Lib.hid hrow
        have HIq := Lib.hid (show IdsAt w1 (some ⟨bx, ox, none⟩) q by
          have := HI1.out.front q.length
          rwa [List.take_left' rfl] at this)
        rw [hlen]
        by_cases hkh : k < hp n
        · have ce := climbD_low h2 hkh hn (leaf := b) (p := q) (x := x)
          have IH := Lib.hid (fun (w : World) (h1 : IdsAt w (some ⟨bx, ox, none⟩) q) (h2 : Bts w A b) (h3 : Glob w) => ih (hp n) k q (some ⟨bx, ox, none⟩) c' w (by omega) (by omega) (by omega) (by omega) (by omega) h1 h2 h3)
          have hy32 : ((climbD b k (hp n) q).getD (zeros 32)).length = 32 := getD_len32
          obtain ⟨o, ho⟩ : ∃ o, o = climbD b k (hp n) q := ⟨_, rfl⟩
          rw [← ho] at ce hy32 IH
          rw [ce]
          obtain ⟨y, hy⟩ : ∃ y, y = o.getD (zeros 32) := ⟨_, rfl⟩
          obtain ⟨ob, hob⟩ : ∃ ob, ob = o.isSome := ⟨_, rfl⟩
          have er : (o.map fun d => nodeD d x) = if ob = true then some (nodeD y x) else none := by
            rw [hob, hy]; cases o <;> rfl
          have ea : ansV o = .tuple #[.agg (y.map bv).toArray, .bool ob] := by rw [hy, hob]; rfl
          rw [er]
          rw [ea] at IH
          rw [← hy] at hy32
          obtain ⟨o2, ho2⟩ : ∃ o2, o2 = (if ob = true then some (nodeD y x) else none) := ⟨_, rfl⟩
          have J := Lib.hid (fun (w : World) (hG : Glob w) => joinedIf_any ob y x w hy32 hx32 hG)
          rw [← ho2] at J ⊢
          have h232 : (o2.getD (zeros 32)).length = 32 := by
            rw [ho2]; split
            · exact nodeD_len _ _
            · rfl
          obtain ⟨z, hz⟩ : ∃ z, z = o2.getD (zeros 32) := ⟨_, rfl⟩
          obtain ⟨ob2, hob2⟩ : ∃ ob, ob = o2.isSome := ⟨_, rfl⟩
          have ea2 : ansV o2 = .tuple #[.agg (z.map bv).toArray, .bool ob2] := by rw [hz, hob2]; rfl
          rw [ea2] at J ⊢
          rw [← hz] at h232
          have D1 := Lib.hid (show (Tryd.prog.info? 24).map (·.size) = some ((y.map bv).toArray).size by simp only [List.size_toArray, List.length_map, hy32]; kernel_rfl)
          have D2 := Lib.hid (show ZIdT.size = ((y.map bv).toArray).size by simp only [List.size_toArray, List.length_map, hy32]; rfl)
          have D3 := Lib.hid (bvs_one y)
          have H1 := Lib.hid (show (Tryd.prog.info? 24).map (·.size) = some ((z.map bv).toArray).size by simp only [List.size_toArray, List.length_map, h232]; kernel_rfl)
          have H2 := Lib.hid (show ZIdT.size = ((z.map bv).toArray).size by simp only [List.size_toArray, List.length_map, h232]; rfl)
          have H3 := Lib.hid (bvs_one z)
          have X1 := Lib.hid (show (Tryd.prog.info? 24).map (·.size) = some (x.map bv).length by rw [List.length_map, hx32]; kernel_rfl)
          have Y1 := Lib.hid (show (Tryd.prog.info? 24).map (·.size) = some (y.map bv).length by rw [List.length_map, hy32]; kernel_rfl)
          have hkI : decide ((k : Int) < (hp n : Int)) = true := by rw [decide_eq_true_eq]; omega
          clear ce ih er ea ea2 ho hy hob ho2 hz hob2 hx32 hy32 h232 HI1 hlen
          generalize hp n = h at *
          go_enter Tryd.func69, Tryd.ntmps69
          go_upto_region 1 with fail
          rw [← hw1]
          clear hw1
          go_upto_region 10 with (first
            | (go_at_call 74; refine (F.out _).mono ?_; rintro e w' ⟨rfl, rfl⟩)
            | (go_at_call 69; refine (IH.out _ HIq.out HX1.out HG1.out).mono ?_; rintro e w2 ⟨rfl, hb2⟩; have HB2 := Lib.hid hb2; clear hb2)
            | (refine wpList_store_row rfl _ _ _ rfl w2.heap.size (y.map bv).toArray rfl rfl 24 _ (heap_alloc_new w2 _) D1.out D2.out D3.out ?_; rw [World.setRow_alloc_new]))
          obtain ⟨w3, hw3⟩ : ∃ w3, w3 = w2.alloc (.cells (y.map bv).toArray 24) := ⟨_, rfl⟩
          have h23 : Below w2.heap.size w2 w3 := by rw [hw3]; exact (Below.refl _ _).alloc (Nat.le_refl _) _
          have h13 := HB2.out.trans (h23.mono HB2.out.size)
          have HB3 := Lib.hid (HB1.out.trans (h13.mono HB1.out.size))
          have HZ3 := Lib.hid (heap_below h13 HZ1.out)
          have HG3 := Lib.hid (show Glob w3.drew from HG1.out.below h13.drew HG1.out.1)
          have RX := Lib.hid (show w3.drew.rangeAt bx (ox + q.length * 32) (x.map bv) from range_belowT HR1.out h13.drew hbx)
          have HXb := Lib.hid (show bx < w3.drew.heap.size from Nat.lt_of_lt_of_le hbx h13.size)
          have RY := Lib.hid (show w3.drew.rangeAt w2.heap.size 0 (y.map bv) from range_rowB (show w3.heap[w2.heap.size]? = some (.cells (y.map bv).toArray 24 (0, 0)) by rw [hw3]; exact heap_alloc_new w2 _))
          have HY := Lib.hid (show w2.heap.size < w3.drew.heap.size by show w2.heap.size < w3.heap.size; rw [hw3]; simp)
          rw [← hw3]
          clear hw3 h23 h13
          refine wp_region_rel_tail 9 89 (by kernel_rfl) (by kernel_rfl) Stp [.one ?_, .one ?_, .one ?_, .one ?_, .one ?_, .one ?_, .one ?_, .one ?_, .one ?_] (by kernel_rfl) rfl (by kernel_rfl) Stp.refl Stp.trans trivial ?main
          case main =>
          simp only [List.take_succ_cons, List.take_zero, List.drop_succ_cons, List.drop_zero]
          iterate 1
            refine wpR_one (A' := ?_) Stp.refl (by rfl) _ rfl 89 (by rfl) (by rfl) ?_ ?_ ?_
            rotate_left 1
            · simp only [Act.put, List.setIfInBounds_toArray, List.set_cons_zero, List.set_cons_succ]; rfl
            · intro w1 hs hf K hK
              go_big_quiet_op
              first
                | go_big_quiet_on
                | (refine ⟨_, fun _ _ => rfl, ?_⟩; go_big_quiet_on)
              rfl
          refine wpR_one (A' := ?_) Stp.refl (by rfl) _ rfl 89 (by rfl) (by rfl) ?_ ?_ ?_
          rotate_left 1
          · simp only [Act.put, List.setIfInBounds_toArray, List.set_cons_zero, List.set_cons_succ]; rfl
          · intro w1 hs hf K hK
            refine cls_load 24 (.tmp 12) rfl (w2.heap.size) (0) rfl (y.map bv) _ (fun w4 h2 => range_belowT (range_belowT RY.out hs HY.out) h2 (Nat.lt_of_lt_of_le HY.out (Below.size hs))) Tryd.underlying24 rfl Y1.out ?_
            refine hK _ ?_
            simp only [Act.put, List.setIfInBounds_toArray, List.set_cons_zero, List.set_cons_succ]
            rfl
          iterate 3
            refine wpR_one (A' := ?_) Stp.refl (by rfl) _ rfl 89 (by rfl) (by rfl) ?_ ?_ ?_
            rotate_left 1
            · simp only [Act.put, List.setIfInBounds_toArray, List.set_cons_zero, List.set_cons_succ]; rfl
            · intro w1 hs hf K hK
              go_big_quiet_op
              first
                | go_big_quiet_on
                | (refine ⟨_, fun _ _ => rfl, ?_⟩; go_big_quiet_on)
              rfl
          refine wpR_one (A' := ?_) Stp.refl (by rfl) _ rfl 89 (by rfl) (by rfl) ?_ ?_ ?_
          rotate_left 1
          · simp only [Act.put, List.setIfInBounds_toArray, List.set_cons_zero, List.set_cons_succ]; rfl
          · intro w1 hs hf K hK
            refine cls_load 24 (.tmp 61) rfl (bx) (ox + q.length * 32) rfl (x.map bv) _ (fun w4 h2 => range_belowT (range_belowT RX.out hs HXb.out) h2 (Nat.lt_of_lt_of_le HXb.out (Below.size hs))) Tryd.underlying24 rfl X1.out ?_
            refine hK _ ?_
            simp only [Act.put, List.setIfInBounds_toArray, List.set_cons_zero, List.set_cons_succ]
            rfl
          refine wpR_one (A' := ?_) Stp.refl (by rfl) _ rfl 89 (by rfl) (by rfl) ?_ ?_ ?_
          rotate_left 1
          · simp only [Act.put, List.setIfInBounds_toArray, List.set_cons_zero, List.set_cons_succ]; rfl
          · intro w1 hs hf K hK
            have hg1 := Lib.hid (glob_stp HG3.out hs)
            go_big_quiet_op
            apply Exists.intro
            refine ⟨fun w4 h2 => ?_, ?_⟩
            · refine (J.out w4 (glob_stp hg1.out h2)).mono ?_
              rintro e w3 ⟨rfl, h3⟩
              exact ⟨rfl, Stp.trans _ _ _ h2 h3⟩
            · go_big_quiet_on
              rfl
          iterate 2
            refine wpR_one (A' := ?_) Stp.refl (by rfl) _ rfl 89 (by rfl) (by rfl) ?_ ?_ ?_
            rotate_left 1
            · simp only [Act.put, List.setIfInBounds_toArray, List.set_cons_zero, List.set_cons_succ]; rfl
            · intro w1 hs hf K hK
              go_big_quiet_op
              first
                | go_big_quiet_on
                | (refine ⟨_, fun _ _ => rfl, ?_⟩; go_big_quiet_on)
              rfl
          intro w9 hs hf
          have HB9 := Lib.hid (stp_start hs HB3.out)
          have HZ9 := Lib.hid (heap_below hs HZ3.out)
          clear hs hf
          go_wp2_with (refine wpList_store_row rfl _ _ _ rfl w.heap.size (z.map bv).toArray rfl rfl _ ZIdT HZ9.out H1.out H2.out H3.out ?_)
          have hA2 := setRow_heap w9 w.heap.size ZIdT (z.map bv).toArray 24 (0, 0) HZ9.out
          refine bodyPost_ret (v := .tuple #[.agg (z.map bv).toArray, .bool ob2]) ?_ rfl ⟨rfl, below_setRow HB9.out (Nat.le_refl _) _⟩
          exact results_twoT Tryd.results69 _ _ w.heap.size _ (z.map bv).toArray (0, 0) _ _ rfl rfl hA2 Tryd.underlying24 rfl H1.out
        · have ce := climbD_high h2 hk hkh hn (leaf := b) (p := q) (x := x)
          have IH := Lib.hid (fun (w : World) (h1 : IdsAt w (some ⟨bx, ox, none⟩) q) (h2 : Bts w A b) (h3 : Glob w) => ih (n - hp n) (k - hp n) q (some ⟨bx, ox, none⟩) c' w (by omega) (by omega) (by omega) (by omega) (by omega) h1 h2 h3)
          have hy32 : ((climbD b (k - hp n) (n - hp n) q).getD (zeros 32)).length = 32 := getD_len32
          obtain ⟨o, ho⟩ : ∃ o, o = climbD b (k - hp n) (n - hp n) q := ⟨_, rfl⟩
          rw [← ho] at ce hy32 IH
          rw [ce]
          obtain ⟨y, hy⟩ : ∃ y, y = o.getD (zeros 32) := ⟨_, rfl⟩
          obtain ⟨ob, hob⟩ : ∃ ob, ob = o.isSome := ⟨_, rfl⟩
          have er : (o.map fun d => nodeD x d) = if ob = true then some (nodeD x y) else none := by
            rw [hob, hy]; cases o <;> rfl
          have ea : ansV o = .tuple #[.agg (y.map bv).toArray, .bool ob] := by rw [hy, hob]; rfl
          rw [er]
          rw [ea] at IH
          rw [← hy] at hy32
          obtain ⟨o2, ho2⟩ : ∃ o2, o2 = (if ob = true then some (nodeD x y) else none) := ⟨_, rfl⟩
          have J := Lib.hid (fun (w : World) (hG : Glob w) => joinedIf_any ob x y w hx32 hy32 hG)
          rw [← ho2] at J ⊢
          have h232 : (o2.getD (zeros 32)).length = 32 := by
            rw [ho2]; split
            · exact nodeD_len _ _
            · rfl
          obtain ⟨z, hz⟩ : ∃ z, z = o2.getD (zeros 32) := ⟨_, rfl⟩
          obtain ⟨ob2, hob2⟩ : ∃ ob, ob = o2.isSome := ⟨_, rfl⟩
          have ea2 : ansV o2 = .tuple #[.agg (z.map bv).toArray, .bool ob2] := by rw [hz, hob2]; rfl
          rw [ea2] at J ⊢
          rw [← hz] at h232
          have D1 := Lib.hid (show (Tryd.prog.info? 24).map (·.size) = some ((y.map bv).toArray).size by simp only [List.size_toArray, List.length_map, hy32]; kernel_rfl)
          have D2 := Lib.hid (show ZIdT.size = ((y.map bv).toArray).size by simp only [List.size_toArray, List.length_map, hy32]; rfl)
          have D3 := Lib.hid (bvs_one y)
          have H1 := Lib.hid (show (Tryd.prog.info? 24).map (·.size) = some ((z.map bv).toArray).size by simp only [List.size_toArray, List.length_map, h232]; kernel_rfl)
          have H2 := Lib.hid (show ZIdT.size = ((z.map bv).toArray).size by simp only [List.size_toArray, List.length_map, h232]; rfl)
          have H3 := Lib.hid (bvs_one z)
          have X1 := Lib.hid (show (Tryd.prog.info? 24).map (·.size) = some (x.map bv).length by rw [List.length_map, hx32]; kernel_rfl)
          have Y1 := Lib.hid (show (Tryd.prog.info? 24).map (·.size) = some (y.map bv).length by rw [List.length_map, hy32]; kernel_rfl)
          have hkI : decide ((k : Int) < (hp n : Int)) = false := by rw [decide_eq_false_iff_not]; omega
          have s1 : ((k - hp n : Nat) : Int) = (k : Int) - (hp n : Int) := by omega
          have s2 : ((n - hp n : Nat) : Int) = (n : Int) - (hp n : Int) := by omega
          rw [s1, s2] at IH
          clear s1 s2
          clear ce ih er ea ea2 ho hy hob ho2 hz hob2 hx32 hy32 h232 HI1 hlen
          generalize hp n = h at *
          go_enter Tryd.func69, Tryd.ntmps69
          go_upto_region 1 with fail
          rw [← hw1]
          clear hw1
          go_upto_region 12 with (first
            | (go_at_call 74; refine (F.out _).mono ?_; rintro e w' ⟨rfl, rfl⟩)
            | (go_at_call 69; refine (IH.out _ HIq.out HX1.out HG1.out).mono ?_; rintro e w2 ⟨rfl, hb2⟩; have HB2 := Lib.hid hb2; clear hb2)
            | (refine wpList_store_row rfl _ _ _ rfl w2.heap.size (y.map bv).toArray rfl rfl 24 _ (heap_alloc_new w2 _) D1.out D2.out D3.out ?_; rw [World.setRow_alloc_new]))
          obtain ⟨w3, hw3⟩ : ∃ w3, w3 = w2.alloc (.cells (y.map bv).toArray 24) := ⟨_, rfl⟩
          have h23 : Below w2.heap.size w2 w3 := by rw [hw3]; exact (Below.refl _ _).alloc (Nat.le_refl _) _
          have h13 := HB2.out.trans (h23.mono HB2.out.size)
          have HB3 := Lib.hid (HB1.out.trans (h13.mono HB1.out.size))
          have HZ3 := Lib.hid (heap_below h13 HZ1.out)
          have HG3 := Lib.hid (show Glob w3.drew from HG1.out.below h13.drew HG1.out.1)
          have RX := Lib.hid (show w3.drew.rangeAt bx (ox + q.length * 32) (x.map bv) from range_belowT HR1.out h13.drew hbx)
          have HXb := Lib.hid (show bx < w3.drew.heap.size from Nat.lt_of_lt_of_le hbx h13.size)
          have RY := Lib.hid (show w3.drew.rangeAt w2.heap.size 0 (y.map bv) from range_rowB (show w3.heap[w2.heap.size]? = some (.cells (y.map bv).toArray 24 (0, 0)) by rw [hw3]; exact heap_alloc_new w2 _))
          have HY := Lib.hid (show w2.heap.size < w3.drew.heap.size by show w2.heap.size < w3.heap.size; rw [hw3]; simp)
          rw [← hw3]
          clear hw3 h23 h13
          refine wp_region_rel_tail 9 89 (by kernel_rfl) (by kernel_rfl) Stp [.one ?_, .one ?_, .one ?_, .one ?_, .one ?_, .one ?_, .one ?_, .one ?_, .one ?_] (by kernel_rfl) rfl (by kernel_rfl) Stp.refl Stp.trans trivial ?main
          case main =>
          simp only [List.take_succ_cons, List.take_zero, List.drop_succ_cons, List.drop_zero]
          iterate 4
            refine wpR_one (A' := ?_) Stp.refl (by rfl) _ rfl 89 (by rfl) (by rfl) ?_ ?_ ?_
            rotate_left 1
            · simp only [Act.put, List.setIfInBounds_toArray, List.set_cons_zero, List.set_cons_succ]; rfl
            · intro w1 hs hf K hK
              go_big_quiet_op
              first
                | go_big_quiet_on
                | (refine ⟨_, fun _ _ => rfl, ?_⟩; go_big_quiet_on)
              rfl
          refine wpR_one (A' := ?_) Stp.refl (by rfl) _ rfl 89 (by rfl) (by rfl) ?_ ?_ ?_
          rotate_left 1
          · simp only [Act.put, List.setIfInBounds_toArray, List.set_cons_zero, List.set_cons_succ]; rfl
          · intro w1 hs hf K hK
            refine cls_load 24 (.tmp 83) rfl (bx) (ox + q.length * 32) rfl (x.map bv) _ (fun w4 h2 => range_belowT (range_belowT RX.out hs HXb.out) h2 (Nat.lt_of_lt_of_le HXb.out (Below.size hs))) Tryd.underlying24 rfl X1.out ?_
            refine hK _ ?_
            simp only [Act.put, List.setIfInBounds_toArray, List.set_cons_zero, List.set_cons_succ]
            rfl
          refine wpR_one (A' := ?_) Stp.refl (by rfl) _ rfl 89 (by rfl) (by rfl) ?_ ?_ ?_
          rotate_left 1
          · simp only [Act.put, List.setIfInBounds_toArray, List.set_cons_zero, List.set_cons_succ]; rfl
          · intro w1 hs hf K hK
            refine cls_load 24 (.tmp 14) rfl (w2.heap.size) (0) rfl (y.map bv) _ (fun w4 h2 => range_belowT (range_belowT RY.out hs HY.out) h2 (Nat.lt_of_lt_of_le HY.out (Below.size hs))) Tryd.underlying24 rfl Y1.out ?_
            refine hK _ ?_
            simp only [Act.put, List.setIfInBounds_toArray, List.set_cons_zero, List.set_cons_succ]
            rfl
          refine wpR_one (A' := ?_) Stp.refl (by rfl) _ rfl 89 (by rfl) (by rfl) ?_ ?_ ?_
          rotate_left 1
          · simp only [Act.put, List.setIfInBounds_toArray, List.set_cons_zero, List.set_cons_succ]; rfl
          · intro w1 hs hf K hK
            have hg1 := Lib.hid (glob_stp HG3.out hs)
            go_big_quiet_op
            apply Exists.intro
            refine ⟨fun w4 h2 => ?_, ?_⟩
            · refine (J.out w4 (glob_stp hg1.out h2)).mono ?_
              rintro e w3 ⟨rfl, h3⟩
              exact ⟨rfl, Stp.trans _ _ _ h2 h3⟩
            · go_big_quiet_on
              rfl
          iterate 2
            refine wpR_one (A' := ?_) Stp.refl (by rfl) _ rfl 89 (by rfl) (by rfl) ?_ ?_ ?_
            rotate_left 1
            · simp only [Act.put, List.setIfInBounds_toArray, List.set_cons_zero, List.set_cons_succ]; rfl
            · intro w1 hs hf K hK
              go_big_quiet_op
              first
                | go_big_quiet_on
                | (refine ⟨_, fun _ _ => rfl, ?_⟩; go_big_quiet_on)
              rfl
          intro w9 hs hf
          have HB9 := Lib.hid (stp_start hs HB3.out)
          have HZ9 := Lib.hid (heap_below hs HZ3.out)
          clear hs hf
          go_wp2_with (refine wpList_store_row rfl _ _ _ rfl w.heap.size (z.map bv).toArray rfl rfl _ ZIdT HZ9.out H1.out H2.out H3.out ?_)
          have hA2 := setRow_heap w9 w.heap.size ZIdT (z.map bv).toArray 24 (0, 0) HZ9.out
          refine bodyPost_ret (v := .tuple #[.agg (z.map bv).toArray, .bool ob2]) ?_ rfl ⟨rfl, below_setRow HB9.out (Nat.le_refl _) _⟩
          exact results_twoT Tryd.results69 _ _ w.heap.size _ (z.map bv).toArray (0, 0) _ _ rfl rfl hA2 Tryd.underlying24 rfl H1.out
end
end Go.Proofs.YthoaaieiiokcmaaDoor
