/- Digests that lie in a slice; the code's climbOne and joinedIf. -/
import Derived.Test.YtppkjlmnnpfcfaaDoorTrI
import Derived.Laws.ResultCell
set_option linter.unusedVariables false
namespace Go.Proofs.YtppkjlmnnpfcfaaDoor
open Go.RowKit
attribute [local go_sem ↓] loadAt_id
attribute [local go_sem] rowOf_drew rowOf_drewN run_idLoad
/-- Digests that lie in a slice. -/
def IdsAt (w : World) (A : Option Addr) (ds : List (List B8)) : Prop := ∀ (i : Nat) (d : List B8), ds[i]? = some d → d.length = 32 ∧ ∃ b o, A = some ⟨b, o, none⟩ ∧ b < w.heap.size ∧ w.rangeAt b (o + i * 32) (d.map bv)
theorem range_below {w w' : World} {b o : Nat} {cs : List Value} (h : w.rangeAt b o cs) (hb : Below w.heap.size w w') (hlt : b < w.heap.size) : w'.rangeAt b o cs := fun j v hj => (hb.cell hlt).trans (h j v hj)
theorem IdsAt.below {w w' : World} {A : Option Addr} {ds : List (List B8)} (h : IdsAt w A ds) (hb : Below w.heap.size w w') : IdsAt w' A ds := fun i d hi => by
  obtain ⟨h1, b, o, e, hlt, hr⟩ := h i d hi
  exact ⟨h1, b, o, e, Nat.lt_of_lt_of_le hlt hb.size, range_below hr hb hlt⟩
theorem idsAt_stp {w w' : World} {A : Option Addr} {ds : List (List B8)} (h : IdsAt w A ds) (hs : Stp w w') : IdsAt w' A ds := h.below hs
theorem IdsAt.front {w : World} {A : Option Addr} {ds : List (List B8)} (h : IdsAt w A ds) (n : Nat) : IdsAt w A (ds.take n) := fun i d hi => by
  rw [List.getElem?_take] at hi
  split at hi
  · exact h i d hi
  · cases hi
theorem IdsAt.row {w : World} {A : Option Addr} {ds : List (List B8)} (h : IdsAt w A ds) {i : Nat} {d : List B8} (hi : ds[i]? = some d) : ∃ b o, A = some ⟨b, o, none⟩ ∧ b < w.heap.size ∧ rowOf w b (o + i * 32) 32 = some (d.map bv).toArray := by
  obtain ⟨h1, b, o, e, hlt, hr⟩ := h i d hi
  exact ⟨b, o, e, hlt, rowOf_eq (by simp [h1]) hr⟩
theorem idsV_at : ∀ (ds : List (List B8)) (h : ∀ d ∈ ds, d.length = 32) (i : Nat) (d : List B8), ds[i]? = some d → ∀ j, j < 32 → (idsV ds)[i * 32 + j]? = (d.map bv)[j]?
  | [], _, i, d, hi, _, _ => by simp at hi
  | x :: l, h, 0, d, hi, j, hj => by
    obtain rfl : x = d := by simpa using hi
    have hx := h x (by simp)
    unfold idsV
    rw [List.flatMap_cons, List.getElem?_append_left (by simp [hx]; omega)]
    congr 1; omega
  | x :: l, h, i + 1, d, hi, j, hj => by
    have hx := h x (by simp)
    have := idsV_at l (fun y hy => h y (by simp [hy])) i d (by simpa using hi) j hj
    unfold idsV at *
    rw [List.flatMap_cons, List.getElem?_append_right (by simp [hx]; omega), List.length_map, hx, show (i + 1) * 32 + j - 32 = i * 32 + j by omega]
    exact this
/-- A row of one's own, read as digests. -/
theorem IdsAt.of_own {w : World} {B n : Nat} {A : Option Addr} {c : Nat} {ds : List (List B8)} (h : w.ownsRow B 26 32 (.slice A n c) n (idsV ds)) (hd : ∀ d ∈ ds, d.length = 32) : IdsAt w A ds := fun i d hi => by
  have hlen := idsV_len ds hd
  have hlt := (List.getElem?_eq_some_iff.1 hi).1
  refine ⟨hd d (List.mem_of_getElem? hi), ?_⟩
  rcases h.2 with ⟨e, hn⟩ | ⟨g, cap, cur, e, hg, hh, r⟩
  · exfalso
    have := h.1
    omega
  · injection e with e1 e2 e3
    refine ⟨g, 0, e1, lt_of_block hh, fun j v hj => ?_⟩
    have hj32 : j < 32 := by have := (List.getElem?_eq_some_iff.1 hj).1; simp [hd d (List.mem_of_getElem? hi)] at this; omega
    subst e1
    have h2 := h.cells (g := g) rfl (i * 32 + j) v (by rw [idsV_at ds hd i d hi j hj32]; exact hj)
    have e4 : (⟨g, 0, none⟩ : Addr).add (i * 32 + j) = ⟨g, 0 + i * 32 + j, none⟩ := by unfold Addr.add; split <;> simp_all
    rw [e4] at h2; exact h2
theorem own_cap_id {w : World} {B : Nat} {n cap : Nat} {A : Option Addr} {xs : List Value} (h : w.ownsRow B 26 32 (.slice A n cap) n xs) : n ≤ cap ∧ (A = none → cap = 0) := by
  rcases h.2 with ⟨e, h0⟩ | ⟨g, cap', cur, e, _, _, hc, _⟩
  · injection e with e1 e2 e3; subst e1; subst e3; exact ⟨by omega, fun _ => rfl⟩
  · injection e with e1 e2 e3; subst e1; subst e3; exact ⟨hc, fun h => by cases h⟩
theorem own_slice {w : World} {B e s n : Nat} {v : Value} {xs : List Value} (h : w.ownsRow B e s v n xs) : ∃ A c, v = .slice A n c := by
  rcases h.2 with ⟨e, h0⟩ | ⟨g, cap', cur, e, _⟩
  · exact ⟨none, 0, by rw [e, h0]⟩
  · exact ⟨_, _, e⟩
theorem results_two {P : Program} {fn : Func} {p u : Tmp} {ty : TypeId} (h : fn.results = #[.cell p ty, .tmp u]) (tmps : Array Value) (w : World) (g : Nat) (t : TypeId) (cs : Array Value) (fr : Nat × Nat) (d : TypeDesc) (v : Value)
    (hp : tmps.getD p undef = .pointer (some ⟨g, 0, none⟩)) (hv : tmps.getD u undef = v) (hg : w.heap[g]? = some (.cells cs t fr))
    (hu : P.underlying ty = some d) (hd : (match d with | .struct _ | .array _ _ => true | _ => false) = true) (hi : (P.info? ty).map (·.size) = some cs.size) :
    (results fn tmps).run P w = .ok (.tuple #[.agg cs, v]) w := by
  rw [results_cell_tmp h, hp, hv]
  simp [asAddr, run_loadVar_row w g t ty cs fr d hg hu hd hi, Result.andThen]
/-- What a climb hands back. -/
def ansV (o : Option (List B8)) : Value := .tuple #[.agg ((o.getD (zeros 32)).map bv).toArray, .bool o.isSome]
theorem ansV_none : ansV none = .tuple #[.agg ZId, .bool false] := rfl
theorem info_z : (Tryd.prog.info? 26).map (·.size) = some ZId.size := by kernel_rfl
set_option maxRecDepth 100000 in
set_option maxHeartbeats 2000000 in
theorem climbOne_any (A A' : Option Addr) (c c' n : Nat) (b : List B8) (w : World) (hB : Bts w A b) (hc : b.length ≤ c) (hG : Glob w) (hb : b.length ≤ 1000000) (hn : n ≤ maxLen) :
    Calls Tryd.prog 28 #[.slice A b.length c, .slice A' n c'] w fun e w' => e = .returned (ansV (if n = 0 then some (leafD b) else none)) ∧ Below w.heap.size w w' := by
  unfold maxLen at hn
  obtain ⟨w1, hw1⟩ : ∃ w1, w1 = w.alloc (.cells ZId 26) := ⟨_, rfl⟩
  have hb1 : Below w.heap.size w w1 := by rw [hw1]; exact (Below.refl _ _).alloc (Nat.le_refl _) _
  have hz1 : w1.heap[w.heap.size]? = some (.cells ZId 26 (0, 0)) := by rw [hw1]; exact heap_alloc_new w _
  have HB1 := Lib.hid hb1
  have HZ1 := Lib.hid hz1
  by_cases h0 : n = 0
  · rw [if_pos h0]
    subst h0
    obtain ⟨C, hC⟩ : ∃ C, C = ((leafD b).map bv).toArray := ⟨_, rfl⟩
    have hC32 : C.size = 32 := by rw [hC]; simp [leafD_len]
    have H3 := Lib.hid (show C.all (·.oneCell') = true by rw [hC]; exact bvs_one _)
    have H1 := Lib.hid (show (Tryd.prog.info? 26).map (·.size) = some C.size by rw [hC32]; kernel_rfl)
    have H2 := Lib.hid (show ZId.size = C.size by rw [hC32]; rfl)
    have R := Lib.hid (rootOfOne_any A c b w1 (hB.below hb1) hc (hG.below hb1 hG.1) (by omega))
    rw [← hC] at R
    have ea : ansV (some (leafD b)) = .tuple #[.agg C, .bool true] := by rw [hC]; rfl
    rw [ea]
    clear hb1 hz1 hB hG hC hC32 ea
    go_enter Tryd.func28, Tryd.ntmps28
    go_upto_region 1 with fail
    rw [← hw1]
    clear hw1
    go_wp2_with (go_at_call 21; refine stop ?_)
    unfold Stop
    refine R.out.mono ?_
    rintro e w2 ⟨rfl, hb3⟩
    have HA := Lib.hid (heap_below hb3 HZ1.out)
    have HB3 := Lib.hid (HB1.out.trans (hb3.mono HB1.out.size))
    clear hb3
    go_wp2_with (refine wpList_store_row rfl _ _ _ rfl w.heap.size C rfl rfl _ ZId HA.out H1.out H2.out H3.out ?_)
    have hA2 := setRow_heap w2 w.heap.size ZId C 26 (0, 0) HA.out
    refine bodyPost_ret (v := .tuple #[.agg C, .bool true]) ?_ rfl ⟨rfl, below_setRow HB3.out (Nat.le_refl _) C⟩
    exact results_two Tryd.results28 _ _ w.heap.size _ C (0, 0) _ _ rfl rfl hA2 Tryd.underlying26 rfl H1.out
  · rw [if_neg h0, ansV_none]
    have h0' : 0 < n := by omega
    have H1 := Lib.hid info_z
    have H3 := Lib.hid (show ZId.all (·.oneCell') = true by kernel_rfl)
    clear hb1 hz1 hB hG h0
    go_enter Tryd.func28, Tryd.ntmps28
    go_upto_region 1 with fail
    rw [← hw1]
    clear hw1
    go_wp2_with (refine wpList_store_row rfl _ _ _ rfl w.heap.size ZId rfl rfl _ ZId HZ1.out H1.out rfl H3.out ?_)
    have hA2 := setRow_heap w1 w.heap.size ZId ZId 26 (0, 0) HZ1.out
    refine bodyPost_ret (v := .tuple #[.agg ZId, .bool false]) ?_ rfl ⟨rfl, below_setRow HB1.out (Nat.le_refl _) ZId⟩
    exact results_two Tryd.results28 _ _ w.heap.size _ ZId (0, 0) _ _ rfl rfl hA2 Tryd.underlying26 rfl H1.out
set_option maxRecDepth 100000 in
set_option maxHeartbeats 2000000 in
theorem joinedIf_any (ok : Bool) (a b : List B8) (w : World) (ha : a.length = 32) (hb : b.length = 32) (hG : Glob w) :
    Calls Tryd.prog 29 #[.bool ok, .agg (a.map bv).toArray, .agg (b.map bv).toArray] w fun e w' => e = .returned (ansV (if ok then some (nodeD a b) else none)) ∧ Below w.heap.size w w' := by
  obtain ⟨w1, hw1⟩ : ∃ w1, w1 = ((w.alloc (.cells (a.map bv).toArray 26)).alloc (.cells (b.map bv).toArray 26)).alloc (.cells ZId 26) := ⟨_, rfl⟩
  have hb1 : Below w.heap.size w w1 := by rw [hw1]; exact (((Below.refl _ _).alloc (Nat.le_refl _) _).alloc (by simp) _).alloc (by simp; omega) _
  have hs2 : ((w.alloc (.cells (a.map bv).toArray 26)).alloc (.cells (b.map bv).toArray 26)).heap.size = w.heap.size + 2 := by simp
  have hz1 : w1.heap[w.heap.size + 2]? = some (.cells ZId 26 (0, 0)) := by rw [hw1, ← hs2]; exact heap_alloc_new _ _
  have hlast : Below ((w.alloc (.cells (a.map bv).toArray 26)).alloc (.cells (b.map bv).toArray 26)).heap.size ((w.alloc (.cells (a.map bv).toArray 26)).alloc (.cells (b.map bv).toArray 26)) w1 := by rw [hw1]; exact (Below.refl _ _).alloc (Nat.le_refl _) _
  have ra1 : rowOf w1 w.heap.size 0 32 = some (a.map bv).toArray := rowOf_id ha (heap_below hlast (heap_alloc2_old w _ _))
  have rb1 : rowOf w1 (w.heap.size + 1) 0 32 = some (b.map bv).toArray := rowOf_id hb (heap_below hlast (heap_alloc2_new w _ _))
  have HB1 := Lib.hid hb1
  have HZ1 := Lib.hid hz1
  have HG1 := Lib.hid (show Glob w1 from hG.below hb1 hG.1)
  cases ok with
  | true =>
    obtain ⟨C, hC⟩ : ∃ C, C = ((nodeD a b).map bv).toArray := ⟨_, rfl⟩
    have hC32 : C.size = 32 := by rw [hC]; simp [nodeD_len]
    have H3 := Lib.hid (show C.all (·.oneCell') = true by rw [hC]; exact bvs_one _)
    have H1 := Lib.hid (show (Tryd.prog.info? 26).map (·.size) = some C.size by rw [hC32]; kernel_rfl)
    have H2 := Lib.hid (show ZId.size = C.size by rw [hC32]; rfl)
    have J := Lib.hid (joined_any a b w1 ha hb HG1.out)
    have ea : ansV (if true = true then some (nodeD a b) else none) = .tuple #[.agg C, .bool true] := by rw [hC]; rfl
    rw [ea]
    rw [← hC] at J
    clear hb1 hz1 hG hC hC32 ea hlast hs2 ha hb
    go_enter Tryd.func29, Tryd.ntmps29
    go_upto_region 1 with fail
    change Code.wp _ _ _ _ (((w.alloc (.cells (a.map bv).toArray 26)).alloc (.cells (b.map bv).toArray 26)).alloc (.cells ZId 26))
    rw [← hw1]
    clear hw1
    go_wp2_with (go_at_call 23; refine stop ?_)
    unfold Stop
    refine J.out.mono ?_
    rintro e w2 ⟨rfl, hb3⟩
    have HA := Lib.hid (heap_below hb3 HZ1.out)
    have HB3 := Lib.hid (HB1.out.trans (hb3.mono HB1.out.size))
    clear hb3
    go_wp2_with (refine wpList_store_row rfl _ _ _ rfl (w.heap.size + 2) C rfl rfl _ ZId HA.out H1.out H2.out H3.out ?_)
    have hA2 := setRow_heap w2 (w.heap.size + 2) ZId C 26 (0, 0) HA.out
    refine bodyPost_ret (v := .tuple #[.agg C, .bool true]) ?_ rfl ⟨rfl, below_setRow HB3.out (by omega) C⟩
    exact results_two Tryd.results29 _ _ (w.heap.size + 2) _ C (0, 0) _ _ rfl rfl hA2 Tryd.underlying26 rfl H1.out
  | false =>
    rw [if_neg (by decide), ansV_none]
    have H1 := Lib.hid info_z
    have H3 := Lib.hid (show ZId.all (·.oneCell') = true by kernel_rfl)
    clear hb1 hz1 hG hlast hs2 ha hb
    go_enter Tryd.func29, Tryd.ntmps29
    go_upto_region 1 with fail
    change Code.wp _ _ _ _ (((w.alloc (.cells (a.map bv).toArray 26)).alloc (.cells (b.map bv).toArray 26)).alloc (.cells ZId 26))
    rw [← hw1]
    clear hw1
    go_wp2_with (refine wpList_store_row rfl _ _ _ rfl (w.heap.size + 2) ZId rfl rfl _ ZId HZ1.out H1.out rfl H3.out ?_)
    have hA2 := setRow_heap w1 (w.heap.size + 2) ZId ZId 26 (0, 0) HZ1.out
    refine bodyPost_ret (v := .tuple #[.agg ZId, .bool false]) ?_ rfl ⟨rfl, below_setRow HB1.out (by omega) ZId⟩
    exact results_two Tryd.results29 _ _ (w.heap.size + 2) _ ZId (0, 0) _ _ rfl rfl hA2 Tryd.underlying26 rfl H1.out
end Go.Proofs.YtppkjlmnnpfcfaaDoor
