/- The code's Climb at any place; Is. -/
import Derived.Test.YtppkjlmnnpfcfaaDoorTrL
set_option linter.unusedVariables false
namespace Go.Proofs.YtppkjlmnnpfcfaaDoor
open Go.RowKit
attribute [local go_sem ↓] loadAt_id
attribute [local go_sem] rowOf_drew rowOf_drewN run_idLoad
theorem climb_any (A : Option Addr) (c : Nat) (b : List B8) (z zn : Int) (p : List (List B8)) (A' : Option Addr) (c' : Nat) (w : World) (hc : b.length ≤ c) (hb : b.length ≤ 1000000) (hpc : p.length ≤ c') (hpm : p.length ≤ 1000000) (hI : IdsAt w A' p) (hB : Bts w A b) (hG : Glob w) :
    Calls Tryd.prog 15 #[.slice A b.length c, .int .i64 z, .int .i64 zn, .slice A' p.length c'] w fun e w' => e = .returned (ansV (climbZ b z zn p)) ∧ Below w.heap.size w w' := by
  by_cases h : 0 ≤ z ∧ z < zn ∧ zn ≤ 1048576
  · obtain ⟨k, rfl⟩ : ∃ k : Nat, z = (k : Int) := ⟨z.toNat, by omega⟩
    obtain ⟨n, rfl⟩ : ∃ n : Nat, zn = (n : Int) := ⟨zn.toNat, by omega⟩
    rw [climbZ_nat (by omega) (by omega)]
    exact climb_nat A c b hc hb n n k p A' c' w (Nat.le_refl _) (by omega) (by omega) hpc hpm hI hB hG
  · have e : climbZ b z zn p = none := by unfold climbZ; rw [if_neg h]
    rw [e]
    exact climb_bad A A' b.length c p.length c' z zn w h
def isD (root : List B8) (o : Option (List B8)) : Bool := match o with | none => false | some d => decide (d = root)
theorem climbZ_len {b : List B8} {z zn : Int} {p : List (List B8)} : ((climbZ b z zn p).getD (zeros 32)).length = 32 := by
  unfold climbZ
  split
  · exact getD_len32
  · rfl
theorem isD_eq (root : List B8) (o : Option (List B8)) : isD root o = (o.isSome && decide (o.getD (zeros 32) = root)) := by cases o <;> simp [isD]
set_option maxRecDepth 100000 in
set_option maxHeartbeats 2000000 in
theorem is_any (root : List B8) (A : Option Addr) (c : Nat) (b : List B8) (z zn : Int) (p : List (List B8)) (A' : Option Addr) (c' : Nat) (w : World) (hr : root.length = 32) (hc : b.length ≤ c) (hb : b.length ≤ 1000000) (hpc : p.length ≤ c') (hpm : p.length ≤ 1000000) (hI : IdsAt w A' p) (hB : Bts w A b) (hG : Glob w) :
    Calls Tryd.prog 17 #[.agg (root.map bv).toArray, .slice A b.length c, .int .i64 z, .int .i64 zn, .slice A' p.length c'] w fun e w' => e = .returned (.bool (isD root (climbZ b z zn p))) ∧ Below w.heap.size w w' := by
  obtain ⟨w1, hw1⟩ : ∃ w1, w1 = w.alloc (.cells (root.map bv).toArray 26) := ⟨_, rfl⟩
  have hb1 : Below w.heap.size w w1 := by rw [hw1]; exact (Below.refl _ _).alloc (Nat.le_refl _) _
  have hz1 : w1.heap[w.heap.size]? = some (.cells (root.map bv).toArray 26 (0, 0)) := by rw [hw1]; exact heap_alloc_new w _
  have C := Lib.hid (climb_any A c b z zn p A' c' w1 hc hb hpc hpm (hI.below hb1) (hB.below hb1) (hG.below hb1 hG.1))
  have hy32 := climbZ_len (b := b) (z := z) (zn := zn) (p := p)
  rw [isD_eq]
  generalize climbZ b z zn p = o at *
  obtain ⟨y, hy⟩ : ∃ y, y = o.getD (zeros 32) := ⟨_, rfl⟩
  obtain ⟨ob, hob⟩ : ∃ ob, ob = o.isSome := ⟨_, rfl⟩
  have ea : ansV o = .tuple #[.agg (y.map bv).toArray, .bool ob] := by rw [hy, hob]; rfl
  rw [ea] at C
  rw [← hy, ← hob]
  rw [← hy] at hy32
  have HB1 := Lib.hid hb1
  have HZ1 := Lib.hid hz1
  have D1 := Lib.hid (show (Tryd.prog.info? 26).map (·.size) = some ((y.map bv).toArray).size by simp only [List.size_toArray, List.length_map, hy32]; kernel_rfl)
  have D2 := Lib.hid (show ZId.size = ((y.map bv).toArray).size by simp only [List.size_toArray, List.length_map, hy32]; rfl)
  have D3 := Lib.hid (bvs_one y)
  have S := Lib.hid (fun w => same_any y root w hy32 hr)
  have HR := Lib.hid hr
  have HY := Lib.hid hy32
  clear hb1 hz1 hI hB hG hy hob ea hr hy32
  go_enter Tryd.func17, Tryd.ntmps17
  go_upto_region 1 with fail
  rw [← hw1]
  clear hw1
  go_upto_region 2 with (first
    | (go_at_call 15; refine C.out.mono ?_; rintro e w2 ⟨rfl, hb2⟩; have HB2 := Lib.hid hb2; clear hb2)
    | (refine wpList_store_row rfl _ _ _ rfl w2.heap.size (y.map bv).toArray rfl rfl 26 _ (heap_alloc_new w2 _) D1.out D2.out D3.out ?_; rw [World.setRow_alloc_new]))
  obtain ⟨w3, hw3⟩ : ∃ w3, w3 = w2.alloc (.cells (y.map bv).toArray 26) := ⟨_, rfl⟩
  have h23 : Below w2.heap.size w2 w3 := by rw [hw3]; exact (Below.refl _ _).alloc (Nat.le_refl _) _
  have h13 := HB2.out.trans (h23.mono HB2.out.size)
  have HB3 := Lib.hid (HB1.out.trans (h13.mono HB1.out.size))
  have r1 : rowOf w3 w2.heap.size 0 32 = some (y.map bv).toArray := rowOf_id HY.out (by rw [hw3]; exact heap_alloc_new w2 _)
  have r2 : rowOf w3 w.heap.size 0 32 = some (root.map bv).toArray := rowOf_id HR.out (heap_below h13 HZ1.out)
  rw [← hw3]
  clear hw3 h23 h13
  cases ob with
  | true =>
    go_wp2_with (go_at_call 30; refine (S.out _).mono ?_; rintro e w4 ⟨rfl, hb4⟩)
    go_ret
    exact ⟨by simp, HB3.out.trans (hb4.mono HB3.out.size)⟩
  | false =>
    go_wp2_with fail
    go_ret
    exact ⟨by simp, HB3.out⟩
end Go.Proofs.YtppkjlmnnpfcfaaDoor
