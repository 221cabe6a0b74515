/- The document's digits. -/
import Derived.Test.YtoafgpoiikpcfaaDoorShaC2
import Derived.Test.YtoafgpoiikpcfaaDoorShaR2
set_option linter.unusedVariables false
namespace Go.Proofs.YtoafgpoiikpcfaaDoor
open Go.RowKit
def StopR (p : Prop) : Prop := p
theorem stopR {p : Prop} (h : StopR p) : p := h
theorem info_u64 : (Tryd.prog.info? 37).map (fun i => (i.zero, i.size, i.bytes)) = some (some (.int .u64 0), 1, 8) := by kernel_rfl
theorem uv_one (l : List Nat) : ∀ u ∈ l.map uv64, u.oneCell' = true := by
  intro u hu; simp only [List.mem_map] at hu; obtain ⟨q, _, rfl⟩ := hu; rfl
theorem own_lower {w : World} {base base' n : Nat} {e : TypeId} {v : Value} {xs : List Value} (ho : w.ownsRow base e 1 v n xs) (hb : base' ≤ base) : w.ownsRow base' e 1 v n xs := by
  obtain ⟨h1, h2⟩ := ho
  refine ⟨h1, ?_⟩
  rcases h2 with h2 | ⟨g, cap, cur, rfl, hg, hh, r⟩
  · exact .inl h2
  · exact .inr ⟨g, cap, cur, rfl, by omega, hh, r⟩
theorem own_below' {w w' : World} {B : Nat} {e : TypeId} {s n : Nat} {v : Value} {xs : List Value} (h : w.ownsRow B e s v n xs) (hb : Below w.heap.size w w') : w'.ownsRow B e s v n xs := by
  refine ⟨h.1, ?_⟩
  rcases h.2 with hn | ⟨g, cap, cur, rfl, hB, hgg, rest⟩
  · exact .inl hn
  · exact .inr ⟨g, cap, cur, rfl, hB, (hb.block g (lt_of_block hgg)).trans hgg, rest⟩
theorem digL_at (x k : Nat) (hk : k < 4) : (digL x)[k]? = some (x / 65536 ^ k % 65536) := by
  have h : k = 0 ∨ k = 1 ∨ k = 2 ∨ k = 3 := by omega
  rcases h with rfl | rfl | rfl | rfl
  · simp [digL]
  · simp [digL]
  · simp [digL, Nat.div_div_eq_div_mul]
  · simp [digL, Nat.div_div_eq_div_mul]
set_option maxRecDepth 10000 in
theorem digits_any (x : Nat) (w : World) (hx : x < 18446744073709551616) : Calls Tryd.prog 21 #[.int .u64 (x : Int)] w fun e w' => ∃ v, e = .returned v ∧ w'.ownsRow w.heap.size 37 1 v 4 ((digL x).map uv64) ∧ Below w.heap.size w w' := by
  obtain ⟨i0, hi, hz0, hz1, hz2⟩ := info_parts info_u64
  go_enter Tryd.func21, Tryd.ntmps21
  go_wp2
  go_loopw [0, 3, 4] (fun xv v i wr => ∃ k y : Nat, k ≤ 4 ∧ i = .int .i64 (k : Int) ∧ xv = .int .u64 (y : Int) ∧ y = x / 65536 ^ k ∧ wr.ownsRow w.heap.size 37 1 v k (((digL x).take k).map uv64) ∧ Below w.heap.size w wr) (fun _ _ i _ => 4 - (intOf i).toNat)
  case atStart => exact ⟨0, x, by omega, rfl, rfl, by simp, World.ownsRow_nil _ _ _ _, Below.refl _ _⟩
  case round =>
    obtain ⟨k, y, hk, rfl, rfl, hy, ho, hb⟩ := hrel
    have hyx : y < 18446744073709551616 := by rw [hy]; exact Nat.lt_of_le_of_lt (Nat.div_le_self _ _) hx
    by_cases hlt : k < 4
    · have HT := Lib.hid (show (digL x).take (k + 1) = (digL x).take k ++ [y % 65536] by
        rw [List.take_add_one, digL_at x k hlt, hy]; rfl)
      have HY := Lib.hid (show y / 65536 = x / 65536 ^ (k + 1) by rw [hy, Nat.div_div_eq_div_mul, Nat.pow_succ])
      have HO := Lib.hid ho
      have HB := Lib.hid hb
      have hsz : w.heap.size ≤ wr.heap.size := hb.size
      have hd : ((y : Int) % 65536) = ((y % 65536 : Nat) : Int) := by omega
      have HDd := Lib.hid hd
      clear hy ho hb hd
      go_wp2_with (at_builtin; refine stopR ?_)
      unfold StopR
      rw [HDd.out]
      have ha : Below wr.heap.size wr (wr.alloc (.cells #[.int .u64 ((y % 65536 : Nat) : Int)] 37)) := (Below.refl _ _).alloc (Nat.le_refl _) _
      have HO2 := Lib.hid (own_below' HO.out ha)
      have HB2 := Lib.hid (HB.out.trans (ha.mono hsz))
      clear ha
      refine wpList_append_any (o := ⟨some 13, _, _, _, _, _⟩) rfl _ _ 55 rfl w.heap.size 37 i0 (.int .u64 0) 8 Tryd.underlying55 hi hz0 hz1 hz2 rfl _ k _ rfl HO2.out (some ⟨wr.heap.size, 0, none⟩) 1 1 [uv64 (y % 65536)] rfl (fun h => by cases h) rfl ?_ (uv_one [y % 65536]) ?_ ?_ ?_ ?_
      · intro j u hu
        refine ⟨_, rfl, ?_⟩
        match j, hu with
        | 0, hu =>
          obtain rfl : uv64 (y % 65536) = u := by simpa using hu
          show World.cell? _ ⟨wr.heap.size, 0, none⟩ = _
          rw [cell_of_row _ _ _ _ _ _ (heap_alloc_new wr _)]; rfl
      · unfold maxLen; omega
      · omega
      · simp; omega
      intro v3 w3 g1 g2
      have HO3 := Lib.hid (show w3.ownsRow w.heap.size 37 1 v3 (k + 1) (((digL x).take (k + 1)).map uv64) by rw [HT.out, List.map_append]; exact g1)
      have HB3 := Lib.hid (HB2.out.grown g2 (by simp; omega) (fun k hk => (HO2.out.lt k hk).1))
      clear g1 g2
      go_wp2_with fail
      go_roundw
      case rel => exact ⟨k + 1, y / 65536, by omega, by go_num, by go_num, HY.out, HO3.out, HB3.out⟩
      case measure => simp [intOf]; omega
    · obtain rfl : k = 4 := by omega
      have HO := Lib.hid ho
      have HB := Lib.hid hb
      clear ho hb
      go_wp2_with fail
      go_ret
      exact ⟨_, rfl, HO.out, HB.out⟩
end Go.Proofs.YtoafgpoiikpcfaaDoor
