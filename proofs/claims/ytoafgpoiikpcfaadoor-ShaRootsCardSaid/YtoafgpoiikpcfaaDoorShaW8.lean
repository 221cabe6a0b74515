/- The contracts of the code's 'Hex' and 'Same'. -/
import Derived.Test.YtoafgpoiikpcfaaDoorShaW7
import Derived.Maps.AppendAt
import Derived.OwnWalk
import Derived.Deep.AppendLies
import Derived.Deep.RegionHeld3
namespace Go.Proofs.YtoafgpoiikpcfaaDoor
open Go.RowKit

def hexd (n : Nat) : UInt8 := if n < 10 then UInt8.ofNat (48 + n) else UInt8.ofNat (87 + n)
def hexs (d : List B8) : List UInt8 := d.flatMap fun x => [hexd (x.toNat / 16), hexd (x.toNat % 16)]
def idV (d : List B8) : Value := .agg (d.map bv).toArray
def uv (x : UInt8) : Value := .int .u8 ((x.toNat : Nat) : Int)
theorem info_u8 : (Tryd.prog.info? 5).map (fun i => (i.zero, i.size, i.bytes)) = some (some (.int .u8 0), 1, 1) := by kernel_rfl
theorem isAgg_u8 (w : World) : (isAgg 5).run Tryd.prog w = .ok false w := by kernel_rfl
theorem hgrow_of {B base : Nat} {w wr wd w1 : World} {o : Obj} {e : TypeId} {s n : Nat} {v : Value} {xs : List Value} (hown : wr.ownsRow base e s v n xs) (hb : Below B w wd) (hB : B ≤ wd.heap.size) (hbase : B ≤ base) (hg : (wd.alloc o).grownBy w1 v.ownBlock) : Below B w w1 :=
  (hb.alloc hB o).grown hg (Nat.le_trans hB (by simp)) (fun k hk => Nat.le_trans hbase (hown.lt k hk).1)
theorem index_id (d : List B8) (k : Nat) (hd : d.length = 32) (hk : k < 32) (w : World) : (Instr.index 25 (.agg (d.map bv).toArray) (.int .i64 (k : Int))).run Tryd.prog w = .ok (bv (d.getD k 0)) w := by
  have h2 : (0 : Int) ≤ (k : Int) ∧ (k : Int) < 32 := by omega
  have h3 : d[k]? = some (d.getD k 0) := by rw [List.getD_eq_getElem?_getD, List.getElem?_eq_getElem (by omega)]; rfl
  simp [Instr.index, asIntOf, run_underlying Tryd.underlying25, part, h2, hk]
  rw [h3]; rfl
theorem digits_at (n : Nat) (h : n < 16) (w : World) : (Instr.index 9 (.string { data := #[48, 49, 50, 51, 52, 53, 54, 55, 56, 57, 97, 98, 99, 100, 101, 102] }) (.int .u8 (n : Int))).run Tryd.prog w = .ok (uv (hexd n)) w := by
  have : n = 0 ∨ n = 1 ∨ n = 2 ∨ n = 3 ∨ n = 4 ∨ n = 5 ∨ n = 6 ∨ n = 7 ∨ n = 8 ∨ n = 9 ∨ n = 10 ∨ n = 11 ∨ n = 12 ∨ n = 13 ∨ n = 14 ∨ n = 15 := by omega
  rcases this with rfl | rfl | rfl | rfl | rfl | rfl | rfl | rfl | rfl | rfl | rfl | rfl | rfl | rfl | rfl | rfl <;> rfl
set_option maxHeartbeats 1000000 in
theorem hex_any (d : List B8) (w : World) (hd : d.length = 32) :
    Calls Tryd.prog 8 #[.agg (d.map bv).toArray] w fun e w' => e = .returned (.string ⟨(hexs d).toArray⟩) ∧ Below w.heap.size w w' := by
  obtain ⟨C, hC⟩ : ∃ C, C = (d.map bv).toArray := ⟨_, rfl⟩
  have hC32 : C.size = 32 := by rw [hC]; simp [hd]
  have H1 := Lib.hid (show (Tryd.prog.info? 25).map (·.size) = some C.size by rw [hC32]; kernel_rfl)
  have HI := Lib.hid (index_id d)
  rw [← hC] at HI ⊢
  have HD := Lib.hid hd
  have HC := Lib.hid hC
  clear hd hC hC32
  obtain ⟨i0, hi, hz0, hz1, hz2⟩ := info_parts info_u8
  go_enter Tryd.func8, Tryd.ntmps8
  go_wp2_with (at_make; refine wpList_make_own _ rfl _ _ 22 rfl (w.heap.size + 1) 5 i0 (.int .u8 0) 1 Tryd.underlying22 hi hz0 hz1 .i64 .i64 64 64 rfl rfl rfl ?b2 ?b3 ?b4 ?_)
  case b2 => rw [hz2]; omega
  case b3 => unfold maxLen; omega
  case b4 => simp
  intro w1 hown hgrow
  have hC1 := Lib.hid ((hgrow.block w.heap.size (by simp) (by intro e; cases e)).trans (heap_alloc_new w _))
  have hb1 : Below w.heap.size w w1 := ((Below.refl _ _).alloc (Nat.le_refl _) _).grown hgrow (by simp) (fun k h => by cases h)
  have hlt1 : w.heap.size + 1 ≤ w1.heap.size := by have := hgrow.size; simpa using this
  clear hgrow
  go_wp2_with (refine wpList_load_row rfl _ _ rfl w.heap.size rfl _ C (0, 0) _ hC1.out Tryd.underlying25 rfl H1.out ?_)
  have HB1 := Lib.hid hb1
  have HO := Lib.hid hown
  clear hb1 hown hC1 H1
  go_loopw [3, 5, 8] (fun v _ i wr => ∃ k : Nat, k ≤ 32 ∧ i = .int .i64 k ∧ wr.ownsRow (w.heap.size + 1) 5 1 v (2 * k) ((hexs (d.take k)).map uv) ∧ Below w.heap.size w wr) (fun _ _ i _ => 32 - (intOf i).toNat)
  case atStart => exact ⟨0, Nat.zero_le _, rfl, HO.out, HB1.out⟩
  case round =>
    clear HB1 HO
    obtain ⟨k, hk, rfl, hown, hb⟩ := hrel
    by_cases hlt : k < 32
    · obtain ⟨x, hx⟩ : ∃ x, x = d.getD k 0 := ⟨_, rfl⟩
      have hi1 := HI.out k HD.out hlt
      rw [← hx] at hi1
      obtain ⟨p, hp⟩ : ∃ p, p = x.toNat / 16 := ⟨_, rfl⟩
      obtain ⟨q, hq⟩ : ∃ q, q = x.toNat % 16 := ⟨_, rfl⟩
      have hv1 : bits .and .u8 (x.toNat : Int) 15 = (q : Int) := by rw [u8_and15 _ (by omega) (by have := x.isLt; omega)]; omega
      have hv0 : (x.toNat : Int) / 16 = (p : Int) := by omega
      have d0 := digits_at p (by have := x.isLt; omega)
      have d1 := digits_at q (by omega)
      have hxs : hexs (d.take (k + 1)) = hexs (d.take k) ++ [hexd p, hexd q] := by
        rw [List.take_succ_eq_append_getElem (by rw [HD.out]; exact hlt), hexs, List.flatMap_append, hp, hq, hx, List.getD_eq_getElem?_getD, List.getElem?_eq_getElem (by rw [HD.out]; exact hlt)]
        simp [hexs]
      have HX := Lib.hid hxs
      have HO := Lib.hid hown
      have HB := Lib.hid hb
      unfold bv at hi1
      unfold uv at d0 d1
      clear hx hxs hown hb hp hq
      go_wp2
      have hn9 : 2 * k + 2 ≤ maxLen := by unfold maxLen; omega
      have hl9 : w.heap.size + 1 ≤ wr.heap.size + 1 := by have := HB.out.size; omega
      have HN9 := Lib.hid hn9
      clear hn9
      go_region_law ((refine step_append_lies _ (by rfl) _ _ _ (by rfl) (w.heap.size + 1) 5 i0 _ 1 1 Tryd.underlying22 hi hz0 hz1 hz2 rfl (by omega) u3 (2 * k) ((hexs (d.take k)).map uv) (by rfl) ((HO.out.alloc _).drew) ⟨wr.heap.size, 0, none⟩ 2 2 [uv (hexd p), uv (hexd q)] (by rfl) (by rfl) (World.news_of_block (cs := #[uv (hexd p), uv (hexd q)]) (t := 5) (fr := (0, 0)) (heap_alloc_new wr _)) (by simp [uv, Value.oneCell']) (by omega) HN9.out (by omega) (by simpa using hl9) (wr.heap.size + 1) (by simp) ?_; intro gg cap w1 hown1 hgrow hat hlt9))
      all_goals
        have HW1 := Lib.hid hown1
        have HG1 := Lib.hid (hgrow_of HO.out HB.out.drew HB.out.size (Nat.le_succ _) hgrow)
        clear hown1 hgrow d0 d1 hv0 hv1 hi1 hat hlt9
        go_wp2
        go_roundw
        case rel => exact ⟨k + 1, by omega, by go_num, by rw [HX.out, List.map_append]; exact HW1.out, HG1.out⟩
        case measure => simp [intOf]; omega
    · obtain ⟨A, c, rfl, hs, hsl⟩ := Sl.of_own hown
      rw [show k = 32 by omega, List.take_of_length_le (by rw [HD.out]; omega)] at hs hsl
      have hl64 : (hexs d).length = 64 := by simpa using hsl
      obtain ⟨ad, rfl, -, -⟩ := hs 0 (uv ((hexs d)[0]'(by omega))) (by simp [hl64])
      have hcv : ∀ w2, w2 = wr → (convert 22 9 (.slice (some ad) 64 c)).run Tryd.prog w2 = .ok (.string ⟨(hexs d).toArray⟩) w2 := by
        intro w2 hw2
        rw [hw2]
        have h := run_convert_bytes_back (P := Tryd.prog) wr 22 9 5 ad c (hexs d) Tryd.underlying22 Tryd.underlying5 Tryd.underlying9 (fun j hj => by
          obtain ⟨ad', e, -, hc⟩ := hs j (uv (hexs d)[j]) (by simp [hj])
          injection e with e; subst e; exact hc)
        rwa [hl64] at h
      have hcv := hcv wr rfl
      have H64 := Lib.hid (show 2 * k = 64 by omega)
      rw [show 2 * k = 64 by omega]
      clear hs hsl hown hl64
      have HB := Lib.hid hb
      clear hb
      go_wp2
      go_ret
      exact ⟨rfl, HB.out⟩
end Go.Proofs.YtoafgpoiikpcfaaDoor
