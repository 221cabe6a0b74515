/- The contract of the code's 'Same', and the document's example. -/
import Derived.Test.YtnhakcmnpmlopaaDoorShaW8
import Derived.Lib.SlBytesConst
namespace Go.Proofs.YtnhakcmnpmlopaaDoor
open Go.RowKit

theorem or_zero (u x y : B8) : u ||| (x ^^^ y) = 0 ↔ u = 0 ∧ x = y := by
  constructor
  · intro h
    have h1 : u = 0 := BitVec.eq_of_getLsbD_eq fun i hi => by
      have := congrArg (fun z => z.getLsbD i) h
      simp at this
      simp [this.1]
    refine ⟨h1, ?_⟩
    rw [h1] at h
    have h2 : x ^^^ y = 0 := by simpa using h
    exact BitVec.xor_eq_zero_iff.1 h2
  · rintro ⟨rfl, rfl⟩; simp
theorem take_eq (a b : List B8) (k : Nat) (ha : a.length = 32) (hb : b.length = 32) (h : k < 32) : a.take (k + 1) = b.take (k + 1) ↔ a.take k = b.take k ∧ a.getD k 0 = b.getD k 0 := by
  rw [List.take_succ_eq_append_getElem (by omega), List.take_succ_eq_append_getElem (by omega), List.getD_eq_getElem?_getD, List.getD_eq_getElem?_getD, List.getElem?_eq_getElem (by omega), List.getElem?_eq_getElem (by omega)]
  constructor
  · intro he
    have := List.append_inj he (by simp; omega)
    simpa using this
  · rintro ⟨h1, h2⟩
    simp at h2
    rw [h1, h2]
theorem row_at (d : List B8) (hd : d.length = 32) (w : World) (b : Nat) (t : TypeId) (fr : Nat × Nat) (h : w.heap[b]? = some (.cells (d.map bv).toArray t fr)) (k : Nat) (hk : k < 32) : w.cell? ⟨b, k, none⟩ = some (bv (d.getD k 0)) := by
  rw [cell_of_row w b k _ _ _ h, List.getElem?_toArray, List.getElem?_map, List.getD_eq_getElem?_getD, List.getElem?_eq_getElem (by omega)]; rfl
set_option maxHeartbeats 1000000 in
theorem same_any (a b : List B8) (w : World) (ha : a.length = 32) (hb : b.length = 32) :
    Calls Tryd.prog 21 #[.agg (a.map bv).toArray, .agg (b.map bv).toArray] w fun e w' => e = .returned (.bool (decide (a = b))) ∧ Below w.heap.size w w' := by
  have ra := row_at a ha _ w.heap.size _ _ (heap_alloc2_old w (.cells (a.map bv).toArray 24) (.cells (b.map bv).toArray 24))
  have rb := row_at b hb _ (w.heap.size + 1) _ _ (heap_alloc2_new w (.cells (a.map bv).toArray 24) (.cells (b.map bv).toArray 24))
  have hbz : Below w.heap.size w ((w.alloc (.cells (a.map bv).toArray 24)).alloc (.cells (b.map bv).toArray 24)) := ((Below.refl _ _).alloc (Nat.le_refl _) _).alloc (by simp) _
  have RA := Lib.hid ra
  have RB := Lib.hid rb
  have HBZ := Lib.hid hbz
  have HA := Lib.hid ha
  have HB := Lib.hid hb
  clear ra rb hbz ha hb
  generalize (a.map bv).toArray = CA at *
  generalize (b.map bv).toArray = CB at *
  go_enter Tryd.func21, Tryd.ntmps21
  go_wp2
  generalize (w.alloc (.cells CA 24)).alloc (.cells CB 24) = wz at *
  go_loopw [5, 6, 7] (fun u _ i wr => ∃ (k n : Nat) (x : B8), k ≤ 32 ∧ i = .int .i64 k ∧ u = .int .u8 (x.toNat : Int) ∧ (x = 0 ↔ a.take k = b.take k) ∧ wr = wz.drewN n) (fun _ _ i _ => 32 - (intOf i).toNat)
  case atStart => exact ⟨0, 0, 0, Nat.zero_le _, rfl, rfl, by simp, rfl⟩
  case round =>
    obtain ⟨k, n, u, hk, rfl, rfl, hu, rfl⟩ := hrel
    have HU := Lib.hid hu
    clear hu
    by_cases hlt : k < 32
    · have hn := Lib.hid (take_eq a b k HA.out HB.out hlt)
      have ca := RA.out k hlt
      have cb := RB.out k hlt
      generalize a.getD k 0 = x at *
      generalize b.getD k 0 = y at *
      unfold bv at ca cb
      go_wp2
      go_quiet (fail)
      go_wp2
      go_roundw
      case rel => exact ⟨k + 1, n + nq, u ||| (x ^^^ y), by omega, by go_num, by rw [(bbits x y).2.2, (bbits u (x ^^^ y)).2.1], by rw [or_zero, HU.out, hn.out], rfl⟩
      case measure => simp [intOf]; omega
    · have e : decide (a = b) = decide (u = 0) := by
        have := HU.out
        rw [show k = 32 by omega, List.take_of_length_le (by rw [HA.out]; omega), List.take_of_length_le (by rw [HB.out]; omega)] at this
        rw [decide_eq_decide]; exact this.symm
      have hz : ((u.toNat : Int) == 0) = decide (u = 0) := by
        by_cases h0 : u = 0
        · subst h0; rfl
        · have : u.toNat ≠ 0 := fun h => h0 (BitVec.eq_of_toNat_eq h)
          rw [decide_eq_false h0]; exact beq_false_of_ne (by omega)
      have HE := Lib.hid e
      have HZ := Lib.hid hz
      clear e hz
      go_wp2
      go_ret
      refine ⟨?_, below_drewN HBZ.out⟩
      show Ending.returned (Value.bool ((u.toNat : Int) == 0)) = _
      rw [HZ.out, HE.out]
theorem id0_eq : (Value.agg #[Value.int .u8 0, .int .u8 0, .int .u8 0, .int .u8 0, .int .u8 0, .int .u8 0, .int .u8 0, .int .u8 0, .int .u8 0, .int .u8 0, .int .u8 0, .int .u8 0, .int .u8 0, .int .u8 0, .int .u8 0, .int .u8 0, .int .u8 0, .int .u8 0, .int .u8 0, .int .u8 0, .int .u8 0, .int .u8 0, .int .u8 0, .int .u8 0, .int .u8 0, .int .u8 0, .int .u8 0, .int .u8 0, .int .u8 0, .int .u8 0, .int .u8 0, .int .u8 0]) = .agg ((zeros 32).map bv).toArray := rfl
theorem hex_abc : hexs (dig [97, 98, 99]) = [98, 97, 55, 56, 49, 54, 98, 102, 56, 102, 48, 49, 99, 102, 101, 97, 52, 49, 52, 49, 52, 48, 100, 101, 53, 100, 97, 101, 50, 50, 50, 51, 98, 48, 48, 51, 54, 49, 97, 51, 57, 54, 49, 55, 55, 97, 57, 99, 98, 52, 49, 48, 102, 102, 54, 49, 102, 50, 48, 48, 49, 53, 97, 100] := by
  rw [dig_abc]; decide +kernel
end Go.Proofs.YtnhakcmnpmlopaaDoor
