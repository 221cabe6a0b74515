/- The contract of the code's 'Same', and the document's example. -/
import Derived.Test.YtoclfohgchlpnaaDoorShaW8
import Derived.Lib.SlBytesConst
namespace Go.Proofs.YtoclfohgchlpnaaDoor
open Go.RowKit

set_option maxRecDepth 100000 in
theorem or_zero (u x y : B8) : u ||| (x ^^^ y) = 0 ↔ u = 0 ∧ x = y := by
  constructor
  · intro h
    have h1 : u = 0 := BitVec.eq_of_getLsbD_eq fun i hi => by
      have := congrArg (fun z => z.getLsbD i) h
      simp at this
      simp [this.1]
    refine ⟨h1, ?_⟩
    rw [h1] at h
    have h2 : x ^^^ y = 0 := by simpa using h
    exact BitVec.xor_eq_zero_iff.1 h2
  · rintro ⟨rfl, rfl⟩; simp
set_option maxRecDepth 100000 in
theorem take_eq (a b : List B8) (k : Nat) (ha : a.length = 32) (hb : b.length = 32) (h : k < 32) : a.take (k + 1) = b.take (k + 1) ↔ a.take k = b.take k ∧ a.getD k 0 = b.getD k 0 := by
  rw [List.take_succ_eq_append_getElem (by omega), List.take_succ_eq_append_getElem (by omega), List.getD_eq_getElem?_getD, List.getD_eq_getElem?_getD, List.getElem?_eq_getElem (by omega), List.getElem?_eq_getElem (by omega)]
  constructor
  · intro he
    have := List.append_inj he (by simp; omega)
    simpa using this
  · rintro ⟨h1, h2⟩
    simp at h2
    rw [h1, h2]
set_option maxRecDepth 100000 in
theorem row_at (d : List B8) (hd : d.length = 32) (w : World) (b : Nat) (t : TypeId) (fr : Nat × Nat) (h : w.heap[b]? = some (.cells (d.map bv).toArray t fr)) (k : Nat) (hk : k < 32) : w.cell? ⟨b, k, none⟩ = some (bv (d.getD k 0)) := by
  rw [cell_of_row w b k _ _ _ h, List.getElem?_toArray, List.getElem?_map, List.getD_eq_getElem?_getD, List.getElem?_eq_getElem (by omega)]; rfl
set_option maxRecDepth 100000 in
theorem id0_eq : (Value.agg #[Value.int .u8 0, .int .u8 0, .int .u8 0, .int .u8 0, .int .u8 0, .int .u8 0, .int .u8 0, .int .u8 0, .int .u8 0, .int .u8 0, .int .u8 0, .int .u8 0, .int .u8 0, .int .u8 0, .int .u8 0, .int .u8 0, .int .u8 0, .int .u8 0, .int .u8 0, .int .u8 0, .int .u8 0, .int .u8 0, .int .u8 0, .int .u8 0, .int .u8 0, .int .u8 0, .int .u8 0, .int .u8 0, .int .u8 0, .int .u8 0, .int .u8 0, .int .u8 0]) = .agg ((zeros 32).map bv).toArray := rfl
set_option maxRecDepth 100000 in
theorem hex_abc : hexs (dig [97, 98, 99]) = [98, 97, 55, 56, 49, 54, 98, 102, 56, 102, 48, 49, 99, 102, 101, 97, 52, 49, 52, 49, 52, 48, 100, 101, 53, 100, 97, 101, 50, 50, 50, 51, 98, 48, 48, 51, 54, 49, 97, 51, 57, 54, 49, 55, 55, 97, 57, 99, 98, 52, 49, 48, 102, 102, 54, 49, 102, 50, 48, 48, 49, 53, 97, 100] := by
  rw [dig_abc]; decide +kernel
end Go.Proofs.YtoclfohgchlpnaaDoor
