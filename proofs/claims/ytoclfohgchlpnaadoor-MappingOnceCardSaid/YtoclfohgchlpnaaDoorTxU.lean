/- The contracts of both Owners. -/
import Derived.Test.YtoclfohgchlpnaaDoorTxX
import Derived.Test.YtoclfohgchlpnaaDoorTgD
set_option linter.unusedVariables false
set_option linter.unusedSimpArgs false
namespace Go.Proofs.YtoclfohgchlpnaaDoor
open Go.RowKit
abbrev ZIL : Array Value := #[Value.int .u8 0, Value.int .u8 0, Value.int .u8 0, Value.int .u8 0, Value.int .u8 0, Value.int .u8 0, Value.int .u8 0, Value.int .u8 0, Value.int .u8 0, Value.int .u8 0, Value.int .u8 0, Value.int .u8 0, Value.int .u8 0, Value.int .u8 0, Value.int .u8 0, Value.int .u8 0, Value.int .u8 0, Value.int .u8 0, Value.int .u8 0, Value.int .u8 0, Value.int .u8 0, Value.int .u8 0, Value.int .u8 0, Value.int .u8 0, Value.int .u8 0, Value.int .u8 0, Value.int .u8 0, Value.int .u8 0, Value.int .u8 0, Value.int .u8 0, Value.int .u8 0, Value.int .u8 0]
set_option maxRecDepth 100000 in
theorem under_one (m : B8) (b : List B8) : underB m [b] = m :: longB b := by simp [underB]
def ownD (b : List B8) : List B8 := dig (9 :: longB b)
set_option maxRecDepth 100000 in
theorem ownD_len (b : List B8) : (ownD b).length = 32 := dig_len _
set_option maxRecDepth 100000 in
/-- A list of one text, made here. -/
theorem lst_one {w : World} (A : Option Addr) (b : List B8) (c : Nat) (hB : Bts w A b) (hc : b.length ≤ c) (t : TypeId) :
    Lst (w.alloc (.cells #[.slice A b.length c] t)) (some ⟨w.heap.size, 0, none⟩) [b] := by
  intro i xs hi
  match i, hi with
  | 0, hi =>
    obtain rfl : b = xs := by simpa using hi
    refine ⟨_, A, c, rfl, ?_, hc, hB.below ((Below.refl _ _).alloc (Nat.le_refl _) _)⟩
    show World.cell? _ ⟨w.heap.size, 0, none⟩ = _
    rw [cell_of_row _ _ _ _ _ _ (heap_alloc_new w _)]; rfl
set_option maxRecDepth 100000 in
theorem own_bts {w : World} {B n g cap : Nat} {l : List B8} (h : w.ownsRow B 5 1 (.slice (some ⟨g, 0, none⟩) n cap) n (l.map bv)) : Bts w (some ⟨g, 0, none⟩) l := fun j u hu => ⟨_, rfl, h.cells rfl j u hu⟩
end Go.Proofs.YtoclfohgchlpnaaDoor
