/- The contracts of the code's 'Hex' and 'Same'. -/
import Derived.Test.YtoclfohgchlpnaaDoorShaW7
import Derived.Maps.AppendAt
import Derived.OwnWalk
import Derived.Deep.AppendLies
import Derived.Deep.RegionHeld3
namespace Go.Proofs.YtoclfohgchlpnaaDoor
open Go.RowKit

def hexd (n : Nat) : UInt8 := if n < 10 then UInt8.ofNat (48 + n) else UInt8.ofNat (87 + n)
def hexs (d : List B8) : List UInt8 := d.flatMap fun x => [hexd (x.toNat / 16), hexd (x.toNat % 16)]
def idV (d : List B8) : Value := .agg (d.map bv).toArray
def uv (x : UInt8) : Value := .int .u8 ((x.toNat : Nat) : Int)
set_option maxRecDepth 100000 in
theorem info_u8 : (Tryd.prog.info? 5).map (fun i => (i.zero, i.size, i.bytes)) = some (some (.int .u8 0), 1, 1) := by kernel_rfl
set_option maxRecDepth 100000 in
theorem isAgg_u8 (w : World) : (isAgg 5).run Tryd.prog w = .ok false w := by kernel_rfl
set_option maxRecDepth 100000 in
theorem hgrow_of {B base : Nat} {w wr wd w1 : World} {o : Obj} {e : TypeId} {s n : Nat} {v : Value} {xs : List Value} (hown : wr.ownsRow base e s v n xs) (hb : Below B w wd) (hB : B ≤ wd.heap.size) (hbase : B ≤ base) (hg : (wd.alloc o).grownBy w1 v.ownBlock) : Below B w w1 :=
  (hb.alloc hB o).grown hg (Nat.le_trans hB (by simp)) (fun k hk => Nat.le_trans hbase (hown.lt k hk).1)
set_option maxRecDepth 100000 in
theorem index_id (d : List B8) (k : Nat) (hd : d.length = 32) (hk : k < 32) (w : World) : (Instr.index 23 (.agg (d.map bv).toArray) (.int .i64 (k : Int))).run Tryd.prog w = .ok (bv (d.getD k 0)) w := by
  have h2 : (0 : Int) ≤ (k : Int) ∧ (k : Int) < 32 := by omega
  have h3 : d[k]? = some (d.getD k 0) := by rw [List.getD_eq_getElem?_getD, List.getElem?_eq_getElem (by omega)]; rfl
  simp [Instr.index, asIntOf, run_underlying Tryd.underlying23, part, h2, hk]
  rw [h3]; rfl
set_option maxRecDepth 100000 in
theorem digits_at (n : Nat) (h : n < 16) (w : World) : (Instr.index 9 (.string { data := #[48, 49, 50, 51, 52, 53, 54, 55, 56, 57, 97, 98, 99, 100, 101, 102] }) (.int .u8 (n : Int))).run Tryd.prog w = .ok (uv (hexd n)) w := by
  have : n = 0 ∨ n = 1 ∨ n = 2 ∨ n = 3 ∨ n = 4 ∨ n = 5 ∨ n = 6 ∨ n = 7 ∨ n = 8 ∨ n = 9 ∨ n = 10 ∨ n = 11 ∨ n = 12 ∨ n = 13 ∨ n = 14 ∨ n = 15 := by omega
  rcases this with rfl | rfl | rfl | rfl | rfl | rfl | rfl | rfl | rfl | rfl | rfl | rfl | rfl | rfl | rfl | rfl <;> rfl
end Go.Proofs.YtoclfohgchlpnaaDoor
