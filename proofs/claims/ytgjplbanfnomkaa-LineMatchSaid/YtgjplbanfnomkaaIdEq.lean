/- Two Ids compared, by the language's own ==. -/
import Derived.Test.YtgjplbanfnomkaaByt
import Derived.Stop.BytesEq
namespace Go.Proofs.Ytgjplbanfnomkaa
open Go.RowKit
open Extern.Stop (cell)
def u8s (d : List B8) : List UInt8 := d.map fun x => UInt8.ofBitVec x
set_option maxRecDepth 100000 in
theorem u8s_cell (d : List B8) : (u8s d).map cell = d.map bv := by
  simp only [u8s, List.map_map]
  apply List.map_congr_left
  intro x _
  rfl
set_option maxRecDepth 100000 in
theorem u8s_inj (a b : List B8) : (u8s a == u8s b) = decide (a = b) := by
  rw [Bool.eq_iff_iff]
  simp only [beq_iff_eq, decide_eq_true_eq]
  constructor
  · intro h
    have h2 := congrArg (List.map UInt8.toBitVec) h
    simpa [u8s, List.map_map, Function.comp_def] using h2
  · rintro rfl; rfl
set_option maxRecDepth 100000 in
theorem eq_id (a b : List B8) (ha : a.length = 32) (hb : b.length = 32) (w : World) : (Op.equalIn 10000 90 (.agg (a.map bv).toArray) (.agg (b.map bv).toArray)).run Try.prog w = .ok (decide (a = b)) w := by
  have h := run_equalIn_bytes (P := Try.prog) w 9998 90 5 32 Try.underlying90 Try.underlying5 size_u8 (u8s a) (u8s b) (by simp [u8s, ha]) (by simp [u8s, hb])
  rw [u8s_cell, u8s_cell, u8s_inj] at h
  exact h
set_option maxRecDepth 100000 in
theorem eql_id (a b : List B8) (ha : a.length = 32) (hb : b.length = 32) (w : World) : (binOp .eql 90 (.agg (a.map bv).toArray) (.agg (b.map bv).toArray)).run Try.prog w = .ok (.bool (decide (a = b))) w := by
  have h := eq_id a b ha hb w
  have e : (Op.equal 90 (.agg (a.map bv).toArray) (.agg (b.map bv).toArray)).run Try.prog w = .ok (decide (a = b)) w := h
  simp only [binOp, Sem.run_bind, e, Result.andThen_ok, Sem.run_pure]
end Go.Proofs.Ytgjplbanfnomkaa
