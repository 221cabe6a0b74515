/- Two Ids compared, by the language's own ==. -/
import Derived.Test.YtoagneibaincpaaDoorShaA
import Derived.Stop.BytesEq
namespace Go.Proofs.YtoagneibaincpaaDoor
open Go.RowKit
open Extern.Stop (cell)
set_option maxRecDepth 100000 in
theorem eql_id (a b : List B8) (ha : a.length = 32) (hb : b.length = 32) (w : World) : (binOp .eql 23 (.agg (a.map bv).toArray) (.agg (b.map bv).toArray)).run Tryd.prog w = .ok (.bool (decide (a = b))) w := by
  have h := eq_id a b ha hb w
  have e : (Op.equal 23 (.agg (a.map bv).toArray) (.agg (b.map bv).toArray)).run Tryd.prog w = .ok (decide (a = b)) w := h
  simp only [binOp, Sem.run_bind, e, Result.andThen_ok, Sem.run_pure]
end Go.Proofs.YtoagneibaincpaaDoor
