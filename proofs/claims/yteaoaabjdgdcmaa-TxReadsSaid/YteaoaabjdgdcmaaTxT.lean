/- Loads of a point and of an output as one rule of the walk. -/
import Derived.Test.YteaoaabjdgdcmaaTxS
set_option linter.unusedVariables false
namespace Go.Proofs.Yteaoaabjdgdcmaa
open Go.RowKit
def ptLoad (v : Value) : Sem Value := Instr.loadAt 39 v
set_option maxRecDepth 100000 in
theorem loadAt_pt (v : Value) : Instr.loadAt 39 v = ptLoad v := rfl
set_option maxRecDepth 100000 in
theorem run_ptLoad (w : World) (b o : Nat) : (ptLoad (.pointer (some ⟨b, o, none⟩))).run Try.prog w = (match rowOf w b o 33 with | some C => .ok (.agg C) w | none => loadRest Try.prog 39 b o w) := by
  unfold ptLoad
  cases h : rowOf w b o 33 with
  | none => rfl
  | some C =>
    obtain ⟨hs, hr⟩ := rowOf_some h
    have := run_loadAt_mid w b o 39 C.toList _ hr Try.underlying39 rfl (by rw [Array.length_toList, hs]; kernel_rfl)
    simpa using this
def outLoad (v : Value) : Sem Value := Instr.loadAt 43 v
set_option maxRecDepth 100000 in
theorem loadAt_out (v : Value) : Instr.loadAt 43 v = outLoad v := rfl
set_option maxRecDepth 100000 in
theorem run_outLoad (w : World) (b o : Nat) : (outLoad (.pointer (some ⟨b, o, none⟩))).run Try.prog w = (match rowOf w b o 33 with | some C => .ok (.agg C) w | none => loadRest Try.prog 43 b o w) := by
  unfold outLoad
  cases h : rowOf w b o 33 with
  | none => rfl
  | some C =>
    obtain ⟨hs, hr⟩ := rowOf_some h
    have := run_loadAt_mid w b o 43 C.toList _ hr Try.underlying43 rfl (by rw [Array.length_toList, hs]; kernel_rfl)
    simpa using this
set_option maxRecDepth 100000 in
/-- The point of an input in a row. -/
theorem Pin.ptAt {w : World} {b o : Nat} {p : Pin} {S : Option Addr} {c : Nat} (h : w.rangeAt b o (p.cells S c)) (hd : p.d.length = 32) : rowOf w b o 33 = some (recV p.d (.int .i64 p.x)).toArray := by
  refine rowOf_eq (recV_len _ _ hd) (fun j v hj => h j v ?_)
  have e : p.cells S c = recV p.d (.int .i64 p.x) ++ [.int .u64 (p.n : Int), .slice S p.b.length c] := by simp [Pin.cells, recV]
  rw [e, List.getElem?_append_left (List.getElem?_eq_some_iff.1 hj).1]; exact hj
set_option maxRecDepth 100000 in
theorem Pin.rc {w : World} {b o : Nat} {p : Pin} {S : Option Addr} {c : Nat} (h : w.rangeAt b o (p.cells S c)) (hd : p.d.length = 32) :
    w.cell? ⟨b, o + 32, none⟩ = some (.int .i64 p.x) ∧ w.cell? ⟨b, o + 33, none⟩ = some (.int .u64 (p.n : Int)) ∧ w.cell? ⟨b, o + 34, none⟩ = some (.slice S p.b.length c) := by
  obtain ⟨a, b', d⟩ := p.at S c hd
  exact ⟨h 32 _ a, h 33 _ b', h 34 _ d⟩
set_option maxRecDepth 100000 in
theorem Pout.rc {w : World} {b o : Nat} {p : Pout} (h : w.rangeAt b o p.cells) (hd : p.d.length = 32) : w.cell? ⟨b, o + 32, none⟩ = some (.int .u64 (p.n : Int)) := h 32 _ (p.at hd)
set_option maxRecDepth 100000 in
theorem Pout.rowAt {w : World} {b o : Nat} {p : Pout} (h : w.rangeAt b o p.cells) (hd : p.d.length = 32) : rowOf w b o 33 = some (recV p.d (.int .u64 (p.n : Int))).toArray := rowOf_eq (recV_len _ _ hd) h
set_option maxRecDepth 100000 in
theorem eql_out (p q : Pout) (hp : p.d.length = 32) (hq : q.d.length = 32) (w : World) :
    (binOp .eql 43 (.agg (recV p.d (.int .u64 (p.n : Int))).toArray) (.agg (recV q.d (.int .u64 (q.n : Int))).toArray)).run Try.prog w = .ok (.bool (decide (p = q))) w := by
  have h := eq_rec 43 26 .u64 "Owner" "Amount" (by kernel_rfl) (by decide) (by decide) (by kernel_rfl) (by kernel_rfl) Try.underlying26 p.d q.d (p.n : Int) (q.n : Int) hp hq w
  rw [h]
  congr 2
  rw [decide_eq_decide]
  cases p; cases q; simp; omega
end Go.Proofs.Yteaoaabjdgdcmaa
