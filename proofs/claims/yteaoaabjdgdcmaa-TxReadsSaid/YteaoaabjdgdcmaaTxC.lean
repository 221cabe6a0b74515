/- Records of a digest and a number, compared by the language's own ==. -/
import Derived.Test.YteaoaabjdgdcmaaTxB
import Derived.Laws.StructEq
set_option linter.unusedVariables false
set_option linter.unusedSimpArgs false
namespace Go.Proofs.Yteaoaabjdgdcmaa
open Go.RowKit
/-- A digest with a value behind it. -/
def recV (d : List B8) (v : Value) : List Value := d.map bv ++ [v]
theorem part_id (d : List B8) (r : List Value) (hd : d.length = 32) (w : World) : (part 37 (d.map bv ++ r).toArray 0).run Try.prog w = .ok (.agg (d.map bv).toArray) w := by
  have hs : ∀ w, (sizeOf 37).run Try.prog w = .ok 32 w := fun w => by kernel_rfl
  have ha : ∀ w, (isAgg 37).run Try.prog w = .ok true w := fun w => by kernel_rfl
  unfold part
  simp only [Sem.run_bind, ha, Result.andThen_ok, if_true, hs, Sem.run_pure]
  congr 2
  rw [List.extract_toArray, List.extract_eq_take_drop]
  simp [hd]
theorem part_last (t : TypeId) (k : IntKind) (ht : Try.prog.underlying t = some (.int k)) (d : List B8) (v : Value) (hd : d.length = 32) (w : World) : (part t (d.map bv ++ [v]).toArray 32).run Try.prog w = .ok v w := by
  have h : (d.map bv ++ [v]).toArray[32]? = some v := by
    rw [List.getElem?_toArray, List.getElem?_append_right (by simp [hd])]; simp [hd]
  simp [part, isAgg, run_underlying ht, h]
theorem eq_rec (t ti : TypeId) (k : IntKind) (n0 n1 : String) (hf : (Try.prog.fieldsOf t).toList.map (fun f => (f.name, f.type, f.offset)) = [(n0, 37, 0), (n1, ti, 32)]) (h0 : n0 ≠ "_") (h1 : n1 ≠ "_")
    (ht : Try.prog.underlying t = some (.struct (Try.prog.fieldsOf t))) (hp : Try.prog.stoodInHeld t = false) (hi : Try.prog.underlying ti = some (.int k)) (a b : List B8) (x y : Int) (ha : a.length = 32) (hb : b.length = 32) (w : World) :
    (binOp .eql t (.agg (recV a (.int k x)).toArray) (.agg (recV b (.int k y)).toArray)).run Try.prog w = .ok (.bool (decide (a = b ∧ x = y))) w := by
  unfold recV
  rw [run_eql_struct, run_equalIn_struct w 9999 t _ _ ht hp]
  obtain ⟨f0, l1, e1⟩ : ∃ f l, (Try.prog.fieldsOf t).toList = f :: l := by
    cases h : (Try.prog.fieldsOf t).toList with
    | nil => rw [h] at hf; cases hf
    | cons f l => exact ⟨f, l, rfl⟩
  rw [e1] at hf ⊢
  obtain ⟨f1, l2, rfl⟩ : ∃ f l, l1 = f :: l := by
    cases l1 with
    | nil => simp at hf
    | cons f l => exact ⟨f, l, rfl⟩
  simp only [List.map_cons, List.cons.injEq, Prod.mk.injEq, List.map_eq_nil_iff] at hf
  obtain ⟨⟨a0, a1, a2⟩, ⟨b0, b1, b2⟩, rfl⟩ := hf
  have hq : (Op.equalIn 9999 37 (.agg (a.map bv).toArray) (.agg (b.map bv).toArray)).run Try.prog w = .ok (decide (a = b)) w := by
    have h := run_equalIn_bytes (P := Try.prog) w 9997 37 5 32 Try.underlying37 Try.underlying5 size_u8 (u8s a) (u8s b) (by simp [u8s, ha]) (by simp [u8s, hb])
    rw [u8s_cell, u8s_cell, u8s_inj] at h
    exact h
  have hr := run_equalIn_int (P := Try.prog) w 9998 ti k k x y hi
  simp only [Op.eqFields, a0, a1, a2, b0, b1, b2, ne_eq, h0, h1, not_false_eq_true, if_true, Sem.run_bind, part_id a _ ha, part_id b _ hb, Result.andThen_ok, hq]
  have qa := part_last ti k hi a (.int k x) ha
  have qb := part_last ti k hi b (.int k y) hb
  by_cases hab : a = b
  · by_cases hxy : x = y
    · subst hab hxy; simp [qa, hr]
    · subst hab; simp [hxy, qa, qb, hr]
  · simp [hab]
theorem eql_point (p q : Pin) (hp : p.d.length = 32) (hq : q.d.length = 32) (w : World) :
    (binOp .eql 39 (.agg (recV p.d (.int .i64 p.x)).toArray) (.agg (recV q.d (.int .i64 q.x)).toArray)).run Try.prog w = .ok (.bool (samePt p q)) w :=
  eq_rec 39 3 .i64 "Tx" "Index" (by kernel_rfl) (by decide) (by decide) (by kernel_rfl) (by kernel_rfl) Try.underlying3 _ _ _ _ hp hq w
end Go.Proofs.Yteaoaabjdgdcmaa
