/- The document's drum: Start. -/
import Derived.Test.YtodeblffnbbcaaaDrE
import Derived.Great.BuildSlice
import Derived.Deep.Onto
set_option linter.unusedVariables false
namespace Go.Proofs.Ytodeblffnbbcaaa
open Go.RowKit
def Stp (w w' : World) : Prop := Below w.heap.size w w'
theorem Stp.refl (w : World) : Stp w w := Below.refl _ _
theorem Stp.trans (a b c : World) (h : Stp a b) (k : Stp b c) : Stp a c := Below.trans h (Below.mono k (Below.size h))
theorem cell_stp {w w' : World} {ad : Addr} {v : Value} (h : w.cell? ad = some v) (hs : Stp w w') : w'.cell? ad = some v := (Below.cell hs (World.block_lt_of_cell? w _ h)).trans h
theorem cls_load_cell {P : Program} {C : World → Prop} {o : Oper} {a : Act} {K : Act → Prop} (ty : TypeId) (x : Operand) (ho : o.op = .load ty x) (ad : Addr) (hx : a.eval x = .pointer (some ad)) (v : Value) (hr : ∀ w, w.cell? ad = some v → (Instr.loadAt ty (.pointer (some ad))).run P w = .ok v w)
    (hS : ∀ w, C w → w.cell? ad = some v) (hK : K (a.put o.dst v)) : o.quiet P a C K :=
  ⟨_, fun w hw => by
    unfold Oper.quietAt execOp
    simp only [ho, hx, Sem.run_bind, hr w (hS w hw), Result.andThen_ok, Sem.run_pure, Oper.quietUpon, and_self], hK⟩
theorem does_append {o : Oper} {a : Act} {w w' : World} {R : Value → World → Prop} (s x : Operand) (t : TypeId) (v u v' : Value) (ho : o.op = .call { callee := .builtin .append, args := #[s, x], argTypes := #[t, t] }) (hs : a.eval s = v) (hx : a.eval x = u)
    (hr : (Builtin.append_ #[t, t] o.type #[v, u]).run Try.prog w = .ok v' w') (h : R v' w') : doesR Try.prog o a w R := by
  unfold doesR execOp
  simp only [ho, resolve, invoke, builtin, Sem.run_bind, Sem.run_pure, Result.andThen_ok, List.map_toArray, List.map_cons, List.map_nil, hs, hx, hr]
  exact h
theorem build0 (w : World) : (Instr.buildSlice 28 0 #[]).run Try.prog w = .ok (.slice (some ⟨w.heap.size, 0, none⟩) 0 0) (w.alloc (.cells #[] 5)) := by
  first | kernel_rfl | simp [go_sem]
theorem does_build0 {o : Oper} {a : Act} {w : World} {R : Value → World → Prop} (ho : o.op = .buildSlice 28 0 #[]) (h : R (.slice (some ⟨w.heap.size, 0, none⟩) 0 0) (w.alloc (.cells #[] 5))) : doesR Try.prog o a w R := by
  unfold doesR execOp
  simp only [ho, List.map_toArray, List.map_nil, Sem.run_bind, build0 w, Result.andThen_ok]
  exact h
/-- An empty slice, made from B on. -/
def Box0 (B : Nat) (v : Value) (w : World) : Prop := ∃ g, B ≤ g ∧ v = .slice (some ⟨g, 0, none⟩) 0 0 ∧ w.heap[g]? = some (.cells #[] 5 (0, 0))
theorem Box0.stable (B : Nat) (v : Value) (w w' : World) (h : Box0 B v w) (hs : Stp w w') : Box0 B v w' := by
  obtain ⟨g, hB, e, hg⟩ := h
  exact ⟨g, hB, e, (hs.block g (lt_of_block hg)).trans hg⟩
/-- A sector's copy, made from B on. -/
def Copy (B : Nat) (s : Sec) (v : Value) (w : World) : Prop := ∃ g c, B ≤ g ∧ v = .slice (some ⟨g, 0, none⟩) 64 c ∧ 64 ≤ c ∧ w.ownsRow B 5 1 v 64 (s.map bv)
theorem Copy.stable (B : Nat) (s : Sec) (v : Value) (w w' : World) (h : Copy B s v w) (hs : Stp w w') : Copy B s v w' := by
  obtain ⟨g, c, hB, e, hc, ho⟩ := h
  refine ⟨g, c, hB, e, hc, ?_⟩
  obtain ⟨h1, h2⟩ := ho
  refine ⟨h1, ?_⟩
  rcases h2 with h2 | ⟨g', cap, cur, e', hg, hh, r⟩
  · exact .inl h2
  · exact .inr ⟨g', cap, cur, e', hg, (hs.block g' (lt_of_block hh)).trans hh, r⟩
theorem append0 (ty : TypeId) (B : Nat) (w : World) (v : Value) (h : Box0 B v w) (hB : B ≤ w.heap.size) (ad : Addr) (c : Nat) (s : Sec) (hs : s.length = 64) (hn : ∀ j u, (s.map bv)[j]? = some u → w.cell? (ad.add j) = some u) :
    ∃ v' w', (Builtin.append_ #[28, 28] ty #[v, .slice (some ad) 64 c]).run Try.prog w = .ok v' w' ∧ Copy B s v' w' ∧ Stp w w' := by
  obtain ⟨g, hB0, rfl, hg⟩ := h
  obtain ⟨i, hi, hz, hs1, hby⟩ := info_parts info_u8
  have hl : (s.map bv).length = 64 := by simp [hs]
  have hr := run_append_grow (P := Try.prog) w 28 ty 5 i (.int .u8 0) Try.underlying28 hi hz ⟨g, 0, none⟩ 0 0 [] (by simp) (by intro j u hu; simp at hu) ad 64 c (s.map bv) (by rw [hs1, hl]) hn (by omega) (by omega) (growslice_fits (by omega) (by rw [hby]; omega))
  have hge := grownCap_ge w (0 + 64) 0 5
  have hcm := grownCap_le_maxLen w (0 + 64) 0 5 (by unfold maxLen; omega)
  refine ⟨_, _, hr, ⟨w.heap.size, _, hB, rfl, by omega, by simpa using hl, .inr ⟨w.heap.size, _, _, rfl, hB, heap_alloc_new w.drew _, by omega, hcm, ?_, ?_⟩⟩, ((Below.refl w.heap.size w).drew).alloc (Nat.le_refl _) _⟩
  · have hz32 : (Value.int IntKind.u8 0).cells.size = 1 := rfl
    simp only [Array.size_append, List.size_toArray, size_zeroCells, hz32]
    rw [← List.length_append, List.nil_append, hl]; omega
  · simp only [Array.toList_append, List.nil_append]
    rw [show 64 * 1 = (s.map bv).length by omega]
    exact List.take_left
end Go.Proofs.Ytodeblffnbbcaaa
