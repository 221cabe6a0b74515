/- The document's drum: Write. -/
import Derived.Test.YtodeblffnbbcaaaDrG
import Derived.Test.YtodeblffnbbcaaaApp
set_option linter.unusedVariables false
namespace Go.Proofs.Ytodeblffnbbcaaa
open Go.RowKit
theorem rmem_burn {w w' : World} {g : Nat} {Lv Wv : Value} {vs : List Value} {us : List (Nat × Value)} {d : Dr} {D : Nat → Prop} (h : RMem w g Lv Wv vs us d D) (hb : RBox w' g Lv Wv (d.fuse - 1) (d.off || d.fuse == 1)) (ht : Turn (fun i => i = g) w w') : RMem w' g Lv Wv vs us d.burn D := by
  refine ⟨by simpa [Dr.burn] using hb, by have := h.fz; simp only [Dr.burn]; omega, h.ok.burn, h.small, own_turn ht h.rowL fun k hk => ?_, own_turn ht h.rowW fun k hk => ?_, h.wlen, h.few, fun i v s h1 h2 => (h.secL i v s h1 h2).turn ht ?_ (fun _ _ h => h) (fun _ h => h), fun i u x h1 h2 => ⟨(h.secW i u x h1 h2).1, (h.secW i u x h1 h2).2.turn ht ?_ (fun _ _ h => h) (fun _ h => h)⟩, h.neL, h.neW, h.ne, h.ownG, h.ownL, h.ownW, fun k hk => Nat.lt_of_lt_of_le (h.lt k hk) ht.size⟩
  · rintro rfl; exact h.neL (by assumption)
  · rintro rfl; exact h.neW (by assumption)
  · rintro k rfl hn _; exact hn (.inl rfl)
  · rintro k rfl hn _; exact hn (.inl rfl)
/-- The cells of one more that waits. -/
def WR (B : Nat) (a : Int) (bb : Sec) (news : List Value) (w : World) : Prop := ∃ X, news = [.int .i64 a, X] ∧ Copy B bb X w
theorem copy_turn {B : Nat} {s : Sec} {v : Value} {w w' : World} {row : Option Nat} (h : Copy B s v w) (t : Turn (fun k => row = some k) w w') (hB : ∀ g, row = some g → g < B) : Copy B s v w' := by
  obtain ⟨g, c, hg, rfl, hc, ho⟩ := h
  refine ⟨g, c, hg, rfl, hc, own_turn t ho fun k hk e => ?_⟩
  injection hk with hk
  have h1 := hB k e
  subst hk
  have h2 : g < B := h1
  omega
def Bld (B : Nat) (a : Int) (bb : Sec) (v : Value) (w : World) : Prop := ∃ X, v = .agg #[.int .i64 a, X] ∧ Copy B bb X w
def Sl1 (B : Nat) (a : Int) (bb : Sec) (v : Value) (w : World) : Prop := ∃ g X, B ≤ g ∧ v = .slice (some ⟨g, 0, none⟩) 1 1 ∧ w.heap[g]? = some (.cells #[.int .i64 a, X] 64 (0, 0)) ∧ Copy B bb X w
theorem info_wait : (Try.prog.info? 64).map (fun i => (i.zero, i.size, i.bytes)) = some (some (.agg #[.int .i64 0, .slice none 0 0]), 2, 32) := by kernel_rfl
theorem build_wait (a : Int) (g n c : Nat) (w : World) : (Instr.buildSlice 38 1 #[(0, .agg #[.int .i64 a, .slice (some ⟨g, 0, none⟩) n c])]).run Try.prog w = .ok (.slice (some ⟨w.heap.size, 0, none⟩) 1 1) (w.alloc (.cells #[.int .i64 a, .slice (some ⟨g, 0, none⟩) n c] 64)) := by
  obtain ⟨i0, hi, hz0, hz1, hz2⟩ := info_parts info_wait
  refine run_buildSlice w 38 64 1 _ _ i0 (.agg #[.int .i64 0, .slice none 0 0]) Try.underlying38 hi hz0 (by rw [hz1]; decide) (by rw [hz1]; decide) ?_
  rw [hz1]
  have e : ((Array.range (1 * 2)).map fun x => (Value.agg #[.int .i64 0, .slice none 0 0]).cells[x % (Value.agg #[.int .i64 0, .slice none 0 0]).cells.size]!) = #[.int .i64 0, .slice none 0 0] := by kernel_rfl
  rw [e]
  simp [Instr.fill, Value.cells]
theorem does_build_agg {o : Oper} {a : Act} {w : World} {R : Value → World → Prop} (x y : Operand) (ho : o.op = .build 64 #[(0, x), (1, y)]) (n : Int) (hx : a.eval x = .int .i64 n) (g k c : Nat) (hy : a.eval y = .slice (some ⟨g, 0, none⟩) k c) (h : R (.agg #[.int .i64 n, .slice (some ⟨g, 0, none⟩) k c]) w) : doesR Try.prog o a w R := by
  have hr : (execOp a.eval o).run Try.prog w = .ok (.value (.agg #[.int .i64 n, .slice (some ⟨g, 0, none⟩) k c])) w := by
    unfold execOp
    simp only [ho, List.map_toArray, List.map_cons, List.map_nil, hx, hy]
    kernel_rfl
  exact does_run hr h
theorem does_build_sl {o : Oper} {a : Act} {w : World} {R : Value → World → Prop} (x : Operand) (ho : o.op = .buildSlice 38 1 #[(0, x)]) (n : Int) (g k c : Nat) (hx : a.eval x = .agg #[.int .i64 n, .slice (some ⟨g, 0, none⟩) k c]) (h : R (.slice (some ⟨w.heap.size, 0, none⟩) 1 1) (w.alloc (.cells #[.int .i64 n, .slice (some ⟨g, 0, none⟩) k c] 64))) : doesR Try.prog o a w R := by
  unfold doesR execOp
  simp only [ho, List.map_toArray, List.map_cons, List.map_nil, hx, Sem.run_bind, build_wait, Result.andThen_ok]
  exact h
end Go.Proofs.Ytodeblffnbbcaaa
