/- The landed line: New; items made. -/
import Derived.Test.YtgjplbanfnomkaaApp
import Derived.Great.BuildSlice
import Derived.Deep.Onto
set_option linter.unusedVariables false
set_option linter.unusedSimpArgs false
namespace Go.Proofs.Ytgjplbanfnomkaa
open Go.RowKit
set_option maxRecDepth 100000
/-- An item's cells, with bytes of its own that B knows. -/
def NewI (B : Nat) (p : Itm) (news : List Value) (w : World) : Prop := ∃ S c, news = [.int .i64 p.t, .slice S p.b.length c] ∧ w.ownsRow B 5 1 (.slice S p.b.length c) p.b.length (p.b.map bv)
def AggI (B : Nat) (p : Itm) (v : Value) (w : World) : Prop := ∃ S c, v = .agg #[.int .i64 p.t, .slice S p.b.length c] ∧ w.ownsRow B 5 1 (.slice S p.b.length c) p.b.length (p.b.map bv)
def SlI (B : Nat) (p : Itm) (v : Value) (w : World) : Prop := ∃ g news, B ≤ g ∧ v = .slice (some ⟨g, 0, none⟩) 1 1 ∧ w.heap[g]? = some (.cells news.toArray 36 (0, 0)) ∧ NewI B p news w
theorem NewI.turn {B : Nat} {p : Itm} {news : List Value} {w w' : World} {row : Option Nat} (h : NewI B p news w) (t : Turn (fun k => row = some k) w w') (hB : ∀ g, row = some g → g < B) : NewI B p news w' := by
  obtain ⟨S, c, e, ho⟩ := h
  refine ⟨S, c, e, own_turn2 t ho fun k hk e => ?_⟩
  obtain ⟨cur, -, h1⟩ := row_block ho hk
  have := hB k e
  omega
theorem AggI.turn {B : Nat} {p : Itm} {v : Value} {w w' : World} {row : Option Nat} (h : AggI B p v w) (t : Turn (fun k => row = some k) w w') (hB : ∀ g, row = some g → g < B) : AggI B p v w' := by
  obtain ⟨S, c, e, ho⟩ := h
  obtain ⟨S', c', e', ho'⟩ := NewI.turn ⟨S, c, rfl, ho⟩ t hB
  injection e' with e1 e2
  injection e2 with e2
  injection e2 with e2 e3 e4
  subst e2 e4
  exact ⟨S, c, e, ho'⟩
theorem SlI.turn {B : Nat} {p : Itm} {v : Value} {w w' : World} {row : Option Nat} (h : SlI B p v w) (t : Turn (fun k => row = some k) w w') (hB : ∀ g, row = some g → g < B) : SlI B p v w' := by
  obtain ⟨g, news, h1, h2, h3, h4⟩ := h
  exact ⟨g, news, h1, h2, t.heap h3 (fun e => by have := hB g e; omega), h4.turn t hB⟩
theorem build_item (a : Int) (S : Option Addr) (n c : Nat) (w : World) : (Instr.buildSlice 27 1 #[(0, .agg #[.int .i64 a, .slice S n c])]).run Try.prog w = .ok (.slice (some ⟨w.heap.size, 0, none⟩) 1 1) (w.alloc (.cells #[.int .i64 a, .slice S n c] 36)) := by
  obtain ⟨i0, hi, hz0, hz1, hz2⟩ := info_parts it_info
  refine run_buildSlice w 27 36 1 _ _ i0 (.agg #[.int .i64 0, .slice none 0 0]) Try.underlying27 hi hz0 (by rw [hz1]; decide) (by rw [hz1]; decide) ?_
  rw [hz1]
  have e : ((Array.range (1 * 2)).map fun x => (Value.agg #[.int .i64 0, .slice none 0 0]).cells[x % (Value.agg #[.int .i64 0, .slice none 0 0]).cells.size]!) = #[.int .i64 0, .slice none 0 0] := by kernel_rfl
  rw [e]
  simp [Instr.fill, Value.cells]
theorem does_build_item {o : Oper} {a : Act} {w : World} {R : Value → World → Prop} (x : Operand) (ho : o.op = .buildSlice 27 1 #[(0, x)]) (n : Int) (S : Option Addr) (k c : Nat) (hx : a.eval x = .agg #[.int .i64 n, .slice S k c]) (h : R (.slice (some ⟨w.heap.size, 0, none⟩) 1 1) (w.alloc (.cells #[.int .i64 n, .slice S k c] 36))) : doesR Try.prog o a w R := by
  unfold doesR execOp
  simp only [ho, List.map_toArray, List.map_cons, List.map_nil, hx, Sem.run_bind, build_item, Result.andThen_ok]
  exact h
theorem ItV.snoc {w : World} {l : List Itm} {cs news : List Value} {B : Nat} {p : Itm} (h : ItV w (Nu w) l cs) (hp : p.ok) (hn : NewI B p news w) : ItV w (Nu w) (l ++ [p]) (cs ++ news) := by
  obtain ⟨S, c, rfl, ho⟩ := hn
  exact h.add hp (bt_own ho rfl)
/-- What New comes to. -/
def NPost (b t : Int) (w : World) (r : Ending) (w' : World) : Prop :=
  ((0 ≤ b ∧ b ≤ 1099511627776 ∧ 0 ≤ t ∧ t ≤ 1099511627776) ∧ ∃ g, w.heap.size ≤ g ∧ r = .returned (.pointer (some ⟨g, 0, none⟩)) ∧ Lat w' g (.slice none 0 0) ⟨b, t, []⟩ ∧ Turn (fun _ => False) w w') ∨
  (¬ (0 ≤ b ∧ b ≤ 1099511627776 ∧ 0 ≤ t ∧ t ≤ 1099511627776) ∧ r = .returned (.pointer none) ∧ Turn (fun _ => False) w w')
theorem lat_new (w : World) (b t : Int) (h : 0 ≤ b ∧ b ≤ 1099511627776 ∧ 0 ≤ t ∧ t ≤ 1099511627776) : Lat (w.alloc (.cells #[.int .i64 b, .int .i64 t, .slice none 0 0] 66)) w.heap.size (.slice none 0 0) ⟨b, t, []⟩ :=
  ⟨heap_alloc_new _ _, ⟨[], ⟨rfl, fun i p hi => by simp at hi⟩, World.ownsRow_nil _ _ _ _⟩, ⟨h.1, h.2.1, h.2.2.1, h.2.2.2, fun p hp => by simp at hp, by simp, by simp; exact h.2.1⟩⟩
set_option maxHeartbeats 2000000 in
theorem lnew_any (b t : Int) (w : World) : Calls Try.prog 9 #[.int .i64 b, .int .i64 t] w (NPost b t w) := by
  have T1 := within_in b w
  have T2 := within_in t w
  unfold NPost
  have HL := Lib.hid (lat_new w b t)
  by_cases hb : inP b
  rotate_left
  · rw [decide_eq_false hb] at T1
    have T1 := Lib.hid T1
    have HN := Lib.hid (show ¬ (0 ≤ b ∧ b ≤ 1099511627776 ∧ 0 ≤ t ∧ t ≤ 1099511627776) from fun h => hb ⟨h.1, h.2.1⟩)
    clear T2 HL hb
    go_enter Try.func9, Try.ntmps9
    go_wp2_with (go_at_call 30; refine stop ?_)
    unfold Stop
    refine T1.out.mono ?_
    rintro r w1 ⟨rfl, hw⟩
    rw [hw]
    clear hw w1
    go_wp2
    go_ret
    exact .inr ⟨HN.out, rfl, Turn.refl _ _⟩
  by_cases ht : inP t
  rotate_left
  · rw [decide_eq_true hb] at T1
    rw [decide_eq_false ht] at T2
    have T1 := Lib.hid T1
    have T2 := Lib.hid T2
    have HN := Lib.hid (show ¬ (0 ≤ b ∧ b ≤ 1099511627776 ∧ 0 ≤ t ∧ t ≤ 1099511627776) from fun h => ht ⟨h.2.2.1, h.2.2.2⟩)
    clear HL hb ht
    go_enter Try.func9, Try.ntmps9
    go_wp2_with (go_at_call 30; refine stop ?_)
    unfold Stop
    refine T1.out.mono ?_
    rintro r w1 ⟨rfl, hw⟩
    rw [hw]
    clear hw w1
    go_wp2_with (go_at_call 30; refine stop ?_)
    unfold Stop
    refine T2.out.mono ?_
    rintro r w1 ⟨rfl, hw⟩
    rw [hw]
    clear hw w1
    go_wp2
    go_ret
    exact .inr ⟨HN.out, rfl, Turn.refl _ _⟩
  rw [decide_eq_true hb] at T1
  rw [decide_eq_true ht] at T2
  have T1 := Lib.hid T1
  have T2 := Lib.hid T2
  have HN := Lib.hid (show (0 ≤ b ∧ b ≤ 1099511627776 ∧ 0 ≤ t ∧ t ≤ 1099511627776) from ⟨hb.1, hb.2, ht.1, ht.2⟩)
  clear hb ht
  go_enter Try.func9, Try.ntmps9
  go_wp2_with (go_at_call 30; refine stop ?_)
  unfold Stop
  refine T1.out.mono ?_
  rintro r w1 ⟨rfl, hw⟩
  rw [hw]
  clear hw w1
  go_wp2_with (go_at_call 30; refine stop ?_)
  unfold Stop
  refine T2.out.mono ?_
  rintro r w1 ⟨rfl, hw⟩
  rw [hw]
  clear hw w1
  go_wp2
  go_ret
  exact .inl ⟨HN.out, _, Nat.le_refl _, rfl, HL.out HN.out, (Turn.refl _ _).alloc _⟩
end Go.Proofs.Ytgjplbanfnomkaa
