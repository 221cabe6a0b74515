/- The document's reader of letters. -/
import Derived.Test.YtgjplbanfnomkaaLtJ
import Derived.BigRegion
import Derived.Maps.AppendAt
import Derived.Deep.RegionLaw
import Derived.StillTailTactics
set_option linter.unusedVariables false
set_option linter.unusedSimpArgs false
namespace Go.Proofs.Ytgjplbanfnomkaa
open Go.RowKit
abbrev ZLt : Array Value := ltC none 0 none 0 zL
set_option maxRecDepth 100000 in
theorem step_call {P : Program} {w : World} {ops : Array Oper} {o : Oper} {a : Act} {K : Act → World → Prop} {Q : Exit → Act → World → Prop} {E : Prop} (hgd : o.guard = none) (f : FuncId) (args : Array Value)
    (hr : (execOp a.eval o).run P w = .ok (.enter f args) w) (hc : Calls P f args w fun r w' => ∃ v, r = .returned v ∧ K (a.put o.dst v) w') :
    if Region.wanted o (yielded ops a.tmps) = true then Oper.wp P o a w K Q else E := by
  have hw : Region.wanted o (yielded ops a.tmps) = true := by simp [Region.wanted, hgd]
  rw [if_pos hw]
  unfold Oper.wp
  rw [hr]
  refine Calls.mono hc ?_
  rintro r w' ⟨v, rfl, hk⟩
  exact hk
set_option maxRecDepth 100000 in
theorem own_turn2 {S : Nat → Prop} {w w' : World} {base s n : Nat} {e : TypeId} {v : Value} {xs : List Value} (t : Turn S w w') (ho : w.ownsRow base e s v n xs) (hn : ∀ g, v.ownBlock = some g → ¬ S g) : w'.ownsRow base e s v n xs := by
  obtain ⟨h1, h2⟩ := ho
  refine ⟨h1, ?_⟩
  rcases h2 with h2 | ⟨g, cap, cur, rfl, hg, hh, r⟩
  · exact .inl h2
  · exact .inr ⟨g, cap, cur, rfl, hg, t.heap hh (hn g rfl), r⟩
section
variable {W Z : Nat} {w wr w' : World} {s s' : Rs} {A S : Option Addr} {cA cS : Nat} {lt lt' : Ltr}
end
set_option maxRecDepth 100000 in
theorem set8 {w : World} {x : Nat} {a b c d e f g h : Value} {t : TypeId} (H : w.heap[x]? = some (.cells #[a, b, c, d, e, f, g, h] t (0, 0))) (a' b' c' d' e' f' g' h' : Value) :
    ((((((((w.setCell ⟨x, 0, none⟩ a').setCell ⟨x, 1, none⟩ b').setCell ⟨x, 2, none⟩ c').setCell ⟨x, 3, none⟩ d').setCell ⟨x, 4, none⟩ e').setCell ⟨x, 5, none⟩ f').setCell ⟨x, 6, none⟩ g').setCell ⟨x, 7, none⟩ h').heap[x]? = some (.cells #[a', b', c', d', e', f', g', h'] t (0, 0)) ∧
    Turn (fun i => i = x) w ((((((((w.setCell ⟨x, 0, none⟩ a').setCell ⟨x, 1, none⟩ b').setCell ⟨x, 2, none⟩ c').setCell ⟨x, 3, none⟩ d').setCell ⟨x, 4, none⟩ e').setCell ⟨x, 5, none⟩ f').setCell ⟨x, 6, none⟩ g').setCell ⟨x, 7, none⟩ h') := by
  have h0 : (w.setCell ⟨x, 0, none⟩ a').heap[x]? = some (.cells #[a', b, c, d, e, f, g, h] t (0, 0)) := by rw [heap_setCell_same _ x 0 _ _ _ H]; rfl
  have h1 : ((w.setCell ⟨x, 0, none⟩ a').setCell ⟨x, 1, none⟩ b').heap[x]? = some (.cells #[a', b', c, d, e, f, g, h] t (0, 0)) := by rw [heap_setCell_same _ x 1 _ _ _ h0]; rfl
  have h2 : (((w.setCell ⟨x, 0, none⟩ a').setCell ⟨x, 1, none⟩ b').setCell ⟨x, 2, none⟩ c').heap[x]? = some (.cells #[a', b', c', d, e, f, g, h] t (0, 0)) := by rw [heap_setCell_same _ x 2 _ _ _ h1]; rfl
  have h3 : ((((w.setCell ⟨x, 0, none⟩ a').setCell ⟨x, 1, none⟩ b').setCell ⟨x, 2, none⟩ c').setCell ⟨x, 3, none⟩ d').heap[x]? = some (.cells #[a', b', c', d', e, f, g, h] t (0, 0)) := by rw [heap_setCell_same _ x 3 _ _ _ h2]; rfl
  have h4 : (((((w.setCell ⟨x, 0, none⟩ a').setCell ⟨x, 1, none⟩ b').setCell ⟨x, 2, none⟩ c').setCell ⟨x, 3, none⟩ d').setCell ⟨x, 4, none⟩ e').heap[x]? = some (.cells #[a', b', c', d', e', f, g, h] t (0, 0)) := by rw [heap_setCell_same _ x 4 _ _ _ h3]; rfl
  have h5 : ((((((w.setCell ⟨x, 0, none⟩ a').setCell ⟨x, 1, none⟩ b').setCell ⟨x, 2, none⟩ c').setCell ⟨x, 3, none⟩ d').setCell ⟨x, 4, none⟩ e').setCell ⟨x, 5, none⟩ f').heap[x]? = some (.cells #[a', b', c', d', e', f', g, h] t (0, 0)) := by rw [heap_setCell_same _ x 5 _ _ _ h4]; rfl
  have h6 : (((((((w.setCell ⟨x, 0, none⟩ a').setCell ⟨x, 1, none⟩ b').setCell ⟨x, 2, none⟩ c').setCell ⟨x, 3, none⟩ d').setCell ⟨x, 4, none⟩ e').setCell ⟨x, 5, none⟩ f').setCell ⟨x, 6, none⟩ g').heap[x]? = some (.cells #[a', b', c', d', e', f', g', h] t (0, 0)) := by rw [heap_setCell_same _ x 6 _ _ _ h5]; rfl
  have h7 : ((((((((w.setCell ⟨x, 0, none⟩ a').setCell ⟨x, 1, none⟩ b').setCell ⟨x, 2, none⟩ c').setCell ⟨x, 3, none⟩ d').setCell ⟨x, 4, none⟩ e').setCell ⟨x, 5, none⟩ f').setCell ⟨x, 6, none⟩ g').setCell ⟨x, 7, none⟩ h').heap[x]? = some (.cells #[a', b', c', d', e', f', g', h'] t (0, 0)) := by rw [heap_setCell_same _ x 7 _ _ _ h6]; rfl
  have t0 : Turn (fun i => i = x) w (w.setCell ⟨x, 0, none⟩ a') := set_turn w x 0 a'
  have t1 : Turn (fun i => i = x) w ((w.setCell ⟨x, 0, none⟩ a').setCell ⟨x, 1, none⟩ b') := t0.trans (set_turn _ x 1 b') (fun _ _ h => h)
  have t2 : Turn (fun i => i = x) w (((w.setCell ⟨x, 0, none⟩ a').setCell ⟨x, 1, none⟩ b').setCell ⟨x, 2, none⟩ c') := t1.trans (set_turn _ x 2 c') (fun _ _ h => h)
  have t3 : Turn (fun i => i = x) w ((((w.setCell ⟨x, 0, none⟩ a').setCell ⟨x, 1, none⟩ b').setCell ⟨x, 2, none⟩ c').setCell ⟨x, 3, none⟩ d') := t2.trans (set_turn _ x 3 d') (fun _ _ h => h)
  have t4 : Turn (fun i => i = x) w (((((w.setCell ⟨x, 0, none⟩ a').setCell ⟨x, 1, none⟩ b').setCell ⟨x, 2, none⟩ c').setCell ⟨x, 3, none⟩ d').setCell ⟨x, 4, none⟩ e') := t3.trans (set_turn _ x 4 e') (fun _ _ h => h)
  have t5 : Turn (fun i => i = x) w ((((((w.setCell ⟨x, 0, none⟩ a').setCell ⟨x, 1, none⟩ b').setCell ⟨x, 2, none⟩ c').setCell ⟨x, 3, none⟩ d').setCell ⟨x, 4, none⟩ e').setCell ⟨x, 5, none⟩ f') := t4.trans (set_turn _ x 5 f') (fun _ _ h => h)
  have t6 : Turn (fun i => i = x) w (((((((w.setCell ⟨x, 0, none⟩ a').setCell ⟨x, 1, none⟩ b').setCell ⟨x, 2, none⟩ c').setCell ⟨x, 3, none⟩ d').setCell ⟨x, 4, none⟩ e').setCell ⟨x, 5, none⟩ f').setCell ⟨x, 6, none⟩ g') := t5.trans (set_turn _ x 6 g') (fun _ _ h => h)
  have t7 : Turn (fun i => i = x) w ((((((((w.setCell ⟨x, 0, none⟩ a').setCell ⟨x, 1, none⟩ b').setCell ⟨x, 2, none⟩ c').setCell ⟨x, 3, none⟩ d').setCell ⟨x, 4, none⟩ e').setCell ⟨x, 5, none⟩ f').setCell ⟨x, 6, none⟩ g').setCell ⟨x, 7, none⟩ h') := t6.trans (set_turn _ x 7 h') (fun _ _ h => h)
  exact ⟨h7, t7⟩
set_option maxRecDepth 100000 in
theorem zlt_one : ZLt.all (·.oneCell') = true := by simp [Value.oneCell']
set_option maxRecDepth 100000 in
theorem step_append_row {P : Program} {w : World} {ops : Array Oper} {o : Oper} {a : Act} {K : Act → World → Prop} {Q : Exit → Act → World → Prop} {E : Prop} (hgd : o.guard = none) (s x : Operand) (t : TypeId)
    (ho : o.op = .call { callee := .builtin .append, args := #[s, x], argTypes := #[t, t] })
    (base : Nat) (e : TypeId) (i : TypeInfo) (z : Value) (size bytes : Nat) (ht : P.underlying t = some (.slice e)) (hi : P.info? e = some i) (hz : i.zero = some z)
    (hsize : i.size = size) (hby : i.bytes = bytes) (hzs : z.cells.size = size) (hsz : 0 < size)
    (v : Value) (n : Nat) (xs : List Value) (hs : a.eval s = v) (hown : w.ownsRow base e size v n xs)
    (ad : Addr) (m c : Nat) (news : List Value) (hx : a.eval x = .slice (some ad) m c) (hl : news.length = m * size) (hnews : ∀ j u, news[j]? = some u → w.cell? (ad.add j) = some u) (h1 : ∀ u ∈ news, u.oneCell' = true)
    (h63 : n + m ≤ maxLen) (hbytes : (n + m) * bytes ≤ 140737488355328) (hbase : base ≤ w.heap.size)
    (h : ∀ v' w', w'.ownsRow base e size v' (n + m) (xs ++ news) → w.grownBy w' v.ownBlock → (v'.ownBlock = v.ownBlock ∨ v'.ownBlock = some w.heap.size) → K (a.put o.dst v') w') :
    if Region.wanted o (yielded ops a.tmps) = true then Oper.wp P o a w K Q else E := by
  have hw : Region.wanted o (yielded ops a.tmps) = true := by simp [Region.wanted, hgd]
  rw [if_pos hw]
  obtain ⟨v', w', hr, h2, h3, h4, h5⟩ := run_append_own_at (P := P) w base t o.type e i z size bytes ht hi hz hsize hby hzs hsz v n xs hown ad m c news hl hnews h1 h63 hbytes hbase
  unfold Oper.wp execOp
  simp only [ho, resolve, invoke, builtin, Sem.run_bind, Sem.run_pure, Result.andThen_ok, List.map_toArray, List.map_cons, List.map_nil, hs, hx, hr]
  exact h v' w' h2 h3 h5
set_option maxRecDepth 100000 in
theorem zL_at (w : World) (N : Nat → Prop) : LtN w N none 0 none 0 zL := by
  have z : i64R 0 := by unfold i64R; omega
  exact ⟨fun i p h => by simp [zL] at h, fun _ => rfl, Nat.le_refl _, Nat.zero_le _, ⟨fun j u h => by simp [zL] at h, fun _ => rfl, Nat.le_refl _⟩, Nat.zero_le _, z, z, z, z, z⟩
/-- What reading a letter comes to. -/
def LPost (b : List B8) (w : World) (r : Ending) (w' : World) : Prop := ∃ A cA S cS, r = .returned (.tuple #[ltV A cA S cS (rdV b), .int .i64 ((rdE b : Nat) : Int)]) ∧ LtN w' (fun _ => False) A cA S cS (rdV b) ∧ Turn (fun _ => False) w w'
end Go.Proofs.Ytgjplbanfnomkaa
