/- The document's reader of letters. -/
import Derived.Test.YtaicpclkdpbacaaLtJ
import Derived.BigRegion
import Derived.Maps.AppendAt
import Derived.Deep.RegionLaw
import Derived.StillTailTactics
set_option linter.unusedVariables false
set_option linter.unusedSimpArgs false
namespace Go.Proofs.Ytaicpclkdpbacaa
open Go.RowKit
abbrev ZLt : Array Value := ltC none 0 none 0 zL
theorem step_call {P : Program} {w : World} {ops : Array Oper} {o : Oper} {a : Act} {K : Act → World → Prop} {Q : Exit → Act → World → Prop} {E : Prop} (hgd : o.guard = none) (f : FuncId) (args : Array Value)
    (hr : (execOp a.eval o).run P w = .ok (.enter f args) w) (hc : Calls P f args w fun r w' => ∃ v, r = .returned v ∧ K (a.put o.dst v) w') :
    if Region.wanted o (yielded ops a.tmps) = true then Oper.wp P o a w K Q else E := by
  have hw : Region.wanted o (yielded ops a.tmps) = true := by simp [Region.wanted, hgd]
  rw [if_pos hw]
  unfold Oper.wp
  rw [hr]
  refine Calls.mono hc ?_
  rintro r w' ⟨v, rfl, hk⟩
  exact hk
/-- Where the document's reading stands in memory. -/
structure DSt (W Z : Nat) (w wr : World) (s : Rs) (A : Option Addr) (cA : Nat) (S : Option Addr) (cS : Nat) (lt : Ltr) : Prop where
  y : YS wr (fun i => W ≤ i) (W + 1) s.e s.l
  r : LBx wr W none 0 none 0 zL
  t : LBx wr (Z) A cA S cS lt
  n : Turn (fun _ => False) w wr
  it : ∃ cs, wr.ownsRow (Z + 1) 40 2 (.slice A lt.its.length cA) lt.its.length cs ∧ ItV wr (fun i => W ≤ i) lt.its cs
  b : BtN wr (fun i => W ≤ i) S cS lt.b
  z : Z + 1 ≤ wr.heap.size
  q : W + 2 ≤ Z
theorem own_turn2 {S : Nat → Prop} {w w' : World} {base s n : Nat} {e : TypeId} {v : Value} {xs : List Value} (t : Turn S w w') (ho : w.ownsRow base e s v n xs) (hn : ∀ g, v.ownBlock = some g → ¬ S g) : w'.ownsRow base e s v n xs := by
  obtain ⟨h1, h2⟩ := ho
  refine ⟨h1, ?_⟩
  rcases h2 with h2 | ⟨g, cap, cur, rfl, hg, hh, r⟩
  · exact .inl h2
  · exact .inr ⟨g, cap, cur, rfl, hg, t.heap hh (hn g rfl), r⟩
section
variable {W Z : Nat} {w wr w' : World} {s s' : Rs} {A S : Option Addr} {cA cS : Nat} {lt lt' : Ltr}
theorem DSt.num (h : DSt W Z w wr s A cA S cS lt) (hW : W = w.heap.size) (hy : YS w' (fun i => W ≤ i) (W + 1) s'.e s'.l) (t : Turn (fun i => i = W + 1) wr w') : DSt W Z w w' s' A cA S cS lt := by
  have hq := h.q
  obtain ⟨cs, ho, hv⟩ := h.it
  refine ⟨hy, h.r.turn t (by omega), h.t.turn t (by omega), h.n.trans t (fun i hi e => by have e : i = W + 1 := e; omega), ⟨cs, own_turn2 t ho (fun g e hg => by have := (ho.lt g e).1; have hg : g = W + 1 := hg; omega), hv.turn t (fun i e => by have e : i = W + 1 := e; show W ≤ i; omega) (fun _ _ h => h)⟩, h.b.turn t (fun i e => by have e : i = W + 1 := e; show W ≤ i; omega) (fun _ _ h => h), Nat.le_trans h.z t.size, h.q⟩
theorem DSt.set (h : DSt W Z w wr s A cA S cS lt) (hW : W = w.heap.size) (o : Nat) (v : Value) (A' S' : Option Addr) (cA' cS' : Nat) (hv : (ltC A cA S cS lt).setIfInBounds o v = ltC A' cA' S' cS' lt')
    (hit : lt'.its = lt.its ∧ A' = A ∧ cA' = cA) (hb : BtN wr (fun i => W ≤ i) S' cS' lt'.b) : DSt W Z w (wr.setCell ⟨Z, o, none⟩ v) s A' cA' S' cS' lt' := by
  have hq := h.q
  obtain ⟨cs, ho, hi⟩ := h.it
  obtain ⟨e1, rfl, rfl⟩ := hit
  have t := set_turn wr (Z) o v
  have hN : ∀ i, i = Z → W ≤ i := fun i e => by omega
  obtain ⟨Ay, cy, ny, hyr, hyl⟩ := h.y
  refine ⟨⟨Ay, cy, ny, t.heap hyr (by omega), fun h0 => ?_⟩, h.r.turn t (by omega), ?_, h.n.trans t (fun i hi e => by have e : i = Z := e; omega), ⟨cs, by rw [e1]; exact own_turn2 t ho (fun g e hg => by have := (ho.lt g e).1; have hg : g = Z := hg; omega), by rw [e1]; exact hi.turn t hN (fun _ _ h => h)⟩, hb.turn t hN (fun _ _ h => h), Nat.le_trans h.z t.size, h.q⟩
  · obtain ⟨a1, a2, a3⟩ := hyl h0
    exact ⟨a1, a2.turn t hN (fun _ _ h => h), a3⟩
  · show (wr.setCell ⟨Z, o, none⟩ v).heap[Z]? = _
    rw [heap_setCell_same wr (Z) o _ _ _ h.t, hv]
theorem DSt.drew (h : DSt W Z w wr s A cA S cS lt) : DSt W Z w wr.drew s A cA S cS lt := by
  have t : Turn (fun _ => False) wr wr.drew := (Turn.refl _ _).drew
  obtain ⟨Ay, cy, n, h1, h2⟩ := h.y
  obtain ⟨cs, ho, hi⟩ := h.it
  exact ⟨⟨Ay, cy, n, t.heap h1 (fun h => h), fun h0 => ⟨(h2 h0).1, (h2 h0).2.1.quiet t, (h2 h0).2.2⟩⟩, h.r.turn t (fun h => h), h.t.turn t (fun h => h), h.n.drew, ⟨cs, own_turn2 t ho (fun _ _ h => h), hi.turn t (fun _ h => h.elim) (fun _ _ h => h)⟩, h.b.quiet t, h.z, h.q⟩
theorem DSt.ys (h : DSt W Z w wr s A cA S cS lt) : ∃ Ay cy n, (wr.cell? ⟨W + 1, 0, none⟩ = some (.slice Ay n cy) ∧ wr.cell? ⟨W + 1, 1, none⟩ = some (.int .i64 (s.e : Int))) ∧ (wr.frozen? ⟨W + 1, 0, none⟩ = false ∧ wr.frozen? ⟨W + 1, 1, none⟩ = false) ∧ (s.e = 0 → n = s.l.length) ∧ wr.heap[W + 1]? = some (.cells #[.slice Ay n cy, .int .i64 (s.e : Int)] 61 (0, 0)) := by
  obtain ⟨Ay, cy, n, hyr, hyl⟩ := h.y
  obtain ⟨h1, h2⟩ := ys_row hyr
  exact ⟨Ay, cy, n, h1, h2, fun h0 => (hyl h0).1, hyr⟩
theorem DSt.ltN (h : DSt W Z w wr s A cA S cS lt) (hk : i64R lt.k ∧ i64R lt.t ∧ i64R lt.x ∧ i64R lt.y ∧ i64R lt.z) (hb : lt.b.length ≤ maxLen) (w' : World) (t : Turn (fun i => i = W ∨ i = W + 1) wr w') : LtN w' (fun _ => False) A cA S cS lt := by
  have hq := h.q
  obtain ⟨cs, ho, hi⟩ := h.it
  have hN : ∀ i, (i = W ∨ i = W + 1) → W ≤ i := fun i e => by rcases e with rfl | rfl <;> omega
  have ho' := own_turn2 t ho (fun g e hg => by have := (ho.lt g e).1; rcases hg with hg | hg <;> omega)
  have hi' := hi.turn (N' := fun _ => False) t hN (fun _ _ h => h.elim)
  obtain ⟨k1, k2, k3, k4, k5⟩ := hk
  refine ⟨hi'.itN ho' (fun _ h => .inr h), ?_, ?_, ?_, h.b.turn t hN (fun _ _ h => h.elim), hb, k1, k2, k3, k4, k5⟩
  · intro hA
    rcases ho.2 with ⟨e, h0⟩ | ⟨g, cap, cur, e, -⟩
    · injection e with e1 e2 e3
    · injection e with e1 e2 e3
      rw [hA] at e1; cases e1
  · rcases ho.2 with ⟨e, h0⟩ | ⟨g, cap, cur, e, -, -, hc, -⟩
    · injection e with e1 e2 e3
      omega
    · injection e with e1 e2 e3
      omega
  · rcases ho.2 with ⟨e, h0⟩ | ⟨g, cap, cur, e, -, -, hc, hm, -⟩
    · unfold maxLen; omega
    · omega
end
theorem set8 {w : World} {x : Nat} {a b c d e f g h : Value} {t : TypeId} (H : w.heap[x]? = some (.cells #[a, b, c, d, e, f, g, h] t (0, 0))) (a' b' c' d' e' f' g' h' : Value) :
    ((((((((w.setCell ⟨x, 0, none⟩ a').setCell ⟨x, 1, none⟩ b').setCell ⟨x, 2, none⟩ c').setCell ⟨x, 3, none⟩ d').setCell ⟨x, 4, none⟩ e').setCell ⟨x, 5, none⟩ f').setCell ⟨x, 6, none⟩ g').setCell ⟨x, 7, none⟩ h').heap[x]? = some (.cells #[a', b', c', d', e', f', g', h'] t (0, 0)) ∧
    Turn (fun i => i = x) w ((((((((w.setCell ⟨x, 0, none⟩ a').setCell ⟨x, 1, none⟩ b').setCell ⟨x, 2, none⟩ c').setCell ⟨x, 3, none⟩ d').setCell ⟨x, 4, none⟩ e').setCell ⟨x, 5, none⟩ f').setCell ⟨x, 6, none⟩ g').setCell ⟨x, 7, none⟩ h') := by
  have h0 : (w.setCell ⟨x, 0, none⟩ a').heap[x]? = some (.cells #[a', b, c, d, e, f, g, h] t (0, 0)) := by rw [heap_setCell_same _ x 0 _ _ _ H]; rfl
  have h1 : ((w.setCell ⟨x, 0, none⟩ a').setCell ⟨x, 1, none⟩ b').heap[x]? = some (.cells #[a', b', c, d, e, f, g, h] t (0, 0)) := by rw [heap_setCell_same _ x 1 _ _ _ h0]; rfl
  have h2 : (((w.setCell ⟨x, 0, none⟩ a').setCell ⟨x, 1, none⟩ b').setCell ⟨x, 2, none⟩ c').heap[x]? = some (.cells #[a', b', c', d, e, f, g, h] t (0, 0)) := by rw [heap_setCell_same _ x 2 _ _ _ h1]; rfl
  have h3 : ((((w.setCell ⟨x, 0, none⟩ a').setCell ⟨x, 1, none⟩ b').setCell ⟨x, 2, none⟩ c').setCell ⟨x, 3, none⟩ d').heap[x]? = some (.cells #[a', b', c', d', e, f, g, h] t (0, 0)) := by rw [heap_setCell_same _ x 3 _ _ _ h2]; rfl
  have h4 : (((((w.setCell ⟨x, 0, none⟩ a').setCell ⟨x, 1, none⟩ b').setCell ⟨x, 2, none⟩ c').setCell ⟨x, 3, none⟩ d').setCell ⟨x, 4, none⟩ e').heap[x]? = some (.cells #[a', b', c', d', e', f, g, h] t (0, 0)) := by rw [heap_setCell_same _ x 4 _ _ _ h3]; rfl
  have h5 : ((((((w.setCell ⟨x, 0, none⟩ a').setCell ⟨x, 1, none⟩ b').setCell ⟨x, 2, none⟩ c').setCell ⟨x, 3, none⟩ d').setCell ⟨x, 4, none⟩ e').setCell ⟨x, 5, none⟩ f').heap[x]? = some (.cells #[a', b', c', d', e', f', g, h] t (0, 0)) := by rw [heap_setCell_same _ x 5 _ _ _ h4]; rfl
  have h6 : (((((((w.setCell ⟨x, 0, none⟩ a').setCell ⟨x, 1, none⟩ b').setCell ⟨x, 2, none⟩ c').setCell ⟨x, 3, none⟩ d').setCell ⟨x, 4, none⟩ e').setCell ⟨x, 5, none⟩ f').setCell ⟨x, 6, none⟩ g').heap[x]? = some (.cells #[a', b', c', d', e', f', g', h] t (0, 0)) := by rw [heap_setCell_same _ x 6 _ _ _ h5]; rfl
  have h7 : ((((((((w.setCell ⟨x, 0, none⟩ a').setCell ⟨x, 1, none⟩ b').setCell ⟨x, 2, none⟩ c').setCell ⟨x, 3, none⟩ d').setCell ⟨x, 4, none⟩ e').setCell ⟨x, 5, none⟩ f').setCell ⟨x, 6, none⟩ g').setCell ⟨x, 7, none⟩ h').heap[x]? = some (.cells #[a', b', c', d', e', f', g', h'] t (0, 0)) := by rw [heap_setCell_same _ x 7 _ _ _ h6]; rfl
  have t0 : Turn (fun i => i = x) w (w.setCell ⟨x, 0, none⟩ a') := set_turn w x 0 a'
  have t1 : Turn (fun i => i = x) w ((w.setCell ⟨x, 0, none⟩ a').setCell ⟨x, 1, none⟩ b') := t0.trans (set_turn _ x 1 b') (fun _ _ h => h)
  have t2 : Turn (fun i => i = x) w (((w.setCell ⟨x, 0, none⟩ a').setCell ⟨x, 1, none⟩ b').setCell ⟨x, 2, none⟩ c') := t1.trans (set_turn _ x 2 c') (fun _ _ h => h)
  have t3 : Turn (fun i => i = x) w ((((w.setCell ⟨x, 0, none⟩ a').setCell ⟨x, 1, none⟩ b').setCell ⟨x, 2, none⟩ c').setCell ⟨x, 3, none⟩ d') := t2.trans (set_turn _ x 3 d') (fun _ _ h => h)
  have t4 : Turn (fun i => i = x) w (((((w.setCell ⟨x, 0, none⟩ a').setCell ⟨x, 1, none⟩ b').setCell ⟨x, 2, none⟩ c').setCell ⟨x, 3, none⟩ d').setCell ⟨x, 4, none⟩ e') := t3.trans (set_turn _ x 4 e') (fun _ _ h => h)
  have t5 : Turn (fun i => i = x) w ((((((w.setCell ⟨x, 0, none⟩ a').setCell ⟨x, 1, none⟩ b').setCell ⟨x, 2, none⟩ c').setCell ⟨x, 3, none⟩ d').setCell ⟨x, 4, none⟩ e').setCell ⟨x, 5, none⟩ f') := t4.trans (set_turn _ x 5 f') (fun _ _ h => h)
  have t6 : Turn (fun i => i = x) w (((((((w.setCell ⟨x, 0, none⟩ a').setCell ⟨x, 1, none⟩ b').setCell ⟨x, 2, none⟩ c').setCell ⟨x, 3, none⟩ d').setCell ⟨x, 4, none⟩ e').setCell ⟨x, 5, none⟩ f').setCell ⟨x, 6, none⟩ g') := t5.trans (set_turn _ x 6 g') (fun _ _ h => h)
  have t7 : Turn (fun i => i = x) w ((((((((w.setCell ⟨x, 0, none⟩ a').setCell ⟨x, 1, none⟩ b').setCell ⟨x, 2, none⟩ c').setCell ⟨x, 3, none⟩ d').setCell ⟨x, 4, none⟩ e').setCell ⟨x, 5, none⟩ f').setCell ⟨x, 6, none⟩ g').setCell ⟨x, 7, none⟩ h') := t6.trans (set_turn _ x 7 h') (fun _ _ h => h)
  exact ⟨h7, t7⟩
theorem zlt_one : ZLt.all (·.oneCell') = true := by simp [Value.oneCell']
theorem lt_info : (Try.prog.info? 25).map (·.size) = some 8 := by kernel_rfl
theorem does_store_zl {o : Oper} {a : Act} {w : World} {W : Nat} (x y : Operand) (ho : o.op = .store 25 x y) (hx : a.eval x = .pointer (some ⟨W, 0, none⟩)) (hy : a.eval y = .agg ZLt) (hg : LBx w W none 0 none 0 zL) : doesR Try.prog o a w (fun _ w' => True ∧ Stp w w') := by
  unfold doesR execOp
  simp only [ho, hx, hy, Instr.storeAt, Instr.sureAddr, Sem.run_bind, Sem.run_pure, Result.andThen_ok, run_storeVar_row w W _ 25 ZLt ZLt hg lt_info rfl zlt_one]
  refine ⟨trivial, rfl, rfl, rfl, by simp [World.setRow], fun k hk => ?_⟩
  by_cases hkg : k = W
  · subst hkg
    rw [setRow_heap w k ZLt ZLt _ _ hg]; exact hg.symm
  · exact setRow_other w W k ZLt hkg
theorem results_lt {fn : Func} {p u : Tmp} (h : fn.results = #[.cell p 25, .tmp u]) (tmps : Array Value) (w : World) (g : Nat) (cs : Array Value) (v : Value)
    (hp : tmps.getD p undef = .pointer (some ⟨g, 0, none⟩)) (hv : tmps.getD u undef = v) (hg : w.heap[g]? = some (.cells cs 25 (0, 0))) (hc : cs.size = 8) :
    (results fn tmps).run Try.prog w = .ok (.tuple #[.agg cs, v]) w := by
  rw [results_cell_tmp h, hp, hv]
  simp [asAddr, run_loadVar_row w g 25 25 cs (0, 0) _ hg Try.underlying25 rfl (by rw [hc]; kernel_rfl), Result.andThen]
theorem step_append_row {P : Program} {w : World} {ops : Array Oper} {o : Oper} {a : Act} {K : Act → World → Prop} {Q : Exit → Act → World → Prop} {E : Prop} (hgd : o.guard = none) (s x : Operand) (t : TypeId)
    (ho : o.op = .call { callee := .builtin .append, args := #[s, x], argTypes := #[t, t] })
    (base : Nat) (e : TypeId) (i : TypeInfo) (z : Value) (size bytes : Nat) (ht : P.underlying t = some (.slice e)) (hi : P.info? e = some i) (hz : i.zero = some z)
    (hsize : i.size = size) (hby : i.bytes = bytes) (hzs : z.cells.size = size) (hsz : 0 < size)
    (v : Value) (n : Nat) (xs : List Value) (hs : a.eval s = v) (hown : w.ownsRow base e size v n xs)
    (ad : Addr) (m c : Nat) (news : List Value) (hx : a.eval x = .slice (some ad) m c) (hl : news.length = m * size) (hnews : ∀ j u, news[j]? = some u → w.cell? (ad.add j) = some u) (h1 : ∀ u ∈ news, u.oneCell' = true)
    (h63 : n + m ≤ maxLen) (hbytes : (n + m) * bytes ≤ 140737488355328) (hbase : base ≤ w.heap.size)
    (h : ∀ v' w', w'.ownsRow base e size v' (n + m) (xs ++ news) → w.grownBy w' v.ownBlock → (v'.ownBlock = v.ownBlock ∨ v'.ownBlock = some w.heap.size) → K (a.put o.dst v') w') :
    if Region.wanted o (yielded ops a.tmps) = true then Oper.wp P o a w K Q else E := by
  have hw : Region.wanted o (yielded ops a.tmps) = true := by simp [Region.wanted, hgd]
  rw [if_pos hw]
  obtain ⟨v', w', hr, h2, h3, h4, h5⟩ := run_append_own_at (P := P) w base t o.type e i z size bytes ht hi hz hsize hby hzs hsz v n xs hown ad m c news hl hnews h1 h63 hbytes hbase
  unfold Oper.wp execOp
  simp only [ho, resolve, invoke, builtin, Sem.run_bind, Sem.run_pure, Result.andThen_ok, List.map_toArray, List.map_cons, List.map_nil, hs, hx, hr]
  exact h v' w' h2 h3 h5
/-- One item more. -/
theorem DSt.push {W Z : Nat} {w w8 w9 : World} {s : Rs} {A A' S : Option Addr} {cA c' cS : Nat} {k t x y z : Int} {q : Bool} {its : List Itm} {cs : List Value} {p : Itm} (h : DSt W Z w w8 s A cA none 0 ⟨k, t, x, y, z, q, its, []⟩) (hW : W = w.heap.size)
    (ho : w8.ownsRow (Z + 1) 40 2 (.slice A its.length cA) its.length cs) (hv : ItV w8 (fun i => W ≤ i) its cs) (hb : BtN w8 (fun i => W ≤ i) S cS p.b) (hp : p.ok)
    (t9 : Turn (fun i => some i = (Value.slice A its.length cA).ownBlock) w8 w9) (own9 : w9.ownsRow (Z + 1) 40 2 (.slice A' (its.length + 1) c') (its.length + 1) (cs ++ [.int .i64 p.t, .slice S p.b.length cS])) :
    DSt W Z w (w9.setCell ⟨Z, 6, none⟩ (.slice A' (its.length + 1) c')) s A' c' none 0 ⟨k, t, x, y, z, q, its ++ [p], []⟩ := by
  have hq := h.q
  have t10 := set_turn w9 Z 6 (.slice A' (its.length + 1) c')
  have hown : ∀ i, some i = (Value.slice A its.length cA).ownBlock → Z + 1 ≤ i := fun i e => (ho.lt i e.symm).1
  have tt : Turn (fun i => Z ≤ i) w8 (w9.setCell ⟨Z, 6, none⟩ (.slice A' (its.length + 1) c')) := (t9.mono (fun i _ e => by have := hown i e; show Z ≤ i; omega)).trans t10 (fun i _ e => by have e : i = Z := e; show Z ≤ i; omega)
  obtain ⟨Ay, cy, ny, hyr, hyl⟩ := h.y
  have hN : ∀ i, Z ≤ i → W ≤ i := fun i hi => by omega
  have hl9 : (its ++ [p]).length = its.length + 1 := by rw [List.length_append]; rfl
  refine ⟨⟨Ay, cy, ny, tt.heap hyr (by omega), fun h0 => ?_⟩, h.r.turn tt (by omega), ?_, h.n.trans tt (fun i hi e => by have e : Z ≤ i := e; omega), ⟨cs ++ [.int .i64 p.t, .slice S p.b.length cS], ?_, (hv.add hp hb).turn tt hN (fun _ _ h => h)⟩, ⟨fun j u hu => by simp at hu, fun _ => rfl, Nat.le_refl _⟩, Nat.le_trans h.z tt.size, hq⟩
  · obtain ⟨a1, a2, a3⟩ := hyl h0
    exact ⟨a1, a2.turn tt hN (fun _ _ h => h), a3⟩
  · have g9 : w9.heap[Z]? = _ := t9.heap h.t (fun e => by have := hown Z e; omega)
    show (w9.setCell ⟨Z, 6, none⟩ _).heap[Z]? = _
    rw [heap_setCell_same w9 Z 6 _ _ _ g9]
    show _ = some (Obj.cells #[.int .i64 k, .int .i64 t, .int .i64 x, .int .i64 y, .int .i64 z, .bool q, .slice A' (its ++ [p]).length c', .slice none 0 0] _ _)
    rw [hl9]; rfl
  · show World.ownsRow _ _ _ _ (.slice A' (its ++ [p]).length c') (its ++ [p]).length _
    rw [hl9]
    exact own_turn2 t10 own9 (fun g e hg => by have := (own9.lt g e).1; have hg : g = Z := hg; omega)
theorem zL_at (w : World) (N : Nat → Prop) : LtN w N none 0 none 0 zL := by
  have z : i64R 0 := by unfold i64R; omega
  exact ⟨fun i p h => by simp [zL] at h, fun _ => rfl, Nat.le_refl _, Nat.zero_le _, ⟨fun j u h => by simp [zL] at h, fun _ => rfl, Nat.le_refl _⟩, Nat.zero_le _, z, z, z, z, z⟩
/-- What reading a letter comes to. -/
def LPost (b : List B8) (w : World) (r : Ending) (w' : World) : Prop := ∃ A cA S cS, r = .returned (.tuple #[ltV A cA S cS (rdV b), .int .i64 ((rdE b : Nat) : Int)]) ∧ LtN w' (fun _ => False) A cA S cS (rdV b) ∧ Turn (fun _ => False) w w'
end Go.Proofs.Ytaicpclkdpbacaa
