/- Merged: A region that draws its order, whose operations read, call and make memory: one walk in the text's order serves every order. Each operation has one value, or one fact on its value and the world that stays. No program is named here. A drawn region whose last operations are forced (each waits for all before it): the head may come in any order, the tail is walked in the text's order. No program is named here. A region that draws its order, whose operations read and whose calls make memory: one walk in the text's order, over a class of worlds of one's own. No program is named here. The document's drum in memory: its sectors, what waits; keep. The document's drum: Sync. -/
import Derived.Still
import Derived.Below
import Derived.BigQuiet
import Derived.KernelRfl
import Derived.StillTail
import Derived.Deep.MidRow
import Derived.Test.YtajdcekkmikbcaaDoorM02
import Derived.Test.YtajdcekkmikbcaaDoorM03
import Derived.Test.YtajdcekkmikbcaaDoorM00
import Derived.LoopTactic
import Derived.Deep.QuietTactic
import Derived.OwnWalk
import Derived.Test.YtajdcekkmikbcaaDoorM04
import Derived.Deep.RegionLaw
import Derived.Laws.Rows
namespace Go.Proofs.YtajdcekkmikbcaaDoor
section

section
variable {P : Program}
abbrev Fct := Value → World → Prop
inductive Gv where
  | one (v : Value)
  | rel (G : Value → World → Prop)
def Gv.ok : Gv → Value → World → Prop
  | .one v, x, _ => x = v
  | .rel G, x, w => G x w
/-- What an operation comes to. -/
def doesR (P : Program) (o : Oper) (a : Act) (w : World) (R : Value → World → Prop) : Prop :=
  match (execOp a.eval o).run P w with
  | .ok (.value v) w' => R v w'
  | .ok .skip w' => R undef w'
  | .ok (.enter f args) w' => Calls P f args w' fun e w'' => ∃ v, e = .returned v ∧ R v w''
  | _ => False
theorem wp_of_does {o : Oper} {a a' : Act} {w : World} {R : Value → World → Prop} {K : Act → World → Prop} {Q : Exit → Act → World → Prop} (he : execOp a'.eval o = execOp a.eval o)
    (h : doesR P o a w R) (hK : ∀ v w', R v w' → K (a'.put o.dst v) w') : o.wp P a' w K Q := by
  unfold Oper.wp
  unfold doesR at h
  rw [he]
  generalize (execOp a.eval o).run P w = r at *
  cases r with
  | ok n w' =>
    cases n <;> simp only [Oper.upon] at h ⊢
    case value u => exact hK _ _ h
    case skip => exact hK _ _ h
    case enter f args => exact Calls.mono h (fun e w'' ⟨v, he, hR⟩ => by subst he; exact hK _ _ hR)
  | halt x w' => exact False.elim h

def bindsA (e : Edge) : Bool := Region.binds .any e
def befM (ops : List Oper) : List Nat :=
  ops.foldl (fun acc o => acc ++ [(o.after.toList.filter bindsA).foldl (fun s e => s ||| (1 <<< e.on) ||| acc.getD e.on 0) 0]) []
def befs (ops : List Oper) : List (List Nat) := (befM ops).map fun m => (List.range ops.length).filter fun j => m.testBit j
def looksOk (ops : List Oper) (b : List (List Nat)) (i : Nat) (t : Tmp) : Bool :=
  (List.range ops.length).all fun j => match ops[j]? with
    | none => true
    | some o => o.dst != some t || (if j < i then (b.getD i []).contains j else (j == i || (b.getD j []).contains i))
def relOk1 (ops : List Oper) (b : List (List Nat)) (i : Nat) : Bool :=
  match ops[i]? with
  | none => true
  | some o =>
    (match o.op with | .select .. => false | _ => true) &&
    ((o.after.toList.filter bindsA).all fun e => decide (e.on < i) && (b.getD i []).contains e.on) &&
    ((b.getD i []).all fun j => decide (j < i) && (o.after.toList.filter bindsA).any fun e => e.on == j || (b.getD e.on []).contains j) &&
    (match o.dst with | none => true | some t => (List.range i).all fun j => match ops[j]? with | none => true | some o' => o'.dst != some t) &&
    ((o.op.operands.toList.filterMap fun | .tmp t => some t | _ => none).all (looksOk ops b i)) &&
    (match o.guard with | none => true | some (g, _) => (b.getD i []).contains g)
def relOk (ops : List Oper) : Bool := (List.range ops.length).all (relOk1 ops (befs ops))

def retV (o : Oper) (u : Value) : Value := match o.dst with | none => undef | some _ => u
def AllF : List (Nat × Value × Fct) → World → Prop
  | [], _ => True
  | p :: l, w => p.2.2 p.2.1 w ∧ AllF l w
theorem AllF_iff (φ : List (Nat × Value × Fct)) (w : World) : AllF φ w ↔ ∀ p ∈ φ, p.2.2 p.2.1 w := by
  induction φ with
  | nil => simp [AllF]
  | cons p l ih => simp [AllF, ih]
def Obl (P : Program) (ops : List Oper) (St : World → World → Prop) (w0 : World) (k : Nat) (o : Oper) (g : Gv) (a : Act) (φ : List (Nat × Value × Fct)) : Prop :=
  match g with
  | .one v => if Region.wanted o (yielded ops.toArray a.tmps) then ∀ w, St w0 w → AllF (φ.filter fun p => ((befs ops).getD k []).contains p.1) w → doesR P o a w (fun u w' => retV o u = v ∧ St w w') else v = undef
  | .rel G => if Region.wanted o (yielded ops.toArray a.tmps) then ∀ w, St w0 w → AllF (φ.filter fun p => ((befs ops).getD k []).contains p.1) w → doesR P o a w (fun u w' => G (retV o u) w' ∧ St w w')
      else ∀ w, St w0 w → AllF (φ.filter fun p => ((befs ops).getD k []).contains p.1) w → G undef w
/-- The walk in the text's order. -/
def wpR (P : Program) (ops : List Oper) (St : World → World → Prop) (w0 : World) (Q : Act → World → Prop) : List Gv → List Oper → Nat → Act → List (Nat × Value × Fct) → Prop
  | _, [], _, a, φ => ∀ w, St w0 w → AllF φ w → Q a w
  | .one v :: gs, o :: rest, k, a, φ => Obl P ops St w0 k o (.one v) a φ ∧ wpR P ops St w0 Q gs rest (k + 1) (a.put o.dst v) φ
  | .rel G :: gs, o :: rest, k, a, φ => Obl P ops St w0 k o (.rel G) a φ ∧ ∀ x, wpR P ops St w0 Q gs rest (k + 1) (a.put o.dst x) ((k, x, G) :: φ)
  | [], _ :: _, _, _, _ => False
def Gv.val : Gv → Value → Value
  | .one v, _ => v
  | .rel _, x => x
def Gv.fact (k : Nat) (x : Value) : Gv → List (Nat × Value × Fct) → List (Nat × Value × Fct)
  | .one _, φ => φ
  | .rel G, φ => (k, x, G) :: φ
def runR (xs : Nat → Value) : Nat → List Gv → List Oper → Nat → Act → List (Nat × Value × Fct) → Act × List (Nat × Value × Fct)
  | i + 1, g :: gs, o :: rest, k, a, φ => runR xs i gs rest (k + 1) (a.put o.dst (g.val (xs k))) (g.fact k (xs k) φ)
  | _, _, _, _, a, φ => (a, φ)
variable {ops : List Oper} {St : World → World → Prop} {w0 : World} {Q : Act → World → Prop} {xs : Nat → Value}
theorem wpR_cons {g : Gv} {gs : List Gv} {o : Oper} {rest : List Oper} {k : Nat} {a : Act} {φ : List (Nat × Value × Fct)} (h : wpR P ops St w0 Q (g :: gs) (o :: rest) k a φ) (x : Value) :
    Obl P ops St w0 k o g a φ ∧ wpR P ops St w0 Q gs rest (k + 1) (a.put o.dst (g.val x)) (g.fact k x φ) := by
  cases g with
  | one v => exact h
  | rel G => exact ⟨h.1, h.2 x⟩
theorem wpR_use : ∀ (gs : List Gv) (l : List Oper) (k : Nat) (a : Act) (φ : List (Nat × Value × Fct)), wpR P ops St w0 Q gs l k a φ → ∀ (i : Nat) (o : Oper), l[i]? = some o →
    ∃ g, gs[i]? = some g ∧ Obl P ops St w0 (k + i) o g (runR xs i gs l k a φ).1 (runR xs i gs l k a φ).2
  | [], [], _, _, _, _, i, o, hi => by simp at hi
  | [], o' :: l, _, _, _, h, _, _, _ => by simp [wpR] at h
  | g :: gs, [], _, _, _, _, i, o, hi => by simp at hi
  | g :: gs, o' :: l, k, a, φ, h, i, o, hi => by
    obtain ⟨h1, h2⟩ := wpR_cons h (xs k)
    cases i with
    | zero => simp at hi; subst hi; exact ⟨g, rfl, by simpa [runR] using h1⟩
    | succ i =>
      obtain ⟨g', e, hO⟩ := wpR_use gs l (k + 1) _ _ h2 i o (by simpa using hi)
      exact ⟨g', by simpa using e, by rw [show k + (i + 1) = k + 1 + i by omega]; exact hO⟩
theorem wpR_end : ∀ (gs : List Gv) (l : List Oper) (k : Nat) (a : Act) (φ : List (Nat × Value × Fct)), wpR P ops St w0 Q gs l k a φ → ∀ w, St w0 w → AllF (runR xs l.length gs l k a φ).2 w → Q (runR xs l.length gs l k a φ).1 w
  | [], [], _, _, _, h, w, hs, hf => h w hs hf
  | [], o' :: l, _, _, _, h, _, _, _ => by simp [wpR] at h
  | g :: gs, [], _, _, _, h, w, hs, hf => by
    cases g <;> exact h w hs hf
  | g :: gs, o' :: l, k, a, φ, h, w, hs, hf => wpR_end gs l (k + 1) _ _ (wpR_cons h (xs k)).2 w hs hf
theorem runR_facts : ∀ (i : Nat) (gs : List Gv) (l : List Oper) (k : Nat) (a : Act) (φ : List (Nat × Value × Fct)), ∀ p ∈ (runR xs i gs l k a φ).2, p ∈ φ ∨ ∃ j G, j < i ∧ gs[j]? = some (.rel G) ∧ p = (k + j, xs (k + j), G)
  | 0, _, _, _, _, _, p, hp => .inl hp
  | i + 1, [], l, _, _, _, p, hp => .inl (by simpa [runR] using hp)
  | i + 1, g :: gs, [], _, _, _, p, hp => .inl (by simpa [runR] using hp)
  | i + 1, g :: gs, o :: l, k, a, φ, p, hp => by
    rcases runR_facts i gs l (k + 1) _ _ p hp with h | ⟨j, G, hj, hg, e⟩
    · cases g with
      | one v => exact .inl h
      | rel G =>
        simp only [Gv.fact, List.mem_cons] at h
        rcases h with h | h
        · exact .inr ⟨0, G, by omega, rfl, by simpa using h⟩
        · exact .inl h
    · exact .inr ⟨j + 1, G, by omega, by simpa using hg, by rw [show k + (j + 1) = k + 1 + j by omega]; exact e⟩
theorem put_size (a : Act) (d : Option Tmp) (v : Value) : (a.put d v).tmps.size = a.tmps.size := by cases d <;> simp [Act.put]
theorem put_defers (a : Act) (d : Option Tmp) (v : Value) : (a.put d v).defers = a.defers := by cases d <;> simp [Act.put]
theorem put_ne {a : Act} {d : Option Tmp} {v : Value} {t : Tmp} (h : d ≠ some t) : (a.put d v).tmps[t]? = a.tmps[t]? := by
  cases d with
  | none => rfl
  | some d => simp only [Act.put]; rw [Array.getElem?_setIfInBounds_ne (by intro e; exact h (by rw [e]))]
theorem put_eq {a : Act} {v : Value} {t : Tmp} (h : t < a.tmps.size) : (a.put (some t) v).tmps[t]? = some v := by
  simp [Act.put, h]
theorem runR_size : ∀ (i : Nat) (gs : List Gv) (l : List Oper) (k : Nat) (a : Act) (φ : List (Nat × Value × Fct)), (runR xs i gs l k a φ).1.tmps.size = a.tmps.size ∧ (runR xs i gs l k a φ).1.defers = a.defers
  | 0, _, _, _, _, _ => ⟨rfl, rfl⟩
  | i + 1, [], _, _, _, _ => ⟨rfl, rfl⟩
  | i + 1, g :: gs, [], _, _, _ => ⟨rfl, rfl⟩
  | i + 1, g :: gs, o :: l, k, a, φ => by
    have h := runR_size i gs l (k + 1) (a.put o.dst (g.val (xs k))) (g.fact k (xs k) φ)
    exact ⟨h.1.trans (put_size _ _ _), h.2.trans (put_defers _ _ _)⟩
theorem runR_out (t : Tmp) : ∀ (i : Nat) (gs : List Gv) (l : List Oper) (k : Nat) (a : Act) (φ : List (Nat × Value × Fct)), (∀ j o, j < i → l[j]? = some o → o.dst ≠ some t) → (runR xs i gs l k a φ).1.tmps[t]? = a.tmps[t]?
  | 0, _, _, _, _, _, _ => rfl
  | i + 1, [], _, _, _, _, _ => rfl
  | i + 1, g :: gs, [], _, _, _, _ => rfl
  | i + 1, g :: gs, o :: l, k, a, φ, h => by
    refine (runR_out t i gs l (k + 1) _ _ (fun j o' hj ho => h (j + 1) o' (by omega) (by simpa using ho))).trans ?_
    exact put_ne (h 0 o (by omega) rfl)
theorem runR_at (t : Tmp) : ∀ (i : Nat) (gs : List Gv) (l : List Oper) (k : Nat) (a : Act) (φ : List (Nat × Value × Fct)) (j : Nat) (o : Oper) (g : Gv), j < i → l[j]? = some o → gs[j]? = some g → o.dst = some t → t < a.tmps.size →
    (∀ j' o', j < j' → l[j']? = some o' → o'.dst ≠ some t) → (runR xs i gs l k a φ).1.tmps[t]? = some (g.val (xs (k + j)))
  | 0, _, _, _, _, _, j, _, _, hj, _, _, _, _, _ => by omega
  | i + 1, [], _, _, _, _, j, _, _, _, _, hg, _, _, _ => by simp at hg
  | i + 1, g' :: gs, [], _, _, _, j, _, _, _, ho, _, _, _, _ => by simp at ho
  | i + 1, g' :: gs, o' :: l, k, a, φ, j, o, g, hj, ho, hg, hd, ht, hu => by
    cases j with
    | zero =>
      simp at ho hg; subst ho hg
      refine (runR_out t i gs l (k + 1) _ _ (fun j o hj ho => hu (j + 1) o (by omega) (by simpa using ho))).trans ?_
      rw [hd]; exact put_eq ht
    | succ j =>
      have := runR_at t i gs l (k + 1) (a.put o'.dst (g'.val (xs k))) (g'.fact k (xs k) φ) j o g (by omega) (by simpa using ho) (by simpa using hg) hd (by rw [put_size]; exact ht) (fun j' o'' hj' ho' => hu (j' + 1) o'' (by omega) (by simpa using ho'))
      rw [show k + (j + 1) = k + 1 + j by omega]; exact this

/-- What the Bool says. -/
structure RelOk (ops : List Oper) : Prop where
  sel : ∀ (i : Nat) (o : Oper), ops[i]? = some o → ∀ cs b, o.op ≠ .select cs b
  edge : ∀ (i : Nat) (o : Oper), ops[i]? = some o → ∀ e ∈ o.after, Region.binds .any e = true → e.on < i ∧ e.on ∈ (befs ops).getD i []
  bef : ∀ (i : Nat) (o : Oper), ops[i]? = some o → ∀ j ∈ (befs ops).getD i [], j < i ∧ ∃ e ∈ o.after, Region.binds .any e = true ∧ (e.on = j ∨ j ∈ (befs ops).getD e.on [])
  dst : ∀ (i : Nat) (o : Oper) (j : Nat) (o' : Oper) (t : Tmp), ops[i]? = some o → ops[j]? = some o' → o.dst = some t → o'.dst = some t → i = j
  looks : ∀ (i : Nat) (o : Oper) (t : Tmp), ops[i]? = some o → .tmp t ∈ o.op.operands → ∀ (j : Nat) (o' : Oper), ops[j]? = some o' → o'.dst = some t → if j < i then j ∈ (befs ops).getD i [] else (j = i ∨ i ∈ (befs ops).getD j [])
  guard : ∀ (i : Nat) (o : Oper) (g : Nat) (b : Bool), ops[i]? = some o → o.guard = some (g, b) → g ∈ (befs ops).getD i []
theorem relOk_spec (h : relOk ops = true) : RelOk ops := by
  have h1 : ∀ (i : Nat) (o : Oper), ops[i]? = some o → relOk1 ops (befs ops) i = true := fun i o hi => by
    unfold relOk at h
    rw [List.all_eq_true] at h
    exact h i (List.mem_range.2 (List.getElem?_eq_some_iff.1 hi).1)
  have h2 : ∀ (i : Nat) (o : Oper), ops[i]? = some o → (match o.op with | .select .. => false | _ => true) = true ∧
    ((o.after.toList.filter bindsA).all fun e => decide (e.on < i) && ((befs ops).getD i []).contains e.on) = true ∧
    (((befs ops).getD i []).all fun j => decide (j < i) && (o.after.toList.filter bindsA).any fun e => e.on == j || ((befs ops).getD e.on []).contains j) = true ∧
    (match o.dst with | none => true | some t => (List.range i).all fun j => match ops[j]? with | none => true | some o' => o'.dst != some t) = true ∧
    ((o.op.operands.toList.filterMap fun | .tmp t => some t | _ => none).all (looksOk ops (befs ops) i)) = true ∧
    (match o.guard with | none => true | some (g, _) => ((befs ops).getD i []).contains g) = true := fun i o hi => by
    have := h1 i o hi
    unfold relOk1 at this
    rw [hi] at this
    simp only [Bool.and_eq_true] at this
    obtain ⟨⟨⟨⟨⟨a, b⟩, c⟩, d⟩, e⟩, f⟩ := this
    exact ⟨a, b, c, d, e, f⟩
  have hlt : ∀ (i : Nat) (o : Oper) (j : Nat) (o' : Oper) (t : Tmp), ops[i]? = some o → ops[j]? = some o' → o.dst = some t → o'.dst = some t → ¬ j < i := fun i o j o' t hi hj ho ho' hji => by
    have := (h2 i o hi).2.2.2.1
    rw [ho] at this
    simp only [List.all_eq_true, List.mem_range] at this
    have := this j hji
    rw [hj] at this
    simp [ho'] at this
  refine ⟨fun i o hi cs b e => ?_, fun i o hi e he hb => ?_, fun i o hi j hj => ?_, fun i o j o' t hi hj ho ho' => ?_, fun i o t hi ht j o' hj ho' => ?_, fun i o g b hi hg => ?_⟩
  · have := (h2 i o hi).1; rw [e] at this; cases this
  · have := (h2 i o hi).2.1
    rw [List.all_eq_true] at this
    have := this e (List.mem_filter.2 ⟨by simpa using he, hb⟩)
    simpa using this
  · have := (h2 i o hi).2.2.1
    rw [List.all_eq_true] at this
    have := this j hj
    simp only [Bool.and_eq_true, decide_eq_true_eq, List.any_eq_true] at this
    obtain ⟨h3, e, he, h4⟩ := this
    obtain ⟨he1, he2⟩ := List.mem_filter.1 he
    exact ⟨h3, e, by simpa using he1, he2, by simpa using h4⟩
  · rcases Nat.lt_trichotomy i j with h | h | h
    · exact absurd h (hlt j o' i o t hj hi ho' ho)
    · exact h
    · exact absurd h (hlt i o j o' t hi hj ho ho')
  · have := (h2 i o hi).2.2.2.2.1
    rw [List.all_eq_true] at this
    have := this t (List.mem_filterMap.2 ⟨.tmp t, by simpa using ht, rfl⟩)
    unfold looksOk at this
    rw [List.all_eq_true] at this
    have := this j (List.mem_range.2 (List.getElem?_eq_some_iff.1 hj).1)
    rw [hj] at this
    simp only [ho'] at this
    split <;> simp_all
  · have := (h2 i o hi).2.2.2.2.2
    rw [hg] at this
    simpa using this

def valOf (o : Oper) (a : Act) : Value := match o.dst with | none => undef | some t => a.tmps.getD t undef
structure InvR (ops : List Oper) (St : World → World → Prop) (w0 : World) (a0 : Act) (gs : List Gv) (listed : Array Bool) (a : Act) (w : World) : Prop where
  st : St w0 w
  defers : a.defers = a0.defers
  size : a.tmps.size = a0.tmps.size
  lsize : listed.size = ops.length
  down : ∀ (i : Nat) (o : Oper), ops[i]? = some o → listed.getD i false = true → ∀ e ∈ o.after, Region.binds .any e = true → listed.getD e.on false = true
  facts : ∀ (i : Nat) (o : Oper) (g : Gv), ops[i]? = some o → gs[i]? = some g → listed.getD i false = true → g.ok (valOf o a) w
  out : ∀ t, (∀ (i : Nat) (o : Oper), ops[i]? = some o → listed.getD i false = true → o.dst ≠ some t) → a.tmps[t]? = a0.tmps[t]?
section
variable {a0 : Act} {gs : List Gv} {listed : Array Bool} {a : Act} {w : World}
def xsOf (ops : List Oper) (a : Act) (i : Nat) : Value := match ops[i]? with | some o => valOf o a | none => undef
theorem InvR.lst (hr : RelOk ops) (h : InvR ops St w0 a0 gs listed a w) : ∀ (i : Nat) (o : Oper), ops[i]? = some o → (∀ e ∈ o.after, Region.binds .any e = true → listed.getD e.on false = true) → ∀ j ∈ (befs ops).getD i [], listed.getD j false = true := by
  intro i
  induction i using Nat.strongRecOn with
  | _ i ih =>
    intro o hi hall j hj
    obtain ⟨hji, e, he, hb, h1⟩ := hr.bef i o hi j hj
    have hel := hall e he hb
    rcases h1 with rfl | h1
    · exact hel
    · have hei := (hr.edge i o hi e he hb).1
      have hlen := (List.getElem?_eq_some_iff.1 hi).1
      have he' : ops[e.on]? = some (ops[e.on]'(by omega)) := List.getElem?_eq_getElem (by omega)
      exact ih e.on hei _ he' (h.down e.on _ he' hel) j h1
theorem slot_eq (hr : RelOk ops) (h : InvR ops St w0 a0 gs listed a w) (hin : ∀ (i : Nat) (o : Oper) (t : Tmp), ops[i]? = some o → o.dst = some t → t < a0.tmps.size) (hg : ∀ (i : Nat) (o : Oper), ops[i]? = some o → ∃ g, gs[i]? = some g)
    (i : Nat) (t : Tmp) (hb : ∀ j ∈ (befs ops).getD i [], listed.getD j false = true) (hi : listed.getD i false = false)
    (ht : ∀ (j : Nat) (o' : Oper), ops[j]? = some o' → o'.dst = some t → if j < i then j ∈ (befs ops).getD i [] else (j = i ∨ i ∈ (befs ops).getD j [])) :
    (runR (xsOf ops a) i gs ops 0 a0 []).1.tmps[t]? = a.tmps[t]? := by
  by_cases hc : ∃ j o, j < i ∧ ops[j]? = some o ∧ o.dst = some t
  · obtain ⟨j, o, hji, hj, hd⟩ := hc
    obtain ⟨g, hgj⟩ := hg j o hj
    have hlj : listed.getD j false = true := hb j (by have := ht j o hj hd; rwa [if_pos hji] at this)
    have hts := hin j o t hj hd
    rw [runR_at t i gs ops 0 a0 [] j o g hji hj hgj hd hts (fun j' o' hj' ho' e => by have := hr.dst j o j' o' t hj ho' hd e; omega)]
    have hv := h.facts j o g hj hgj hlj
    have e1 : valOf o a = a.tmps.getD t undef := by unfold valOf; rw [hd]
    have e2 : xsOf ops a (0 + j) = valOf o a := by unfold xsOf; rw [Nat.zero_add, hj]
    have hta : t < a.tmps.size := by rw [h.size]; exact hts
    have e3 : a.tmps[t]? = some (valOf o a) := by rw [e1, Array.getElem?_eq_getElem hta, Array.getD, dif_pos hta]; rfl
    rw [e3, e2]
    cases g with
    | one v => exact congrArg some hv.symm
    | rel G => rfl
  · rw [runR_out t i gs ops 0 a0 [] (fun j o hj ho e => hc ⟨j, o, hj, ho, e⟩)]
    refine (h.out t fun j o hj hl e => ?_).symm
    have hji : ¬ j < i := fun hlt => hc ⟨j, o, hlt, hj, e⟩
    have := ht j o hj e
    rw [if_neg hji] at this
    rcases this with rfl | hij
    · rw [hi] at hl; cases hl
    · have := h.lst hr j o hj (h.down j o hj hl) i hij
      rw [hi] at this; cases this
def unl (listed : Array Bool) : Nat := listed.toList.countP (fun b => !b)
theorem getD_lt {listed : Array Bool} {i : Nat} (h : i < listed.size) (d : Bool) : listed.getD i d = listed[i] := by simp [h]
theorem unl_set {listed : Array Bool} {i : Nat} (h : i < listed.size) (hf : listed.getD i false = false) : unl (listed.setIfInBounds i true) + 1 = unl listed := by
  unfold unl
  rw [Array.toList_setIfInBounds, List.countP_set (by simpa using h)]
  rw [getD_lt h] at hf
  have h1 : listed.toList[i]'(by simpa using h) = false := by simpa using hf
  have h2 : 0 < listed.toList.countP (fun b => !b) := List.countP_pos_iff.2 ⟨false, by rw [← h1]; exact List.getElem_mem _, rfl⟩
  rw [h1]
  simp only [Bool.not_false, Bool.not_true, if_true, Bool.false_eq_true, if_false]
  generalize List.countP _ listed.toList = c at *
  omega
theorem InvR.all (hr : RelOk ops) (h : InvR ops St w0 a0 gs listed a w) (h0 : Region.ready .any ops.toArray listed = []) : ∀ (i : Nat) (o : Oper), ops[i]? = some o → listed.getD i false = true := by
  intro i
  induction i using Nat.strongRecOn with
  | _ i ih =>
    intro o hi
    have hlen := (List.getElem?_eq_some_iff.1 hi).1
    by_cases hl : listed.getD i false = true
    · exact hl
    · have : i ∈ Region.ready .any ops.toArray listed := by
        refine mem_ready.2 ⟨?_, o, by simpa using hi, fun e he hb => ?_⟩
        · rw [getD_lt (by rw [h.lsize]; exact hlen)] at hl ⊢; simpa using hl
        · have hei := (hr.edge i o hi e he hb).1
          exact ih e.on hei _ (List.getElem?_eq_getElem (by omega))
      rw [h0] at this; cases this
theorem unl_zero {listed : Array Bool} (h : unl listed = 0) (i : Nat) : listed.getD i true = true := by
  by_cases hi : i < listed.size
  · rw [getD_lt hi]
    unfold unl at h
    rw [List.countP_eq_zero] at h
    have := h (listed.toList[i]'(by simpa using hi)) (List.getElem_mem _)
    simpa using this
  · simp [hi]
theorem InvR.next (hr : RelOk ops) (h : InvR ops St w0 a0 gs listed a w) (htrans : ∀ a b c, St a b → St b c → St a c) (hstab : ∀ (i : Nat) G, gs[i]? = some (.rel G) → ∀ v w w', G v w → St w w' → G v w')
    (hin : ∀ (i : Nat) (o : Oper) (t : Tmp), ops[i]? = some o → o.dst = some t → t < a0.tmps.size)
    {i : Nat} {o : Oper} {g : Gv} (hi : ops[i]? = some o) (hg : gs[i]? = some g) (hall : ∀ e ∈ o.after, Region.binds .any e = true → listed.getD e.on false = true) {v : Value} {w' : World} (hst : St w w') (hv : g.ok (retV o v) w') :
    InvR ops St w0 a0 gs (listed.setIfInBounds i true) (a.put o.dst v) w' := by
  have hold : ∀ j, (listed.setIfInBounds i true).getD j false = true → j ≠ i → listed.getD j false = true := fun j hj hne => by
    rwa [getD_set_ne false (Ne.symm hne)] at hj
  refine ⟨htrans _ _ _ h.st hst, (put_defers _ _ _).trans h.defers, (put_size _ _ _).trans h.size, by rw [Array.size_setIfInBounds]; exact h.lsize, fun j oj hj hl e he hb => ?_, fun j oj gj hj hgj hl => ?_, fun t ht => ?_⟩
  · by_cases hne : j = i
    · subst hne
      rw [hi] at hj; injection hj with hj; subst hj
      exact getD_set_true (hall e he hb)
    · exact getD_set_true (h.down j oj hj (hold j hl hne) e he hb)
  · by_cases hne : j = i
    · subst hne
      rw [hi] at hj; injection hj with hj; subst hj
      rw [hg] at hgj; injection hgj with hgj; subst hgj
      have e : valOf o (a.put o.dst v) = retV o v := by
        unfold valOf retV
        cases hd : o.dst with
        | none => rfl
        | some t =>
          have := put_eq (a := a) (v := v) (t := t) (by rw [h.size]; exact hin j o t hi hd)
          simp only
          simp [Array.getD_eq_getD_getElem?, this]
      rw [e]; exact hv
    · have hl' := hold j hl hne
      have h1 := h.facts j oj gj hj hgj hl'
      have e : valOf oj (a.put o.dst v) = valOf oj a := by
        unfold valOf
        cases hd : oj.dst with
        | none => rfl
        | some t =>
          have hn : o.dst ≠ some t := fun e => hne (hr.dst j oj i o t hj hi hd e)
          have := put_ne (a := a) (v := v) hn
          simp only
          simp [Array.getD_eq_getD_getElem?, this]
      rw [e]
      cases gj with
      | one u => exact h1
      | rel G => exact hstab j G hgj _ _ _ h1 hst
  · have hli : (listed.setIfInBounds i true).getD i false = true := by
      have : i < listed.size := by rw [h.lsize]; exact (List.getElem?_eq_some_iff.1 hi).1
      simp [this]
    rw [put_ne (ht i o hi hli)]
    exact h.out t fun j oj hj hl => ht j oj hj (getD_set_true hl)
theorem rel_any {Q : Exit → Act → World → Prop} (hr : RelOk ops) (hrefl : ∀ w, St w w) (htrans : ∀ a b c, St a b → St b c → St a c) (hstab : ∀ (i : Nat) G, gs[i]? = some (.rel G) → ∀ v w w', G v w → St w w' → G v w')
    (hin : ∀ (i : Nat) (o : Oper) (t : Tmp), ops[i]? = some o → o.dst = some t → t < a0.tmps.size) (hw : wpR P ops St w0 (fun a' w' => Q .normal a' w') gs ops 0 a0 []) :
    ∀ (fuel : Nat) (listed : Array Bool) (a : Act) (w : World), InvR ops St w0 a0 gs listed a w → unl listed ≤ fuel → wpAny P .any ops.toArray Q fuel listed a w := by
  have hg : ∀ (i : Nat) (o : Oper), ops[i]? = some o → ∃ g, gs[i]? = some g := fun i o hi => by
    obtain ⟨g, e, -⟩ := wpR_use (xs := fun _ => undef) gs ops 0 a0 [] hw i o hi; exact ⟨g, e⟩
  have hend : ∀ (listed : Array Bool) (a : Act) (w : World), InvR ops St w0 a0 gs listed a w → Region.ready .any ops.toArray listed = [] → Q .normal a w := by
    intro listed a w h h0
    have hl := h.all hr h0
    have hw' := wpR_end (xs := xsOf ops a) gs ops 0 a0 [] hw w h.st ((AllF_iff _ _).2 fun p hp => by
      rcases runR_facts _ _ _ _ _ _ p hp with hp | ⟨j, G, hj, hgj, rfl⟩
      · cases hp
      · have hoj : ops[j]? = some (ops[j]'hj) := List.getElem?_eq_getElem hj
        have := h.facts j _ _ hoj hgj (hl j _ hoj)
        show G (xsOf ops a (0 + j)) w
        rw [show xsOf ops a (0 + j) = valOf (ops[j]'hj) a by unfold xsOf; rw [Nat.zero_add, hoj]]
        exact this)
    have he : (runR (xsOf ops a) ops.length gs ops 0 a0 []).1 = a := by
      obtain ⟨s1, s2⟩ := runR_size (xs := xsOf ops a) ops.length gs ops 0 a0 []
      have htm : (runR (xsOf ops a) ops.length gs ops 0 a0 []).1.tmps = a.tmps := by
        apply Array.ext_getElem?
        intro t
        by_cases hc : ∃ (j : Nat) (o : Oper), ops[j]? = some o ∧ o.dst = some t
        · obtain ⟨j, o, hj, hd⟩ := hc
          obtain ⟨g, hgj⟩ := hg j o hj
          have hts := hin j o t hj hd
          have hlen := (List.getElem?_eq_some_iff.1 hj).1
          rw [runR_at t ops.length gs ops 0 a0 [] j o g hlen hj hgj hd hts (fun j' o' hj' ho' e => by have := hr.dst j o j' o' t hj ho' hd e; omega)]
          have hv := h.facts j o g hj hgj (hl j o hj)
          have e1 : valOf o a = a.tmps.getD t undef := by unfold valOf; rw [hd]
          have e2 : xsOf ops a (0 + j) = valOf o a := by unfold xsOf; rw [Nat.zero_add, hj]
          have hta : t < a.tmps.size := by rw [h.size]; exact hts
          have e3 : a.tmps[t]? = some (valOf o a) := by rw [e1, Array.getElem?_eq_getElem hta, Array.getD, dif_pos hta]; rfl
          rw [e3, e2]
          cases g with
          | one v => exact congrArg some hv.symm
          | rel G => rfl
        · rw [runR_out t ops.length gs ops 0 a0 [] (fun j o _ ho e => hc ⟨j, o, ho, e⟩)]
          exact (h.out t fun j o hj _ e => hc ⟨j, o, hj, e⟩).symm
      have hdf := s2.trans h.defers.symm
      generalize (runR (xsOf ops a) ops.length gs ops 0 a0 []).1 = r at htm hdf
      obtain ⟨t1, d1⟩ := r
      obtain ⟨t2, d2⟩ := a
      simp only at htm hdf
      rw [htm, hdf]
    rwa [he] at hw'
  intro fuel
  induction fuel with
  | zero =>
    intro listed a w h hu
    have h0 : Region.ready .any ops.toArray listed = [] := by
      rw [List.eq_nil_iff_forall_not_mem]
      intro j hj
      have := (mem_ready.1 hj).1
      rw [unl_zero (by omega) j] at this; cases this
    exact ⟨h0, hend listed a w h h0⟩
  | succ fuel ih =>
    intro listed a w h hu
    refine ⟨hend listed a w h, fun i hi => ?_⟩
    obtain ⟨hiu, o, hio, hall⟩ := mem_ready.1 hi
    have hio : ops[i]? = some o := by simpa using hio
    have hlen := (List.getElem?_eq_some_iff.1 hio).1
    have hil : i < listed.size := by rw [h.lsize]; exact hlen
    have hif : listed.getD i false = false := by rw [getD_lt hil] at hiu ⊢; exact hiu
    have hus := unl_set hil hif
    obtain ⟨g, hgi, hO⟩ := wpR_use (xs := xsOf ops a) gs ops 0 a0 [] hw i o hio
    rw [Nat.zero_add] at hO
    have hbl := h.lst hr i o hio hall
    have heq : ∀ t, (∀ (j : Nat) (o' : Oper), ops[j]? = some o' → o'.dst = some t → if j < i then j ∈ (befs ops).getD i [] else (j = i ∨ i ∈ (befs ops).getD j [])) → (runR (xsOf ops a) i gs ops 0 a0 []).1.tmps[t]? = a.tmps[t]? :=
      fun t ht => slot_eq hr h hin hg i t hbl hif ht
    have hev : execOp a.eval o = execOp (runR (xsOf ops a) i gs ops 0 a0 []).1.eval o := by
      refine execOp_congr o (hr.sel i o hio) fun x hx => ?_
      cases x with
      | tmp t =>
        have := heq t (hr.looks i o t hio hx)
        simp only [Act.eval, Array.getD_eq_getD_getElem?, this]
      | _ => rfl
    have hwt : Region.wanted o (yielded ops.toArray (runR (xsOf ops a) i gs ops 0 a0 []).1.tmps) = Region.wanted o (yielded ops.toArray a.tmps) := by
      unfold Region.wanted
      cases hgd : o.guard with
      | none => rfl
      | some gw =>
        obtain ⟨gi, want⟩ := gw
        simp only
        have hgb := hr.guard i o gi want hio hgd
        have hy : yielded ops.toArray (runR (xsOf ops a) i gs ops 0 a0 []).1.tmps gi = yielded ops.toArray a.tmps gi := by
          unfold yielded
          cases hog : ops.toArray[gi]? with
          | none => rfl
          | some og =>
            cases hdg : og.dst with
            | none => simp [hdg]
            | some t =>
              have := heq t fun j o' hj ho' => by
                have : gi = j := hr.dst gi og j o' t (by simpa using hog) hj hdg ho'
                subst this
                rw [if_pos (hr.bef i o hio gi hgb).1]; exact hgb
              simp [hdg, this]
        rw [hy]
    have hF : AllF ((runR (xsOf ops a) i gs ops 0 a0 []).2.filter fun p => ((befs ops).getD i []).contains p.1) w := (AllF_iff _ _).2 fun p hp => by
      obtain ⟨hp1, hp2⟩ := List.mem_filter.1 hp
      rcases runR_facts _ _ _ _ _ _ p hp1 with hp1 | ⟨j, G, hj, hgj, rfl⟩
      · cases hp1
      · have hjl : j < ops.length := by omega
        have hoj : ops[j]? = some (ops[j]'hjl) := List.getElem?_eq_getElem hjl
        have hjb : j ∈ (befs ops).getD i [] := by simpa using hp2
        have := h.facts j _ _ hoj hgj (hbl j hjb)
        show G (xsOf ops a (0 + j)) w
        rw [show xsOf ops a (0 + j) = valOf (ops[j]'hjl) a by unfold xsOf; rw [Nat.zero_add, hoj]]
        exact this
    unfold wpOp
    rw [show ops.toArray[i]? = some o by simpa using hio]
    simp only
    unfold Obl at hO
    by_cases hwd : Region.wanted o (yielded ops.toArray a.tmps) = true
    · rw [if_pos hwd]
      left
      cases g with
      | one v =>
        simp only [hwt, hwd, if_true] at hO
        exact wp_of_does hev (hO w h.st hF) fun u w' ⟨hu1, hu2⟩ => ih _ _ _ (h.next hr htrans hstab hin hio hgi hall hu2 hu1) (by omega)
      | rel G =>
        simp only [hwt, hwd, if_true] at hO
        exact wp_of_does hev (hO w h.st hF) fun u w' ⟨hu1, hu2⟩ => ih _ _ _ (h.next hr htrans hstab hin hio hgi hall hu2 hu1) (by omega)
    · rw [if_neg hwd]
      have hre : retV o undef = undef := by unfold retV; cases o.dst <;> rfl
      cases g with
      | one v =>
        simp only [hwt, hwd] at hO
        refine ih _ _ _ (h.next hr htrans hstab hin hio hgi hall (hrefl w) (v := undef) ?_) (by omega)
        rw [hre]; exact hO.symm
      | rel G =>
        simp only [hwt, hwd] at hO
        refine ih _ _ _ (h.next hr htrans hstab hin hio hgi hall (hrefl w) (v := undef) ?_) (by omega)
        rw [hre]; exact hO w h.st hF
end
theorem rep_false (n i : Nat) : (Array.replicate n false).getD i false = false := by by_cases h : i < n <;> simp [h]
def insB (ops : List Oper) (n : Nat) : Bool := ops.all fun o => match o.dst with | none => true | some t => decide (t < n)
def StabL (St : World → World → Prop) : List Gv → Prop
  | [] => True
  | .one _ :: l => StabL St l
  | .rel G :: l => (∀ v w w', G v w → St w w' → G v w') ∧ StabL St l
theorem stabL_spec {St : World → World → Prop} : ∀ (gs : List Gv), StabL St gs → ∀ (i : Nat) G, gs[i]? = some (.rel G) → ∀ v w w', G v w → St w w' → G v w'
  | [], _, i, G, hi => by simp at hi
  | .one v :: l, h, 0, G, hi => by simp at hi
  | .one v :: l, h, i + 1, G, hi => stabL_spec l h i G (by simpa using hi)
  | .rel G' :: l, h, 0, G, hi => by simp at hi; subst hi; exact h.1
  | .rel G' :: l, h, i + 1, G, hi => stabL_spec l h.2 i G (by simpa using hi)
/-- ONE WALK IN THE TEXT's ORDER SERVES EVERY ORDER: each operation has one value, or one fact; 'St': what one operation may do to the world that another one reads. -/
theorem wp_region_rel {id : Nat} {Q : Exit → Act → World → Prop} {a0 : Act} {w : World} (n : Nat) (St : World → World → Prop) (gs : List Gv) (hm : P.follows .mixedOrders = true) (hok : relOk ops = true) (hn : a0.tmps.size = n) (hin : insB ops n = true)
    (hrefl : ∀ w, St w w) (htrans : ∀ a b c, St a b → St b c → St a c) (hstab : StabL St gs)
    (h : wpR P ops St w.drew (fun a' w' => Q .normal a' w') gs ops 0 a0 []) : (Code.region id ops.toArray true).wp P Q a0 w := by
  refine wp_region_any hm (rel_any (relOk_spec hok) hrefl htrans (stabL_spec gs hstab) (fun i o t hi ht => ?_) h _ _ _ _ ?_ ?_)
  · unfold insB at hin
    rw [List.all_eq_true] at hin
    have := hin o (List.mem_of_getElem? hi)
    rw [ht] at this
    rw [hn]; simpa using this
  · exact ⟨hrefl _, rfl, rfl, by simp, fun i o hi hl => (by rw [rep_false] at hl; cases hl), fun i o g hi hg hl => (by rw [rep_false] at hl; cases hl), fun t _ => rfl⟩
  · unfold unl
    refine Nat.le_trans (List.countP_le_length) ?_
    simp

section
variable {gs : List Gv} {rest : List Oper} {k : Nat} {a A' : Act} {o : Oper} {φ : List (Nat × Value × Fct)} {v : Value}
theorem quiet_eq {C : World → Prop} {w : World} (hw : C w) {t : Tmp} (hd : o.dst = some t) (ht : t < a.tmps.size) (h : o.quiet P a C (fun a' => a' = a.put o.dst v)) : doesR P o a w (fun u w' => retV o u = v ∧ C w') := by
  obtain ⟨u, h1, h2⟩ := h
  have hu : u = v := by
    have := congrArg (fun x : Act => x.tmps[t]?) h2
    simp only [hd] at this
    rw [put_eq ht, put_eq ht] at this
    injection this
  subst hu
  have hr : ∀ z, retV o z = z := fun z => by unfold retV; rw [hd]
  have h3 := h1 w hw
  unfold Oper.quietAt at h3
  unfold doesR
  generalize (execOp a.eval o).run P w = r at *
  cases r with
  | ok n w' =>
    cases n <;> simp only [Oper.quietUpon] at h3 <;> simp only
    case value x => obtain ⟨e1, e2⟩ := h3; exact ⟨by rw [hr]; exact e2, by rw [e1]; exact hw⟩
    case skip => obtain ⟨e1, e2⟩ := h3; exact ⟨by rw [hr]; exact e2.symm, by rw [e1]; exact hw⟩
    case enter f args => obtain ⟨e1, hc⟩ := h3; rw [e1]; exact hc.mono fun e w'' ⟨he, hw''⟩ => ⟨u, he, hr u, hw''⟩
  | halt x w' => simp only [Oper.quietUpon] at h3
/-- One operation that has one value. -/
theorem wpR_one (hrefl : ∀ w, St w w) (hw : Region.wanted o (yielded ops.toArray a.tmps) = true) (t : Tmp) (hd : o.dst = some t) (n : Nat) (hn : a.tmps.size = n) (ht : decide (t < n) = true) (hA : a.put o.dst v = A')
    (h : ∀ w, St w0 w → AllF (φ.filter fun p => ((befs ops).getD k []).contains p.1) w → ∀ K : Act → Prop, (∀ a', a' = A' → K a') → o.quiet P a (fun w' => St w w') K)
    (hrest : wpR P ops St w0 Q gs rest (k + 1) A' φ) : wpR P ops St w0 Q (.one v :: gs) (o :: rest) k a φ := by
  subst hA
  refine ⟨?_, hrest⟩
  unfold Obl
  simp only [hw, if_true]
  intro w hs hf
  exact quiet_eq (C := fun w' => St w w') (hrefl w) hd (by rw [hn]; simpa using ht) (h w hs hf _ (fun a' e => e))
theorem wpR_skip (hw : Region.wanted o (yielded ops.toArray a.tmps) = false) (hA : a.put o.dst undef = A')
    (hrest : wpR P ops St w0 Q gs rest (k + 1) A' φ) : wpR P ops St w0 Q (.one undef :: gs) (o :: rest) k a φ := by
  subst hA
  refine ⟨?_, hrest⟩
  unfold Obl
  simp [hw]
/-- One operation whose value and world meet a fact. -/
theorem wpR_rel {G : Value → World → Prop} (hw : Region.wanted o (yielded ops.toArray a.tmps) = true)
    (h : ∀ w, St w0 w → AllF (φ.filter fun p => ((befs ops).getD k []).contains p.1) w → doesR P o a w (fun u w' => G (retV o u) w' ∧ St w w'))
    {A' : Value → Act} (hA : ∀ x, a.put o.dst x = A' x) (hrest : ∀ x, wpR P ops St w0 Q gs rest (k + 1) (A' x) ((k, x, G) :: φ)) : wpR P ops St w0 Q (.rel G :: gs) (o :: rest) k a φ := by
  refine ⟨?_, fun x => by rw [hA]; exact hrest x⟩
  unfold Obl
  simp only [hw, if_true]
  exact h
theorem AllF_at {B : List Nat} {φ : List (Nat × Value × Fct)} {w : World} (h : AllF (φ.filter fun p => B.contains p.1) w) (j : Nat) {p : Nat × Value × Fct} (hj : φ[j]? = some p) (hB : B.contains p.1 = true) : p.2.2 p.2.1 w :=
  (AllF_iff _ _).1 h p (List.mem_filter.2 ⟨List.mem_of_getElem? hj, hB⟩)
theorem does_run {w w' : World} {u : Value} {R : Value → World → Prop} (hr : (execOp a.eval o).run P w = .ok (.value u) w') (h : R u w') : doesR P o a w R := by
  unfold doesR; rw [hr]; exact h
theorem does_call {w w' : World} {f : FuncId} {args : Array Value} {R : Value → World → Prop} (hr : (execOp a.eval o).run P w = .ok (.enter f args) w') (h : Calls P f args w' fun e w'' => ∃ v, e = .returned v ∧ R v w'') : doesR P o a w R := by
  unfold doesR; rw [hr]; exact h
end
end
end
section

section
variable {P : Program} {l : List Oper} {n : Nat} {Q : Exit → Act → World → Prop}
def headB (l : List Oper) (n : Nat) : Bool :=
  (List.range n).all fun i => match l[i]? with
    | none => false
    | some o => (o.after.toList.all fun e => !Region.binds .any e || decide (e.on < i)) && (match o.guard with | none => true | some (g, _) => decide (g < n))
theorem headB_spec (h : headB l n = true) {i : Nat} (hi : i < n) : ∃ o, l[i]? = some o ∧ (∀ e ∈ o.after, Region.binds .any e = true → e.on < i) ∧ ∀ g b, o.guard = some (g, b) → g < n := by
  unfold headB at h
  rw [List.all_eq_true] at h
  have h1 := h i (List.mem_range.2 hi)
  cases ho : l[i]? with
  | none => rw [ho] at h1; cases h1
  | some o =>
    rw [ho] at h1
    simp only [Bool.and_eq_true, List.all_eq_true, Bool.or_eq_true, Bool.not_eq_true', decide_eq_true_eq] at h1
    refine ⟨o, rfl, fun e he hb => ?_, fun g b hg => ?_⟩
    · rcases h1.1 e (by simpa using he) with h2 | h2
      · rw [hb] at h2; cases h2
      · exact h2
    · have := h1.2; rw [hg] at this; simpa using this
def QH (P : Program) (l : List Oper) (n : Nat) (Q : Exit → Act → World → Prop) : Exit → Act → World → Prop
  | .normal, a, w => wpList P l.toArray Q (l.drop n) a w
  | e, a, w => Q e a w
theorem wp_head {o : Oper} {a : Act} {w : World} {K K' : Act → World → Prop} (hK : ∀ a w, K a w → K' a w) (h : o.wp P a w K (QH P l n Q)) : o.wp P a w K' Q := by
  unfold Oper.wp at *
  generalize (execOp a.eval o).run P w = r at *
  cases r with
  | ok nx w' =>
    cases nx <;> simp only [Oper.upon] at h ⊢
    case value => exact hK _ _ h
    case skip => exact hK _ _ h
    case defer => exact hK _ _ h
    case enter f args =>
      refine Calls.mono h fun e w'' h' => ?_
      cases e with
      | returned v => exact hK _ _ h'
      | panicked c => exact h'
      | outgrown => exact h'
    case row r args => exact Rows.mono h fun v w'' h' => hK _ _ h'
  | halt x w' =>
    cases x <;> simp only [Oper.upon] at h ⊢
    case panic => exact h
theorem wpOp_head {i : Nat} {a : Act} {w : World} {K K' : Act → World → Prop} (hh : headB l n = true) (hi : i < n) (hK : ∀ a w, K a w → K' a w) (h : wpOp P (l.take n).toArray (QH P l n Q) i K a w) : wpOp P l.toArray Q i K' a w := by
  obtain ⟨o, ho, -, hg⟩ := headB_spec hh hi
  unfold wpOp at *
  have h1 : (l.take n).toArray[i]? = some o := by simp [hi, ho]
  have h2 : l.toArray[i]? = some o := by simp [ho]
  have hw : Region.wanted o (yielded (l.take n).toArray a.tmps) = Region.wanted o (yielded l.toArray a.tmps) := by
    unfold Region.wanted
    cases hgd : o.guard with
    | none => rfl
    | some gb =>
      obtain ⟨g, b⟩ := gb
      have := hg g b hgd
      simp only
      have e : yielded (l.take n).toArray a.tmps g = yielded l.toArray a.tmps g := by
        unfold yielded
        simp [this]
      rw [e]
  simp only [h1, hw] at h
  simp only [h2]
  split
  · rename_i hwt
    simp only [hwt, if_true] at h
    rcases h with h | ⟨h3, h4⟩
    · exact .inl (wp_head hK h)
    · exact .inr ⟨h3, h4⟩
  · rename_i hwt
    simp only [hwt] at h
    exact hK _ _ h
theorem wpAny_split (hs : Region.sinkB .any l.toArray n = true) (hc : Region.chainB .any l.toArray n = true) (hn : n < l.length) (hh : headB l n = true)
    (hq : Region.seqB .any l.toArray (l.length - n) n (List.replicate n true ++ List.replicate (l.length - n) false).toArray = true) :
    ∀ (f : Nat) (lh listed : Array Bool) (a : Act) (w : World), lh.size = n → (∀ i, i < n → listed[i]? = lh[i]?) → HeadInv .any l.toArray n listed → unl lh = f →
      wpAny P .any (l.take n).toArray (QH P l n Q) f lh a w → wpAny P .any l.toArray Q (f + (l.length - n)) listed a w := by
  have hgd : ∀ {lh listed : Array Bool}, (∀ i, i < n → listed[i]? = lh[i]?) → ∀ i d, i < n → listed.getD i d = lh.getD i d := fun he i d hi => by
    rw [Array.getD_eq_getD_getElem?, Array.getD_eq_getD_getElem?, he i hi]
  have hready : ∀ {lh listed : Array Bool}, (∀ i, i < n → listed[i]? = lh[i]?) → ∀ i, i < n → (i ∈ Region.ready .any l.toArray listed ↔ i ∈ Region.ready .any (l.take n).toArray lh) := fun {lh listed} he i hi => by
    obtain ⟨o, ho, hed, -⟩ := headB_spec hh hi
    rw [mem_ready, mem_ready, hgd he i true hi]
    have h1 : (l.take n).toArray[i]? = some o := by simp [hi, ho]
    have h2 : l.toArray[i]? = some o := by simp [ho]
    rw [h1, h2]
    refine and_congr_right fun _ => ?_
    constructor
    · rintro ⟨o', e, h⟩
      injection e with e; subst e
      exact ⟨o, rfl, fun e he' hb => by rw [← hgd he _ _ (by have := hed e he' hb; omega)]; exact h e he' hb⟩
    · rintro ⟨o', e, h⟩
      injection e with e; subst e
      exact ⟨o, rfl, fun e he' hb => by rw [hgd he _ _ (by have := hed e he' hb; omega)]; exact h e he' hb⟩
  intro f
  induction f with
  | zero =>
    intro lh listed a w hsz he hinv hu h
    have hall : ∀ i, i < n → lh.getD i true = true := fun i _ => unl_zero hu i
    have hL : listed = (List.replicate n true ++ List.replicate (l.length - n) false).toArray := by
      apply Array.ext'
      apply List.ext_getElem?
      intro i
      by_cases hi : i < n
      · have h1 : listed.getD i true = true := by rw [hgd he i true hi]; exact hall i hi
        have h2 : i < listed.size := by rw [hinv.size]; simp; omega
        rw [getD_lt h2] at h1
        rw [List.getElem?_append_left (by simp; omega)]
        simp [h2, h1, hi]
      · by_cases hi2 : i < l.length
        · have h2 : i < listed.size := by rw [hinv.size]; simpa using hi2
          have h1 := hinv.tail i (by omega) (by simpa using hi2)
          rw [getD_lt h2] at h1
          rw [List.getElem?_append_right (by simp; omega)]
          have h3 : i - n < l.length - n := by omega
          simp [h2, h1, h3]
        · rw [List.getElem?_eq_none (by have := hinv.size; simp at this ⊢; omega), List.getElem?_eq_none (by simp; omega)]
    rw [Nat.zero_add, hL]
    have hq' : Region.seqB .any l.toArray (l.drop n).length n (List.replicate n true ++ List.replicate (l.length - n) false).toArray = true := by rw [List.length_drop]; exact hq
    have := wpAny_of_seq (md := .any) (Q' := Q) (l.drop n) n _ a w (fun j => by simp [List.getElem?_drop]) hq' (by
      have h3 : QH P l n Q .normal a w := by
        unfold wpAny at h; exact h.2
      exact h3)
    rwa [List.length_drop] at this
  | succ f ih =>
    intro lh listed a w hsz he hinv hu h
    rw [show f + 1 + (l.length - n) = (f + (l.length - n)) + 1 by omega]
    have hex : ∃ i, i < n ∧ lh.getD i true = false := by
      by_cases hex : ∃ i, i < n ∧ lh.getD i true = false
      · exact hex
      · exfalso
        have : unl lh = 0 := by
          unfold unl
          rw [List.countP_eq_zero]
          intro b hb
          obtain ⟨i, hi, e⟩ := List.mem_iff_getElem.1 hb
          have hi' : i < lh.size := by simpa using hi
          have h1 : lh.getD i true = true := by
            cases hg : lh.getD i true with
            | true => rfl
            | false => exact absurd ⟨i, by omega, hg⟩ hex
          rw [getD_lt hi'] at h1
          have : lh.toList[i] = lh[i] := by simp
          rw [← e, this, h1]; simp
        omega
    obtain ⟨i0, hi0, hf0⟩ := hex
    have hr : ∀ j ∈ Region.ready .any l.toArray listed, j < n := fun j hj => by
      rcases Nat.lt_or_ge j n with h | h
      · exact h
      · exact absurd hj (tail_waits hs hc (by simpa using hn) hinv _ i0 rfl hi0 (by rw [hgd he _ _ hi0]; exact hf0) j h)
    have hne : Region.ready .any l.toArray listed ≠ [] := by
      -- the least unlisted one is ready
      have hleast : ∃ i, i < n ∧ lh.getD i true = false ∧ ∀ j, j < i → lh.getD j true = true := by
        have : ∀ k i, i ≤ k → i < n → lh.getD i true = false → ∃ i, i < n ∧ lh.getD i true = false ∧ ∀ j, j < i → lh.getD j true = true := by
          intro k
          induction k with
          | zero => intro i h0 h1 h2; exact ⟨i, h1, h2, fun j hj => by omega⟩
          | succ k ihk =>
            intro i h0 h1 h2
            by_cases hx : ∃ j, j < i ∧ lh.getD j true = false
            · obtain ⟨j, hj, hj2⟩ := hx
              exact ihk j (by omega) (by omega) hj2
            · refine ⟨i, h1, h2, fun j hj => ?_⟩
              cases hg : lh.getD j true with
              | true => rfl
              | false => exact absurd ⟨j, hj, hg⟩ hx
        exact this i0 i0 (Nat.le_refl _) hi0 hf0
      obtain ⟨i, hi, hif, hbefore⟩ := hleast
      obtain ⟨o, ho, hed, -⟩ := headB_spec hh hi
      intro h0
      have : i ∈ Region.ready .any l.toArray listed := by
        refine mem_ready.2 ⟨by rw [hgd he _ _ hi]; exact hif, o, by simp [ho], fun e he' hb => ?_⟩
        have h1 := hed e he' hb
        rw [hgd he _ _ (by omega)]
        have h2 := hbefore _ h1
        have h3 : e.on < lh.size := by omega
        rw [getD_lt h3] at h2 ⊢; exact h2
      rw [h0] at this; cases this
    refine ⟨fun h0 => absurd h0 hne, fun i hi => ?_⟩
    have hin := hr i hi
    have hih := (hready he i hin).1 hi
    have hun := (mem_ready.1 hih).1
    unfold wpAny at h
    refine wpOp_head hh hin (fun a' w' h' => ?_) (h.2 i hih)
    have his : i < lh.size := by omega
    refine ih _ _ a' w' (by simpa using hsz) (fun j hj => ?_) (hinv.set hi hin) ?_ h'
    · rw [Array.getElem?_setIfInBounds, Array.getElem?_setIfInBounds]
      have hs2 : listed.size = l.length := by have := hinv.size; simpa using this
      by_cases hij : i = j
      · subst hij; simp; rw [if_pos (by omega), if_pos (by omega)]
      · rw [if_neg hij, if_neg hij]; exact he j hj
    · have := unl_set his (by rw [getD_lt his] at hun ⊢; exact hun)
      omega
def tailB (l : List Oper) (n : Nat) : Bool := Region.sinkB .any l.toArray n && Region.chainB .any l.toArray n && decide (n < l.length) && headB l n && Region.seqB .any l.toArray (l.length - n) n (List.replicate n true ++ List.replicate (l.length - n) false).toArray
theorem wpAny_tail {a : Act} {w : World} (hB : tailB l n = true) (h : wpAny P .any (l.take n).toArray (QH P l n Q) (l.take n).length (Array.replicate (l.take n).length false) a w) :
    wpAny P .any l.toArray Q l.toArray.size (Array.replicate l.toArray.size false) a w := by
  simp only [tailB, Bool.and_eq_true, decide_eq_true_eq] at hB
  obtain ⟨⟨⟨⟨hs, hc⟩, hn⟩, hh⟩, hq⟩ := hB
  have htl : (l.take n).length = n := by simp; omega
  rw [htl] at h
  have hrf : ∀ k, unl (Array.replicate k false) = k := fun k => by
    unfold unl; rw [Array.toList_replicate, List.countP_replicate]; simp
  have := wpAny_split (Q := Q) (P := P) hs hc hn hh hq n (Array.replicate n false) (Array.replicate l.toArray.size false) a w (by simp) (fun i hi => by
    have h2 : i < l.length := by omega
    simp [hi, h2])
    ⟨by simp, fun j oj _ hl => (by rw [getD_replicate_false] at hl; cases hl), fun t _ ht => getD_in (by simpa using ht) (getD_replicate_false _ _)⟩ (hrf n) h
  rw [show n + (l.length - n) = l.toArray.size by simp; omega] at this
  exact this
/-- The head in any order by one walk (as 'wp_region_rel'), then the forced tail in the text's order. -/
theorem wp_region_rel_tail {id : Nat} {a0 : Act} {w : World} (k : Nat) (n : Nat) (hm : P.follows .mixedOrders = true) (hB : tailB l k = true) (St : World → World → Prop) (gs : List Gv) (hok : relOk (l.take k) = true) (hn : a0.tmps.size = n) (hin : insB (l.take k) n = true)
    (hrefl : ∀ w, St w w) (htrans : ∀ a b c, St a b → St b c → St a c) (hstab : StabL St gs)
    (h : wpR P (l.take k) St w.drew (fun a' w' => wpList P l.toArray Q (l.drop k) a' w') gs (l.take k) 0 a0 []) : (Code.region id l.toArray true).wp P Q a0 w := by
  refine wp_region_any hm (wpAny_tail hB (rel_any (Q := QH P l k Q) (relOk_spec hok) hrefl htrans (stabL_spec gs hstab) (fun i o t hi ht => ?_) h _ _ _ _ ?_ ?_))
  · unfold insB at hin
    rw [List.all_eq_true] at hin
    have := hin o (List.mem_of_getElem? hi)
    rw [ht] at this
    rw [hn]; simpa using this
  · exact ⟨hrefl _, rfl, rfl, by simp, fun i o hi hl => (by rw [rep_false] at hl; cases hl), fun i o g hi hg hl => (by rw [rep_false] at hl; cases hl), fun t _ => rfl⟩
  · unfold unl
    refine Nat.le_trans (List.countP_le_length) ?_
    simp
end
end
section

open Go.RowKit
section
variable {P : Program} {ops : Array Oper} {C : World → Prop}
theorem cls_load {o : Oper} {a : Act} {K : Act → Prop} (ty : TypeId) (x : Operand) (ho : o.op = .load ty x) (b off : Nat) (hx : a.eval x = .pointer (some ⟨b, off, none⟩)) (cs : List Value) (d : TypeDesc)
    (hS : ∀ w, C w → w.rangeAt b off cs) (hu : P.underlying ty = some d) (hd : d.isRow = true) (hi : (P.info? ty).map (·.size) = some cs.length) (hK : K (a.put o.dst (.agg cs.toArray))) : o.quiet P a C K :=
  ⟨_, fun w hw => by
    unfold Oper.quietAt execOp
    simp only [ho, hx, Instr.loadAt, Instr.sureAddr, Sem.run_bind, Sem.run_pure, Result.andThen_ok, run_loadVar_mid w b off ty cs d (hS w hw) hu hd hi, Oper.quietUpon, and_self], hK⟩
theorem cls_cell {o : Oper} {a : Act} {K : Act → Prop} (v : Value) (hr : ∀ w, C w → (execOp a.eval o).run P w = .ok (.value v) w) (hK : K (a.put o.dst v)) : o.quiet P a C K :=
  ⟨_, fun w hw => by unfold Oper.quietAt; rw [hr w hw]; exact ⟨rfl, rfl⟩, hK⟩
end
end
section
set_option linter.unusedVariables false
open Go.RowKit

/-- A sector's bytes, in a block of D and none of N. -/
def SecV (w : World) (N D : Nat → Prop) (v : Value) (s : Sec) : Prop := s.length = 64 ∧ ∃ a c, v = .slice (some a) 64 c ∧ 64 ≤ c ∧ ¬ N a.block ∧ D a.block ∧ ∀ j u, (s.map bv)[j]? = some u → w.cell? (a.add j) = some u
set_option maxRecDepth 100000 in
theorem SecV.turn {w w' : World} {N D N' D' S : Nat → Prop} {v : Value} {s : Sec} (h : SecV w N D v s) (t : Turn S w w') (hS : ∀ k, S k → ¬ N k → D k → False) (hN : ∀ k, k < w.heap.size → N' k → N k) (hD : ∀ k, D k → D' k) : SecV w' N' D' v s := by
  obtain ⟨h1, a, c, e, hc, hn, hd, hb⟩ := h
  have hlt : a.block < w.heap.size := by
    have := World.block_lt_of_cell? w _ (hb 0 (bv s[0]) (bvs_at s 0 (by omega)))
    rwa [add_block] at this
  exact ⟨h1, a, c, e, hc, fun h => hn (hN _ hlt h), hD _ hd, fun j u hu => t.cell (hb j u hu) (by rw [add_block]; exact fun h => hS _ h hn hd)⟩
set_option maxRecDepth 100000 in
theorem own_turn {S : Nat → Prop} {w w' : World} {base s n : Nat} {e : TypeId} {v : Value} {xs : List Value} (h : Turn S w w') (ho : w.ownsRow base e s v n xs) (hn : ∀ g, v.ownBlock = some g → ¬ S g) : w'.ownsRow base e s v n xs := by
  obtain ⟨h1, h2⟩ := ho
  refine ⟨h1, ?_⟩
  rcases h2 with h2 | ⟨g, cap, cur, rfl, hg, hh, r⟩
  · exact .inl h2
  · exact .inr ⟨g, cap, cur, rfl, hg, h.heap hh (hn g rfl), r⟩
set_option maxRecDepth 100000 in
/-- A row of one's own is a slice: its address and cells. -/
theorem own_cells {w : World} {base s n : Nat} {e : TypeId} {v : Value} {xs : List Value} (h : w.ownsRow base e s v n xs) : ∃ A c, v = .slice A n c ∧ ∀ j u, xs[j]? = some u → ∃ g, A = some ⟨g, 0, none⟩ ∧ v.ownBlock = some g ∧ w.cell? ⟨g, j, none⟩ = some u := by
  obtain ⟨h1, h2⟩ := h
  rcases h2 with ⟨rfl, rfl⟩ | ⟨g, cap, cur, rfl, hg, hh, hn, hcap, hsz, ht⟩
  · refine ⟨none, 0, rfl, fun j u hu => ?_⟩
    simp at h1; subst h1; simp at hu
  · refine ⟨_, cap, rfl, fun j u hu => ⟨g, rfl, rfl, ?_⟩⟩
    rw [cell_of_row _ _ _ _ _ _ hh]
    rw [← ht, List.getElem?_take] at hu
    split at hu
    · simpa using hu
    · cases hu
end
section
set_option linter.unusedVariables false
open Go.RowKit
set_option maxRecDepth 100000 in
theorem landL_snoc (w : Nat × Sec) (W : List (Nat × Sec)) : ∀ (L : List Sec) (M : List B8), landL L (W ++ [w]) M = (landL L W M).set w.1 (tornS ((landL L W M).getD w.1 []) w.2 (M.getD W.length 255)) := by
  induction W with
  | nil => intro L M; cases M <;> rfl
  | cons x W ih =>
    intro L M
    rw [List.cons_append, landL, ih, ← landL]
    congr 2
    cases M with
    | nil => rfl
    | cons m M => rfl
end
end Go.Proofs.YtajdcekkmikbcaaDoor
