/- A region that draws its order, whose operations read, call and make memory: one walk in the text's order serves every order. Each operation has one value, or one fact on its value and the world that stays. No program is named here. -/
import Derived.Still
import Derived.Below
import Derived.BigQuiet
import Derived.KernelRfl
namespace Go.Proofs.Ytgjplbanfnomkaa
section
variable {P : Program}
abbrev Fct := Value → World → Prop
inductive Gv where
  | one (v : Value)
  | rel (G : Value → World → Prop)
def Gv.ok : Gv → Value → World → Prop
  | .one v, x, _ => x = v
  | .rel G, x, w => G x w
/-- What an operation comes to. -/
def doesR (P : Program) (o : Oper) (a : Act) (w : World) (R : Value → World → Prop) : Prop :=
  match (execOp a.eval o).run P w with
  | .ok (.value v) w' => R v w'
  | .ok .skip w' => R undef w'
  | .ok (.enter f args) w' => Calls P f args w' fun e w'' => ∃ v, e = .returned v ∧ R v w''
  | _ => False
set_option maxRecDepth 100000 in
theorem wp_of_does {o : Oper} {a a' : Act} {w : World} {R : Value → World → Prop} {K : Act → World → Prop} {Q : Exit → Act → World → Prop} (he : execOp a'.eval o = execOp a.eval o)
    (h : doesR P o a w R) (hK : ∀ v w', R v w' → K (a'.put o.dst v) w') : o.wp P a' w K Q := by
  unfold Oper.wp
  unfold doesR at h
  rw [he]
  generalize (execOp a.eval o).run P w = r at *
  cases r with
  | ok n w' =>
    cases n <;> simp only [Oper.upon] at h ⊢
    case value u => exact hK _ _ h
    case skip => exact hK _ _ h
    case enter f args => exact Calls.mono h (fun e w'' ⟨v, he, hR⟩ => by subst he; exact hK _ _ hR)
  | halt x w' => exact False.elim h

def bindsA (e : Edge) : Bool := Region.binds .any e
def befM (ops : List Oper) : List Nat :=
  ops.foldl (fun acc o => acc ++ [(o.after.toList.filter bindsA).foldl (fun s e => s ||| (1 <<< e.on) ||| acc.getD e.on 0) 0]) []
def befs (ops : List Oper) : List (List Nat) := (befM ops).map fun m => (List.range ops.length).filter fun j => m.testBit j
def looksOk (ops : List Oper) (b : List (List Nat)) (i : Nat) (t : Tmp) : Bool :=
  (List.range ops.length).all fun j => match ops[j]? with
    | none => true
    | some o => o.dst != some t || (if j < i then (b.getD i []).contains j else (j == i || (b.getD j []).contains i))
def relOk1 (ops : List Oper) (b : List (List Nat)) (i : Nat) : Bool :=
  match ops[i]? with
  | none => true
  | some o =>
    (match o.op with | .select .. => false | _ => true) &&
    ((o.after.toList.filter bindsA).all fun e => decide (e.on < i) && (b.getD i []).contains e.on) &&
    ((b.getD i []).all fun j => decide (j < i) && (o.after.toList.filter bindsA).any fun e => e.on == j || (b.getD e.on []).contains j) &&
    (match o.dst with | none => true | some t => (List.range i).all fun j => match ops[j]? with | none => true | some o' => o'.dst != some t) &&
    ((o.op.operands.toList.filterMap fun | .tmp t => some t | _ => none).all (looksOk ops b i)) &&
    (match o.guard with | none => true | some (g, _) => (b.getD i []).contains g)
def relOk (ops : List Oper) : Bool := (List.range ops.length).all (relOk1 ops (befs ops))

def retV (o : Oper) (u : Value) : Value := match o.dst with | none => undef | some _ => u
def AllF : List (Nat × Value × Fct) → World → Prop
  | [], _ => True
  | p :: l, w => p.2.2 p.2.1 w ∧ AllF l w
set_option maxRecDepth 100000 in
theorem AllF_iff (φ : List (Nat × Value × Fct)) (w : World) : AllF φ w ↔ ∀ p ∈ φ, p.2.2 p.2.1 w := by
  induction φ with
  | nil => simp [AllF]
  | cons p l ih => simp [AllF, ih]
def Obl (P : Program) (ops : List Oper) (St : World → World → Prop) (w0 : World) (k : Nat) (o : Oper) (g : Gv) (a : Act) (φ : List (Nat × Value × Fct)) : Prop :=
  match g with
  | .one v => if Region.wanted o (yielded ops.toArray a.tmps) then ∀ w, St w0 w → AllF (φ.filter fun p => ((befs ops).getD k []).contains p.1) w → doesR P o a w (fun u w' => retV o u = v ∧ St w w') else v = undef
  | .rel G => if Region.wanted o (yielded ops.toArray a.tmps) then ∀ w, St w0 w → AllF (φ.filter fun p => ((befs ops).getD k []).contains p.1) w → doesR P o a w (fun u w' => G (retV o u) w' ∧ St w w')
      else ∀ w, St w0 w → AllF (φ.filter fun p => ((befs ops).getD k []).contains p.1) w → G undef w
/-- The walk in the text's order. -/
def wpR (P : Program) (ops : List Oper) (St : World → World → Prop) (w0 : World) (Q : Act → World → Prop) : List Gv → List Oper → Nat → Act → List (Nat × Value × Fct) → Prop
  | _, [], _, a, φ => ∀ w, St w0 w → AllF φ w → Q a w
  | .one v :: gs, o :: rest, k, a, φ => Obl P ops St w0 k o (.one v) a φ ∧ wpR P ops St w0 Q gs rest (k + 1) (a.put o.dst v) φ
  | .rel G :: gs, o :: rest, k, a, φ => Obl P ops St w0 k o (.rel G) a φ ∧ ∀ x, wpR P ops St w0 Q gs rest (k + 1) (a.put o.dst x) ((k, x, G) :: φ)
  | [], _ :: _, _, _, _ => False
def Gv.val : Gv → Value → Value
  | .one v, _ => v
  | .rel _, x => x
def Gv.fact (k : Nat) (x : Value) : Gv → List (Nat × Value × Fct) → List (Nat × Value × Fct)
  | .one _, φ => φ
  | .rel G, φ => (k, x, G) :: φ
def runR (xs : Nat → Value) : Nat → List Gv → List Oper → Nat → Act → List (Nat × Value × Fct) → Act × List (Nat × Value × Fct)
  | i + 1, g :: gs, o :: rest, k, a, φ => runR xs i gs rest (k + 1) (a.put o.dst (g.val (xs k))) (g.fact k (xs k) φ)
  | _, _, _, _, a, φ => (a, φ)
variable {ops : List Oper} {St : World → World → Prop} {w0 : World} {Q : Act → World → Prop} {xs : Nat → Value}
set_option maxRecDepth 100000 in
theorem wpR_cons {g : Gv} {gs : List Gv} {o : Oper} {rest : List Oper} {k : Nat} {a : Act} {φ : List (Nat × Value × Fct)} (h : wpR P ops St w0 Q (g :: gs) (o :: rest) k a φ) (x : Value) :
    Obl P ops St w0 k o g a φ ∧ wpR P ops St w0 Q gs rest (k + 1) (a.put o.dst (g.val x)) (g.fact k x φ) := by
  cases g with
  | one v => exact h
  | rel G => exact ⟨h.1, h.2 x⟩
set_option maxRecDepth 100000 in
theorem wpR_use : ∀ (gs : List Gv) (l : List Oper) (k : Nat) (a : Act) (φ : List (Nat × Value × Fct)), wpR P ops St w0 Q gs l k a φ → ∀ (i : Nat) (o : Oper), l[i]? = some o →
    ∃ g, gs[i]? = some g ∧ Obl P ops St w0 (k + i) o g (runR xs i gs l k a φ).1 (runR xs i gs l k a φ).2
  | [], [], _, _, _, _, i, o, hi => by simp at hi
  | [], o' :: l, _, _, _, h, _, _, _ => by simp [wpR] at h
  | g :: gs, [], _, _, _, _, i, o, hi => by simp at hi
  | g :: gs, o' :: l, k, a, φ, h, i, o, hi => by
    obtain ⟨h1, h2⟩ := wpR_cons h (xs k)
    cases i with
    | zero => simp at hi; subst hi; exact ⟨g, rfl, by simpa [runR] using h1⟩
    | succ i =>
      obtain ⟨g', e, hO⟩ := wpR_use gs l (k + 1) _ _ h2 i o (by simpa using hi)
      exact ⟨g', by simpa using e, by rw [show k + (i + 1) = k + 1 + i by omega]; exact hO⟩
set_option maxRecDepth 100000 in
theorem wpR_end : ∀ (gs : List Gv) (l : List Oper) (k : Nat) (a : Act) (φ : List (Nat × Value × Fct)), wpR P ops St w0 Q gs l k a φ → ∀ w, St w0 w → AllF (runR xs l.length gs l k a φ).2 w → Q (runR xs l.length gs l k a φ).1 w
  | [], [], _, _, _, h, w, hs, hf => h w hs hf
  | [], o' :: l, _, _, _, h, _, _, _ => by simp [wpR] at h
  | g :: gs, [], _, _, _, h, w, hs, hf => by
    cases g <;> exact h w hs hf
  | g :: gs, o' :: l, k, a, φ, h, w, hs, hf => wpR_end gs l (k + 1) _ _ (wpR_cons h (xs k)).2 w hs hf
set_option maxRecDepth 100000 in
theorem runR_facts : ∀ (i : Nat) (gs : List Gv) (l : List Oper) (k : Nat) (a : Act) (φ : List (Nat × Value × Fct)), ∀ p ∈ (runR xs i gs l k a φ).2, p ∈ φ ∨ ∃ j G, j < i ∧ gs[j]? = some (.rel G) ∧ p = (k + j, xs (k + j), G)
  | 0, _, _, _, _, _, p, hp => .inl hp
  | i + 1, [], l, _, _, _, p, hp => .inl (by simpa [runR] using hp)
  | i + 1, g :: gs, [], _, _, _, p, hp => .inl (by simpa [runR] using hp)
  | i + 1, g :: gs, o :: l, k, a, φ, p, hp => by
    rcases runR_facts i gs l (k + 1) _ _ p hp with h | ⟨j, G, hj, hg, e⟩
    · cases g with
      | one v => exact .inl h
      | rel G =>
        simp only [Gv.fact, List.mem_cons] at h
        rcases h with h | h
        · exact .inr ⟨0, G, by omega, rfl, by simpa using h⟩
        · exact .inl h
    · exact .inr ⟨j + 1, G, by omega, by simpa using hg, by rw [show k + (j + 1) = k + 1 + j by omega]; exact e⟩
set_option maxRecDepth 100000 in
theorem put_size (a : Act) (d : Option Tmp) (v : Value) : (a.put d v).tmps.size = a.tmps.size := by cases d <;> simp [Act.put]
set_option maxRecDepth 100000 in
theorem put_defers (a : Act) (d : Option Tmp) (v : Value) : (a.put d v).defers = a.defers := by cases d <;> simp [Act.put]
set_option maxRecDepth 100000 in
theorem put_ne {a : Act} {d : Option Tmp} {v : Value} {t : Tmp} (h : d ≠ some t) : (a.put d v).tmps[t]? = a.tmps[t]? := by
  cases d with
  | none => rfl
  | some d => simp only [Act.put]; rw [Array.getElem?_setIfInBounds_ne (by intro e; exact h (by rw [e]))]
set_option maxRecDepth 100000 in
theorem put_eq {a : Act} {v : Value} {t : Tmp} (h : t < a.tmps.size) : (a.put (some t) v).tmps[t]? = some v := by
  simp [Act.put, h]
set_option maxRecDepth 100000 in
theorem runR_size : ∀ (i : Nat) (gs : List Gv) (l : List Oper) (k : Nat) (a : Act) (φ : List (Nat × Value × Fct)), (runR xs i gs l k a φ).1.tmps.size = a.tmps.size ∧ (runR xs i gs l k a φ).1.defers = a.defers
  | 0, _, _, _, _, _ => ⟨rfl, rfl⟩
  | i + 1, [], _, _, _, _ => ⟨rfl, rfl⟩
  | i + 1, g :: gs, [], _, _, _ => ⟨rfl, rfl⟩
  | i + 1, g :: gs, o :: l, k, a, φ => by
    have h := runR_size i gs l (k + 1) (a.put o.dst (g.val (xs k))) (g.fact k (xs k) φ)
    exact ⟨h.1.trans (put_size _ _ _), h.2.trans (put_defers _ _ _)⟩
set_option maxRecDepth 100000 in
theorem runR_out (t : Tmp) : ∀ (i : Nat) (gs : List Gv) (l : List Oper) (k : Nat) (a : Act) (φ : List (Nat × Value × Fct)), (∀ j o, j < i → l[j]? = some o → o.dst ≠ some t) → (runR xs i gs l k a φ).1.tmps[t]? = a.tmps[t]?
  | 0, _, _, _, _, _, _ => rfl
  | i + 1, [], _, _, _, _, _ => rfl
  | i + 1, g :: gs, [], _, _, _, _ => rfl
  | i + 1, g :: gs, o :: l, k, a, φ, h => by
    refine (runR_out t i gs l (k + 1) _ _ (fun j o' hj ho => h (j + 1) o' (by omega) (by simpa using ho))).trans ?_
    exact put_ne (h 0 o (by omega) rfl)
set_option maxRecDepth 100000 in
theorem runR_at (t : Tmp) : ∀ (i : Nat) (gs : List Gv) (l : List Oper) (k : Nat) (a : Act) (φ : List (Nat × Value × Fct)) (j : Nat) (o : Oper) (g : Gv), j < i → l[j]? = some o → gs[j]? = some g → o.dst = some t → t < a.tmps.size →
    (∀ j' o', j < j' → l[j']? = some o' → o'.dst ≠ some t) → (runR xs i gs l k a φ).1.tmps[t]? = some (g.val (xs (k + j)))
  | 0, _, _, _, _, _, j, _, _, hj, _, _, _, _, _ => by omega
  | i + 1, [], _, _, _, _, j, _, _, _, _, hg, _, _, _ => by simp at hg
  | i + 1, g' :: gs, [], _, _, _, j, _, _, _, ho, _, _, _, _ => by simp at ho
  | i + 1, g' :: gs, o' :: l, k, a, φ, j, o, g, hj, ho, hg, hd, ht, hu => by
    cases j with
    | zero =>
      simp at ho hg; subst ho hg
      refine (runR_out t i gs l (k + 1) _ _ (fun j o hj ho => hu (j + 1) o (by omega) (by simpa using ho))).trans ?_
      rw [hd]; exact put_eq ht
    | succ j =>
      have := runR_at t i gs l (k + 1) (a.put o'.dst (g'.val (xs k))) (g'.fact k (xs k) φ) j o g (by omega) (by simpa using ho) (by simpa using hg) hd (by rw [put_size]; exact ht) (fun j' o'' hj' ho' => hu (j' + 1) o'' (by omega) (by simpa using ho'))
      rw [show k + (j + 1) = k + 1 + j by omega]; exact this

/-- What the Bool says. -/
structure RelOk (ops : List Oper) : Prop where
  sel : ∀ (i : Nat) (o : Oper), ops[i]? = some o → ∀ cs b, o.op ≠ .select cs b
  edge : ∀ (i : Nat) (o : Oper), ops[i]? = some o → ∀ e ∈ o.after, Region.binds .any e = true → e.on < i ∧ e.on ∈ (befs ops).getD i []
  bef : ∀ (i : Nat) (o : Oper), ops[i]? = some o → ∀ j ∈ (befs ops).getD i [], j < i ∧ ∃ e ∈ o.after, Region.binds .any e = true ∧ (e.on = j ∨ j ∈ (befs ops).getD e.on [])
  dst : ∀ (i : Nat) (o : Oper) (j : Nat) (o' : Oper) (t : Tmp), ops[i]? = some o → ops[j]? = some o' → o.dst = some t → o'.dst = some t → i = j
  looks : ∀ (i : Nat) (o : Oper) (t : Tmp), ops[i]? = some o → .tmp t ∈ o.op.operands → ∀ (j : Nat) (o' : Oper), ops[j]? = some o' → o'.dst = some t → if j < i then j ∈ (befs ops).getD i [] else (j = i ∨ i ∈ (befs ops).getD j [])
  guard : ∀ (i : Nat) (o : Oper) (g : Nat) (b : Bool), ops[i]? = some o → o.guard = some (g, b) → g ∈ (befs ops).getD i []
set_option maxRecDepth 100000 in
theorem relOk_spec (h : relOk ops = true) : RelOk ops := by
  have h1 : ∀ (i : Nat) (o : Oper), ops[i]? = some o → relOk1 ops (befs ops) i = true := fun i o hi => by
    unfold relOk at h
    rw [List.all_eq_true] at h
    exact h i (List.mem_range.2 (List.getElem?_eq_some_iff.1 hi).1)
  have h2 : ∀ (i : Nat) (o : Oper), ops[i]? = some o → (match o.op with | .select .. => false | _ => true) = true ∧
    ((o.after.toList.filter bindsA).all fun e => decide (e.on < i) && ((befs ops).getD i []).contains e.on) = true ∧
    (((befs ops).getD i []).all fun j => decide (j < i) && (o.after.toList.filter bindsA).any fun e => e.on == j || ((befs ops).getD e.on []).contains j) = true ∧
    (match o.dst with | none => true | some t => (List.range i).all fun j => match ops[j]? with | none => true | some o' => o'.dst != some t) = true ∧
    ((o.op.operands.toList.filterMap fun | .tmp t => some t | _ => none).all (looksOk ops (befs ops) i)) = true ∧
    (match o.guard with | none => true | some (g, _) => ((befs ops).getD i []).contains g) = true := fun i o hi => by
    have := h1 i o hi
    unfold relOk1 at this
    rw [hi] at this
    simp only [Bool.and_eq_true] at this
    obtain ⟨⟨⟨⟨⟨a, b⟩, c⟩, d⟩, e⟩, f⟩ := this
    exact ⟨a, b, c, d, e, f⟩
  have hlt : ∀ (i : Nat) (o : Oper) (j : Nat) (o' : Oper) (t : Tmp), ops[i]? = some o → ops[j]? = some o' → o.dst = some t → o'.dst = some t → ¬ j < i := fun i o j o' t hi hj ho ho' hji => by
    have := (h2 i o hi).2.2.2.1
    rw [ho] at this
    simp only [List.all_eq_true, List.mem_range] at this
    have := this j hji
    rw [hj] at this
    simp [ho'] at this
  refine ⟨fun i o hi cs b e => ?_, fun i o hi e he hb => ?_, fun i o hi j hj => ?_, fun i o j o' t hi hj ho ho' => ?_, fun i o t hi ht j o' hj ho' => ?_, fun i o g b hi hg => ?_⟩
  · have := (h2 i o hi).1; rw [e] at this; cases this
  · have := (h2 i o hi).2.1
    rw [List.all_eq_true] at this
    have := this e (List.mem_filter.2 ⟨by simpa using he, hb⟩)
    simpa using this
  · have := (h2 i o hi).2.2.1
    rw [List.all_eq_true] at this
    have := this j hj
    simp only [Bool.and_eq_true, decide_eq_true_eq, List.any_eq_true] at this
    obtain ⟨h3, e, he, h4⟩ := this
    obtain ⟨he1, he2⟩ := List.mem_filter.1 he
    exact ⟨h3, e, by simpa using he1, he2, by simpa using h4⟩
  · rcases Nat.lt_trichotomy i j with h | h | h
    · exact absurd h (hlt j o' i o t hj hi ho' ho)
    · exact h
    · exact absurd h (hlt i o j o' t hi hj ho ho')
  · have := (h2 i o hi).2.2.2.2.1
    rw [List.all_eq_true] at this
    have := this t (List.mem_filterMap.2 ⟨.tmp t, by simpa using ht, rfl⟩)
    unfold looksOk at this
    rw [List.all_eq_true] at this
    have := this j (List.mem_range.2 (List.getElem?_eq_some_iff.1 hj).1)
    rw [hj] at this
    simp only [ho'] at this
    split <;> simp_all
  · have := (h2 i o hi).2.2.2.2.2
    rw [hg] at this
    simpa using this

def valOf (o : Oper) (a : Act) : Value := match o.dst with | none => undef | some t => a.tmps.getD t undef
structure InvR (ops : List Oper) (St : World → World → Prop) (w0 : World) (a0 : Act) (gs : List Gv) (listed : Array Bool) (a : Act) (w : World) : Prop where
  st : St w0 w
  defers : a.defers = a0.defers
  size : a.tmps.size = a0.tmps.size
  lsize : listed.size = ops.length
  down : ∀ (i : Nat) (o : Oper), ops[i]? = some o → listed.getD i false = true → ∀ e ∈ o.after, Region.binds .any e = true → listed.getD e.on false = true
  facts : ∀ (i : Nat) (o : Oper) (g : Gv), ops[i]? = some o → gs[i]? = some g → listed.getD i false = true → g.ok (valOf o a) w
  out : ∀ t, (∀ (i : Nat) (o : Oper), ops[i]? = some o → listed.getD i false = true → o.dst ≠ some t) → a.tmps[t]? = a0.tmps[t]?
section
variable {a0 : Act} {gs : List Gv} {listed : Array Bool} {a : Act} {w : World}
def xsOf (ops : List Oper) (a : Act) (i : Nat) : Value := match ops[i]? with | some o => valOf o a | none => undef
set_option maxRecDepth 100000 in
theorem InvR.lst (hr : RelOk ops) (h : InvR ops St w0 a0 gs listed a w) : ∀ (i : Nat) (o : Oper), ops[i]? = some o → (∀ e ∈ o.after, Region.binds .any e = true → listed.getD e.on false = true) → ∀ j ∈ (befs ops).getD i [], listed.getD j false = true := by
  intro i
  induction i using Nat.strongRecOn with
  | _ i ih =>
    intro o hi hall j hj
    obtain ⟨hji, e, he, hb, h1⟩ := hr.bef i o hi j hj
    have hel := hall e he hb
    rcases h1 with rfl | h1
    · exact hel
    · have hei := (hr.edge i o hi e he hb).1
      have hlen := (List.getElem?_eq_some_iff.1 hi).1
      have he' : ops[e.on]? = some (ops[e.on]'(by omega)) := List.getElem?_eq_getElem (by omega)
      exact ih e.on hei _ he' (h.down e.on _ he' hel) j h1
set_option maxRecDepth 100000 in
theorem slot_eq (hr : RelOk ops) (h : InvR ops St w0 a0 gs listed a w) (hin : ∀ (i : Nat) (o : Oper) (t : Tmp), ops[i]? = some o → o.dst = some t → t < a0.tmps.size) (hg : ∀ (i : Nat) (o : Oper), ops[i]? = some o → ∃ g, gs[i]? = some g)
    (i : Nat) (t : Tmp) (hb : ∀ j ∈ (befs ops).getD i [], listed.getD j false = true) (hi : listed.getD i false = false)
    (ht : ∀ (j : Nat) (o' : Oper), ops[j]? = some o' → o'.dst = some t → if j < i then j ∈ (befs ops).getD i [] else (j = i ∨ i ∈ (befs ops).getD j [])) :
    (runR (xsOf ops a) i gs ops 0 a0 []).1.tmps[t]? = a.tmps[t]? := by
  by_cases hc : ∃ j o, j < i ∧ ops[j]? = some o ∧ o.dst = some t
  · obtain ⟨j, o, hji, hj, hd⟩ := hc
    obtain ⟨g, hgj⟩ := hg j o hj
    have hlj : listed.getD j false = true := hb j (by have := ht j o hj hd; rwa [if_pos hji] at this)
    have hts := hin j o t hj hd
    rw [runR_at t i gs ops 0 a0 [] j o g hji hj hgj hd hts (fun j' o' hj' ho' e => by have := hr.dst j o j' o' t hj ho' hd e; omega)]
    have hv := h.facts j o g hj hgj hlj
    have e1 : valOf o a = a.tmps.getD t undef := by unfold valOf; rw [hd]
    have e2 : xsOf ops a (0 + j) = valOf o a := by unfold xsOf; rw [Nat.zero_add, hj]
    have hta : t < a.tmps.size := by rw [h.size]; exact hts
    have e3 : a.tmps[t]? = some (valOf o a) := by rw [e1, Array.getElem?_eq_getElem hta, Array.getD, dif_pos hta]; rfl
    rw [e3, e2]
    cases g with
    | one v => exact congrArg some hv.symm
    | rel G => rfl
  · rw [runR_out t i gs ops 0 a0 [] (fun j o hj ho e => hc ⟨j, o, hj, ho, e⟩)]
    refine (h.out t fun j o hj hl e => ?_).symm
    have hji : ¬ j < i := fun hlt => hc ⟨j, o, hlt, hj, e⟩
    have := ht j o hj e
    rw [if_neg hji] at this
    rcases this with rfl | hij
    · rw [hi] at hl; cases hl
    · have := h.lst hr j o hj (h.down j o hj hl) i hij
      rw [hi] at this; cases this
def unl (listed : Array Bool) : Nat := listed.toList.countP (fun b => !b)
set_option maxRecDepth 100000 in
theorem getD_lt {listed : Array Bool} {i : Nat} (h : i < listed.size) (d : Bool) : listed.getD i d = listed[i] := by simp [h]
set_option maxRecDepth 100000 in
theorem unl_set {listed : Array Bool} {i : Nat} (h : i < listed.size) (hf : listed.getD i false = false) : unl (listed.setIfInBounds i true) + 1 = unl listed := by
  unfold unl
  rw [Array.toList_setIfInBounds, List.countP_set (by simpa using h)]
  rw [getD_lt h] at hf
  have h1 : listed.toList[i]'(by simpa using h) = false := by simpa using hf
  have h2 : 0 < listed.toList.countP (fun b => !b) := List.countP_pos_iff.2 ⟨false, by rw [← h1]; exact List.getElem_mem _, rfl⟩
  rw [h1]
  simp only [Bool.not_false, Bool.not_true, if_true, Bool.false_eq_true, if_false]
  generalize List.countP _ listed.toList = c at *
  omega
set_option maxRecDepth 100000 in
theorem InvR.all (hr : RelOk ops) (h : InvR ops St w0 a0 gs listed a w) (h0 : Region.ready .any ops.toArray listed = []) : ∀ (i : Nat) (o : Oper), ops[i]? = some o → listed.getD i false = true := by
  intro i
  induction i using Nat.strongRecOn with
  | _ i ih =>
    intro o hi
    have hlen := (List.getElem?_eq_some_iff.1 hi).1
    by_cases hl : listed.getD i false = true
    · exact hl
    · have : i ∈ Region.ready .any ops.toArray listed := by
        refine mem_ready.2 ⟨?_, o, by simpa using hi, fun e he hb => ?_⟩
        · rw [getD_lt (by rw [h.lsize]; exact hlen)] at hl ⊢; simpa using hl
        · have hei := (hr.edge i o hi e he hb).1
          exact ih e.on hei _ (List.getElem?_eq_getElem (by omega))
      rw [h0] at this; cases this
set_option maxRecDepth 100000 in
theorem unl_zero {listed : Array Bool} (h : unl listed = 0) (i : Nat) : listed.getD i true = true := by
  by_cases hi : i < listed.size
  · rw [getD_lt hi]
    unfold unl at h
    rw [List.countP_eq_zero] at h
    have := h (listed.toList[i]'(by simpa using hi)) (List.getElem_mem _)
    simpa using this
  · simp [hi]
set_option maxRecDepth 100000 in
theorem InvR.next (hr : RelOk ops) (h : InvR ops St w0 a0 gs listed a w) (htrans : ∀ a b c, St a b → St b c → St a c) (hstab : ∀ (i : Nat) G, gs[i]? = some (.rel G) → ∀ v w w', G v w → St w w' → G v w')
    (hin : ∀ (i : Nat) (o : Oper) (t : Tmp), ops[i]? = some o → o.dst = some t → t < a0.tmps.size)
    {i : Nat} {o : Oper} {g : Gv} (hi : ops[i]? = some o) (hg : gs[i]? = some g) (hall : ∀ e ∈ o.after, Region.binds .any e = true → listed.getD e.on false = true) {v : Value} {w' : World} (hst : St w w') (hv : g.ok (retV o v) w') :
    InvR ops St w0 a0 gs (listed.setIfInBounds i true) (a.put o.dst v) w' := by
  have hold : ∀ j, (listed.setIfInBounds i true).getD j false = true → j ≠ i → listed.getD j false = true := fun j hj hne => by
    rwa [getD_set_ne false (Ne.symm hne)] at hj
  refine ⟨htrans _ _ _ h.st hst, (put_defers _ _ _).trans h.defers, (put_size _ _ _).trans h.size, by rw [Array.size_setIfInBounds]; exact h.lsize, fun j oj hj hl e he hb => ?_, fun j oj gj hj hgj hl => ?_, fun t ht => ?_⟩
  · by_cases hne : j = i
    · subst hne
      rw [hi] at hj; injection hj with hj; subst hj
      exact getD_set_true (hall e he hb)
    · exact getD_set_true (h.down j oj hj (hold j hl hne) e he hb)
  · by_cases hne : j = i
    · subst hne
      rw [hi] at hj; injection hj with hj; subst hj
      rw [hg] at hgj; injection hgj with hgj; subst hgj
      have e : valOf o (a.put o.dst v) = retV o v := by
        unfold valOf retV
        cases hd : o.dst with
        | none => rfl
        | some t =>
          have := put_eq (a := a) (v := v) (t := t) (by rw [h.size]; exact hin j o t hi hd)
          simp only
          simp [Array.getD_eq_getD_getElem?, this]
      rw [e]; exact hv
    · have hl' := hold j hl hne
      have h1 := h.facts j oj gj hj hgj hl'
      have e : valOf oj (a.put o.dst v) = valOf oj a := by
        unfold valOf
        cases hd : oj.dst with
        | none => rfl
        | some t =>
          have hn : o.dst ≠ some t := fun e => hne (hr.dst j oj i o t hj hi hd e)
          have := put_ne (a := a) (v := v) hn
          simp only
          simp [Array.getD_eq_getD_getElem?, this]
      rw [e]
      cases gj with
      | one u => exact h1
      | rel G => exact hstab j G hgj _ _ _ h1 hst
  · have hli : (listed.setIfInBounds i true).getD i false = true := by
      have : i < listed.size := by rw [h.lsize]; exact (List.getElem?_eq_some_iff.1 hi).1
      simp [this]
    rw [put_ne (ht i o hi hli)]
    exact h.out t fun j oj hj hl => ht j oj hj (getD_set_true hl)
set_option maxRecDepth 100000 in
theorem rel_any {Q : Exit → Act → World → Prop} (hr : RelOk ops) (hrefl : ∀ w, St w w) (htrans : ∀ a b c, St a b → St b c → St a c) (hstab : ∀ (i : Nat) G, gs[i]? = some (.rel G) → ∀ v w w', G v w → St w w' → G v w')
    (hin : ∀ (i : Nat) (o : Oper) (t : Tmp), ops[i]? = some o → o.dst = some t → t < a0.tmps.size) (hw : wpR P ops St w0 (fun a' w' => Q .normal a' w') gs ops 0 a0 []) :
    ∀ (fuel : Nat) (listed : Array Bool) (a : Act) (w : World), InvR ops St w0 a0 gs listed a w → unl listed ≤ fuel → wpAny P .any ops.toArray Q fuel listed a w := by
  have hg : ∀ (i : Nat) (o : Oper), ops[i]? = some o → ∃ g, gs[i]? = some g := fun i o hi => by
    obtain ⟨g, e, -⟩ := wpR_use (xs := fun _ => undef) gs ops 0 a0 [] hw i o hi; exact ⟨g, e⟩
  have hend : ∀ (listed : Array Bool) (a : Act) (w : World), InvR ops St w0 a0 gs listed a w → Region.ready .any ops.toArray listed = [] → Q .normal a w := by
    intro listed a w h h0
    have hl := h.all hr h0
    have hw' := wpR_end (xs := xsOf ops a) gs ops 0 a0 [] hw w h.st ((AllF_iff _ _).2 fun p hp => by
      rcases runR_facts _ _ _ _ _ _ p hp with hp | ⟨j, G, hj, hgj, rfl⟩
      · cases hp
      · have hoj : ops[j]? = some (ops[j]'hj) := List.getElem?_eq_getElem hj
        have := h.facts j _ _ hoj hgj (hl j _ hoj)
        show G (xsOf ops a (0 + j)) w
        rw [show xsOf ops a (0 + j) = valOf (ops[j]'hj) a by unfold xsOf; rw [Nat.zero_add, hoj]]
        exact this)
    have he : (runR (xsOf ops a) ops.length gs ops 0 a0 []).1 = a := by
      obtain ⟨s1, s2⟩ := runR_size (xs := xsOf ops a) ops.length gs ops 0 a0 []
      have htm : (runR (xsOf ops a) ops.length gs ops 0 a0 []).1.tmps = a.tmps := by
        apply Array.ext_getElem?
        intro t
        by_cases hc : ∃ (j : Nat) (o : Oper), ops[j]? = some o ∧ o.dst = some t
        · obtain ⟨j, o, hj, hd⟩ := hc
          obtain ⟨g, hgj⟩ := hg j o hj
          have hts := hin j o t hj hd
          have hlen := (List.getElem?_eq_some_iff.1 hj).1
          rw [runR_at t ops.length gs ops 0 a0 [] j o g hlen hj hgj hd hts (fun j' o' hj' ho' e => by have := hr.dst j o j' o' t hj ho' hd e; omega)]
          have hv := h.facts j o g hj hgj (hl j o hj)
          have e1 : valOf o a = a.tmps.getD t undef := by unfold valOf; rw [hd]
          have e2 : xsOf ops a (0 + j) = valOf o a := by unfold xsOf; rw [Nat.zero_add, hj]
          have hta : t < a.tmps.size := by rw [h.size]; exact hts
          have e3 : a.tmps[t]? = some (valOf o a) := by rw [e1, Array.getElem?_eq_getElem hta, Array.getD, dif_pos hta]; rfl
          rw [e3, e2]
          cases g with
          | one v => exact congrArg some hv.symm
          | rel G => rfl
        · rw [runR_out t ops.length gs ops 0 a0 [] (fun j o _ ho e => hc ⟨j, o, ho, e⟩)]
          exact (h.out t fun j o hj _ e => hc ⟨j, o, hj, e⟩).symm
      have hdf := s2.trans h.defers.symm
      generalize (runR (xsOf ops a) ops.length gs ops 0 a0 []).1 = r at htm hdf
      obtain ⟨t1, d1⟩ := r
      obtain ⟨t2, d2⟩ := a
      simp only at htm hdf
      rw [htm, hdf]
    rwa [he] at hw'
  intro fuel
  induction fuel with
  | zero =>
    intro listed a w h hu
    have h0 : Region.ready .any ops.toArray listed = [] := by
      rw [List.eq_nil_iff_forall_not_mem]
      intro j hj
      have := (mem_ready.1 hj).1
      rw [unl_zero (by omega) j] at this; cases this
    exact ⟨h0, hend listed a w h h0⟩
  | succ fuel ih =>
    intro listed a w h hu
    refine ⟨hend listed a w h, fun i hi => ?_⟩
    obtain ⟨hiu, o, hio, hall⟩ := mem_ready.1 hi
    have hio : ops[i]? = some o := by simpa using hio
    have hlen := (List.getElem?_eq_some_iff.1 hio).1
    have hil : i < listed.size := by rw [h.lsize]; exact hlen
    have hif : listed.getD i false = false := by rw [getD_lt hil] at hiu ⊢; exact hiu
    have hus := unl_set hil hif
    obtain ⟨g, hgi, hO⟩ := wpR_use (xs := xsOf ops a) gs ops 0 a0 [] hw i o hio
    rw [Nat.zero_add] at hO
    have hbl := h.lst hr i o hio hall
    have heq : ∀ t, (∀ (j : Nat) (o' : Oper), ops[j]? = some o' → o'.dst = some t → if j < i then j ∈ (befs ops).getD i [] else (j = i ∨ i ∈ (befs ops).getD j [])) → (runR (xsOf ops a) i gs ops 0 a0 []).1.tmps[t]? = a.tmps[t]? :=
      fun t ht => slot_eq hr h hin hg i t hbl hif ht
    have hev : execOp a.eval o = execOp (runR (xsOf ops a) i gs ops 0 a0 []).1.eval o := by
      refine execOp_congr o (hr.sel i o hio) fun x hx => ?_
      cases x with
      | tmp t =>
        have := heq t (hr.looks i o t hio hx)
        simp only [Act.eval, Array.getD_eq_getD_getElem?, this]
      | _ => rfl
    have hwt : Region.wanted o (yielded ops.toArray (runR (xsOf ops a) i gs ops 0 a0 []).1.tmps) = Region.wanted o (yielded ops.toArray a.tmps) := by
      unfold Region.wanted
      cases hgd : o.guard with
      | none => rfl
      | some gw =>
        obtain ⟨gi, want⟩ := gw
        simp only
        have hgb := hr.guard i o gi want hio hgd
        have hy : yielded ops.toArray (runR (xsOf ops a) i gs ops 0 a0 []).1.tmps gi = yielded ops.toArray a.tmps gi := by
          unfold yielded
          cases hog : ops.toArray[gi]? with
          | none => rfl
          | some og =>
            cases hdg : og.dst with
            | none => simp [hdg]
            | some t =>
              have := heq t fun j o' hj ho' => by
                have : gi = j := hr.dst gi og j o' t (by simpa using hog) hj hdg ho'
                subst this
                rw [if_pos (hr.bef i o hio gi hgb).1]; exact hgb
              simp [hdg, this]
        rw [hy]
    have hF : AllF ((runR (xsOf ops a) i gs ops 0 a0 []).2.filter fun p => ((befs ops).getD i []).contains p.1) w := (AllF_iff _ _).2 fun p hp => by
      obtain ⟨hp1, hp2⟩ := List.mem_filter.1 hp
      rcases runR_facts _ _ _ _ _ _ p hp1 with hp1 | ⟨j, G, hj, hgj, rfl⟩
      · cases hp1
      · have hjl : j < ops.length := by omega
        have hoj : ops[j]? = some (ops[j]'hjl) := List.getElem?_eq_getElem hjl
        have hjb : j ∈ (befs ops).getD i [] := by simpa using hp2
        have := h.facts j _ _ hoj hgj (hbl j hjb)
        show G (xsOf ops a (0 + j)) w
        rw [show xsOf ops a (0 + j) = valOf (ops[j]'hjl) a by unfold xsOf; rw [Nat.zero_add, hoj]]
        exact this
    unfold wpOp
    rw [show ops.toArray[i]? = some o by simpa using hio]
    simp only
    unfold Obl at hO
    by_cases hwd : Region.wanted o (yielded ops.toArray a.tmps) = true
    · rw [if_pos hwd]
      left
      cases g with
      | one v =>
        simp only [hwt, hwd, if_true] at hO
        exact wp_of_does hev (hO w h.st hF) fun u w' ⟨hu1, hu2⟩ => ih _ _ _ (h.next hr htrans hstab hin hio hgi hall hu2 hu1) (by omega)
      | rel G =>
        simp only [hwt, hwd, if_true] at hO
        exact wp_of_does hev (hO w h.st hF) fun u w' ⟨hu1, hu2⟩ => ih _ _ _ (h.next hr htrans hstab hin hio hgi hall hu2 hu1) (by omega)
    · rw [if_neg hwd]
      have hre : retV o undef = undef := by unfold retV; cases o.dst <;> rfl
      cases g with
      | one v =>
        simp only [hwt, hwd] at hO
        refine ih _ _ _ (h.next hr htrans hstab hin hio hgi hall (hrefl w) (v := undef) ?_) (by omega)
        rw [hre]; exact hO.symm
      | rel G =>
        simp only [hwt, hwd] at hO
        refine ih _ _ _ (h.next hr htrans hstab hin hio hgi hall (hrefl w) (v := undef) ?_) (by omega)
        rw [hre]; exact hO w h.st hF
end
set_option maxRecDepth 100000 in
theorem rep_false (n i : Nat) : (Array.replicate n false).getD i false = false := by by_cases h : i < n <;> simp [h]
def insB (ops : List Oper) (n : Nat) : Bool := ops.all fun o => match o.dst with | none => true | some t => decide (t < n)
def StabL (St : World → World → Prop) : List Gv → Prop
  | [] => True
  | .one _ :: l => StabL St l
  | .rel G :: l => (∀ v w w', G v w → St w w' → G v w') ∧ StabL St l
set_option maxRecDepth 100000 in
theorem stabL_spec {St : World → World → Prop} : ∀ (gs : List Gv), StabL St gs → ∀ (i : Nat) G, gs[i]? = some (.rel G) → ∀ v w w', G v w → St w w' → G v w'
  | [], _, i, G, hi => by simp at hi
  | .one v :: l, h, 0, G, hi => by simp at hi
  | .one v :: l, h, i + 1, G, hi => stabL_spec l h i G (by simpa using hi)
  | .rel G' :: l, h, 0, G, hi => by simp at hi; subst hi; exact h.1
  | .rel G' :: l, h, i + 1, G, hi => stabL_spec l h.2 i G (by simpa using hi)
set_option maxRecDepth 100000 in
/-- ONE WALK IN THE TEXT's ORDER SERVES EVERY ORDER: each operation has one value, or one fact; 'St': what one operation may do to the world that another one reads. -/
theorem wp_region_rel {id : Nat} {Q : Exit → Act → World → Prop} {a0 : Act} {w : World} (n : Nat) (St : World → World → Prop) (gs : List Gv) (hm : P.follows .mixedOrders = true) (hok : relOk ops = true) (hn : a0.tmps.size = n) (hin : insB ops n = true)
    (hrefl : ∀ w, St w w) (htrans : ∀ a b c, St a b → St b c → St a c) (hstab : StabL St gs)
    (h : wpR P ops St w.drew (fun a' w' => Q .normal a' w') gs ops 0 a0 []) : (Code.region id ops.toArray true).wp P Q a0 w := by
  refine wp_region_any hm (rel_any (relOk_spec hok) hrefl htrans (stabL_spec gs hstab) (fun i o t hi ht => ?_) h _ _ _ _ ?_ ?_)
  · unfold insB at hin
    rw [List.all_eq_true] at hin
    have := hin o (List.mem_of_getElem? hi)
    rw [ht] at this
    rw [hn]; simpa using this
  · exact ⟨hrefl _, rfl, rfl, by simp, fun i o hi hl => (by rw [rep_false] at hl; cases hl), fun i o g hi hg hl => (by rw [rep_false] at hl; cases hl), fun t _ => rfl⟩
  · unfold unl
    refine Nat.le_trans (List.countP_le_length) ?_
    simp

section
variable {gs : List Gv} {rest : List Oper} {k : Nat} {a A' : Act} {o : Oper} {φ : List (Nat × Value × Fct)} {v : Value}
set_option maxRecDepth 100000 in
theorem quiet_eq {C : World → Prop} {w : World} (hw : C w) {t : Tmp} (hd : o.dst = some t) (ht : t < a.tmps.size) (h : o.quiet P a C (fun a' => a' = a.put o.dst v)) : doesR P o a w (fun u w' => retV o u = v ∧ C w') := by
  obtain ⟨u, h1, h2⟩ := h
  have hu : u = v := by
    have := congrArg (fun x : Act => x.tmps[t]?) h2
    simp only [hd] at this
    rw [put_eq ht, put_eq ht] at this
    injection this
  subst hu
  have hr : ∀ z, retV o z = z := fun z => by unfold retV; rw [hd]
  have h3 := h1 w hw
  unfold Oper.quietAt at h3
  unfold doesR
  generalize (execOp a.eval o).run P w = r at *
  cases r with
  | ok n w' =>
    cases n <;> simp only [Oper.quietUpon] at h3 <;> simp only
    case value x => obtain ⟨e1, e2⟩ := h3; exact ⟨by rw [hr]; exact e2, by rw [e1]; exact hw⟩
    case skip => obtain ⟨e1, e2⟩ := h3; exact ⟨by rw [hr]; exact e2.symm, by rw [e1]; exact hw⟩
    case enter f args => obtain ⟨e1, hc⟩ := h3; rw [e1]; exact hc.mono fun e w'' ⟨he, hw''⟩ => ⟨u, he, hr u, hw''⟩
  | halt x w' => simp only [Oper.quietUpon] at h3
set_option maxRecDepth 100000 in
/-- One operation that has one value. -/
theorem wpR_one (hrefl : ∀ w, St w w) (hw : Region.wanted o (yielded ops.toArray a.tmps) = true) (t : Tmp) (hd : o.dst = some t) (n : Nat) (hn : a.tmps.size = n) (ht : decide (t < n) = true) (hA : a.put o.dst v = A')
    (h : ∀ w, St w0 w → AllF (φ.filter fun p => ((befs ops).getD k []).contains p.1) w → ∀ K : Act → Prop, (∀ a', a' = A' → K a') → o.quiet P a (fun w' => St w w') K)
    (hrest : wpR P ops St w0 Q gs rest (k + 1) A' φ) : wpR P ops St w0 Q (.one v :: gs) (o :: rest) k a φ := by
  subst hA
  refine ⟨?_, hrest⟩
  unfold Obl
  simp only [hw, if_true]
  intro w hs hf
  exact quiet_eq (C := fun w' => St w w') (hrefl w) hd (by rw [hn]; simpa using ht) (h w hs hf _ (fun a' e => e))
set_option maxRecDepth 100000 in
theorem wpR_skip (hw : Region.wanted o (yielded ops.toArray a.tmps) = false) (hA : a.put o.dst undef = A')
    (hrest : wpR P ops St w0 Q gs rest (k + 1) A' φ) : wpR P ops St w0 Q (.one undef :: gs) (o :: rest) k a φ := by
  subst hA
  refine ⟨?_, hrest⟩
  unfold Obl
  simp [hw]
set_option maxRecDepth 100000 in
/-- One operation whose value and world meet a fact. -/
theorem wpR_rel {G : Value → World → Prop} (hw : Region.wanted o (yielded ops.toArray a.tmps) = true)
    (h : ∀ w, St w0 w → AllF (φ.filter fun p => ((befs ops).getD k []).contains p.1) w → doesR P o a w (fun u w' => G (retV o u) w' ∧ St w w'))
    {A' : Value → Act} (hA : ∀ x, a.put o.dst x = A' x) (hrest : ∀ x, wpR P ops St w0 Q gs rest (k + 1) (A' x) ((k, x, G) :: φ)) : wpR P ops St w0 Q (.rel G :: gs) (o :: rest) k a φ := by
  refine ⟨?_, fun x => by rw [hA]; exact hrest x⟩
  unfold Obl
  simp only [hw, if_true]
  exact h
set_option maxRecDepth 100000 in
theorem AllF_at {B : List Nat} {φ : List (Nat × Value × Fct)} {w : World} (h : AllF (φ.filter fun p => B.contains p.1) w) (j : Nat) {p : Nat × Value × Fct} (hj : φ[j]? = some p) (hB : B.contains p.1 = true) : p.2.2 p.2.1 w :=
  (AllF_iff _ _).1 h p (List.mem_filter.2 ⟨List.mem_of_getElem? hj, hB⟩)
set_option maxRecDepth 100000 in
theorem does_run {w w' : World} {u : Value} {R : Value → World → Prop} (hr : (execOp a.eval o).run P w = .ok (.value u) w') (h : R u w') : doesR P o a w R := by
  unfold doesR; rw [hr]; exact h
set_option maxRecDepth 100000 in
theorem does_call {w w' : World} {f : FuncId} {args : Array Value} {R : Value → World → Prop} (hr : (execOp a.eval o).run P w = .ok (.enter f args) w') (h : Calls P f args w' fun e w'' => ∃ v, e = .returned v ∧ R v w'') : doesR P o a w R := by
  unfold doesR; rw [hr]; exact h
end
end
end Go.Proofs.Ytgjplbanfnomkaa
