/- A drawn region whose last operations are forced (each waits for all before it): the head may come in any order, the tail is walked in the text's order. No program is named here. -/
import Derived.Test.YtgjplbanfnomkaaRel
import Derived.StillTail
namespace Go.Proofs.Ytgjplbanfnomkaa
section
variable {P : Program} {l : List Oper} {n : Nat} {Q : Exit → Act → World → Prop}
def headB (l : List Oper) (n : Nat) : Bool :=
  (List.range n).all fun i => match l[i]? with
    | none => false
    | some o => (o.after.toList.all fun e => !Region.binds .any e || decide (e.on < i)) && (match o.guard with | none => true | some (g, _) => decide (g < n))
set_option maxRecDepth 100000 in
theorem headB_spec (h : headB l n = true) {i : Nat} (hi : i < n) : ∃ o, l[i]? = some o ∧ (∀ e ∈ o.after, Region.binds .any e = true → e.on < i) ∧ ∀ g b, o.guard = some (g, b) → g < n := by
  unfold headB at h
  rw [List.all_eq_true] at h
  have h1 := h i (List.mem_range.2 hi)
  cases ho : l[i]? with
  | none => rw [ho] at h1; cases h1
  | some o =>
    rw [ho] at h1
    simp only [Bool.and_eq_true, List.all_eq_true, Bool.or_eq_true, Bool.not_eq_true', decide_eq_true_eq] at h1
    refine ⟨o, rfl, fun e he hb => ?_, fun g b hg => ?_⟩
    · rcases h1.1 e (by simpa using he) with h2 | h2
      · rw [hb] at h2; cases h2
      · exact h2
    · have := h1.2; rw [hg] at this; simpa using this
def QH (P : Program) (l : List Oper) (n : Nat) (Q : Exit → Act → World → Prop) : Exit → Act → World → Prop
  | .normal, a, w => wpList P l.toArray Q (l.drop n) a w
  | e, a, w => Q e a w
set_option maxRecDepth 100000 in
theorem wp_head {o : Oper} {a : Act} {w : World} {K K' : Act → World → Prop} (hK : ∀ a w, K a w → K' a w) (h : o.wp P a w K (QH P l n Q)) : o.wp P a w K' Q := by
  unfold Oper.wp at *
  generalize (execOp a.eval o).run P w = r at *
  cases r with
  | ok nx w' =>
    cases nx <;> simp only [Oper.upon] at h ⊢
    case value => exact hK _ _ h
    case skip => exact hK _ _ h
    case defer => exact hK _ _ h
    case enter f args =>
      refine Calls.mono h fun e w'' h' => ?_
      cases e with
      | returned v => exact hK _ _ h'
      | panicked c => exact h'
      | outgrown => exact h'
    case row r args => exact Rows.mono h fun v w'' h' => hK _ _ h'
  | halt x w' =>
    cases x <;> simp only [Oper.upon] at h ⊢
    case panic => exact h
set_option maxRecDepth 100000 in
theorem wpOp_head {i : Nat} {a : Act} {w : World} {K K' : Act → World → Prop} (hh : headB l n = true) (hi : i < n) (hK : ∀ a w, K a w → K' a w) (h : wpOp P (l.take n).toArray (QH P l n Q) i K a w) : wpOp P l.toArray Q i K' a w := by
  obtain ⟨o, ho, -, hg⟩ := headB_spec hh hi
  unfold wpOp at *
  have h1 : (l.take n).toArray[i]? = some o := by simp [hi, ho]
  have h2 : l.toArray[i]? = some o := by simp [ho]
  have hw : Region.wanted o (yielded (l.take n).toArray a.tmps) = Region.wanted o (yielded l.toArray a.tmps) := by
    unfold Region.wanted
    cases hgd : o.guard with
    | none => rfl
    | some gb =>
      obtain ⟨g, b⟩ := gb
      have := hg g b hgd
      simp only
      have e : yielded (l.take n).toArray a.tmps g = yielded l.toArray a.tmps g := by
        unfold yielded
        simp [this]
      rw [e]
  simp only [h1, hw] at h
  simp only [h2]
  split
  · rename_i hwt
    simp only [hwt, if_true] at h
    rcases h with h | ⟨h3, h4⟩
    · exact .inl (wp_head hK h)
    · exact .inr ⟨h3, h4⟩
  · rename_i hwt
    simp only [hwt] at h
    exact hK _ _ h
set_option maxRecDepth 100000 in
theorem wpAny_split (hs : Region.sinkB .any l.toArray n = true) (hc : Region.chainB .any l.toArray n = true) (hn : n < l.length) (hh : headB l n = true)
    (hq : Region.seqB .any l.toArray (l.length - n) n (List.replicate n true ++ List.replicate (l.length - n) false).toArray = true) :
    ∀ (f : Nat) (lh listed : Array Bool) (a : Act) (w : World), lh.size = n → (∀ i, i < n → listed[i]? = lh[i]?) → HeadInv .any l.toArray n listed → unl lh = f →
      wpAny P .any (l.take n).toArray (QH P l n Q) f lh a w → wpAny P .any l.toArray Q (f + (l.length - n)) listed a w := by
  have hgd : ∀ {lh listed : Array Bool}, (∀ i, i < n → listed[i]? = lh[i]?) → ∀ i d, i < n → listed.getD i d = lh.getD i d := fun he i d hi => by
    rw [Array.getD_eq_getD_getElem?, Array.getD_eq_getD_getElem?, he i hi]
  have hready : ∀ {lh listed : Array Bool}, (∀ i, i < n → listed[i]? = lh[i]?) → ∀ i, i < n → (i ∈ Region.ready .any l.toArray listed ↔ i ∈ Region.ready .any (l.take n).toArray lh) := fun {lh listed} he i hi => by
    obtain ⟨o, ho, hed, -⟩ := headB_spec hh hi
    rw [mem_ready, mem_ready, hgd he i true hi]
    have h1 : (l.take n).toArray[i]? = some o := by simp [hi, ho]
    have h2 : l.toArray[i]? = some o := by simp [ho]
    rw [h1, h2]
    refine and_congr_right fun _ => ?_
    constructor
    · rintro ⟨o', e, h⟩
      injection e with e; subst e
      exact ⟨o, rfl, fun e he' hb => by rw [← hgd he _ _ (by have := hed e he' hb; omega)]; exact h e he' hb⟩
    · rintro ⟨o', e, h⟩
      injection e with e; subst e
      exact ⟨o, rfl, fun e he' hb => by rw [hgd he _ _ (by have := hed e he' hb; omega)]; exact h e he' hb⟩
  intro f
  induction f with
  | zero =>
    intro lh listed a w hsz he hinv hu h
    have hall : ∀ i, i < n → lh.getD i true = true := fun i _ => unl_zero hu i
    have hL : listed = (List.replicate n true ++ List.replicate (l.length - n) false).toArray := by
      apply Array.ext'
      apply List.ext_getElem?
      intro i
      by_cases hi : i < n
      · have h1 : listed.getD i true = true := by rw [hgd he i true hi]; exact hall i hi
        have h2 : i < listed.size := by rw [hinv.size]; simp; omega
        rw [getD_lt h2] at h1
        rw [List.getElem?_append_left (by simp; omega)]
        simp [h2, h1, hi]
      · by_cases hi2 : i < l.length
        · have h2 : i < listed.size := by rw [hinv.size]; simpa using hi2
          have h1 := hinv.tail i (by omega) (by simpa using hi2)
          rw [getD_lt h2] at h1
          rw [List.getElem?_append_right (by simp; omega)]
          have h3 : i - n < l.length - n := by omega
          simp [h2, h1, h3]
        · rw [List.getElem?_eq_none (by have := hinv.size; simp at this ⊢; omega), List.getElem?_eq_none (by simp; omega)]
    rw [Nat.zero_add, hL]
    have hq' : Region.seqB .any l.toArray (l.drop n).length n (List.replicate n true ++ List.replicate (l.length - n) false).toArray = true := by rw [List.length_drop]; exact hq
    have := wpAny_of_seq (md := .any) (Q' := Q) (l.drop n) n _ a w (fun j => by simp [List.getElem?_drop]) hq' (by
      have h3 : QH P l n Q .normal a w := by
        unfold wpAny at h; exact h.2
      exact h3)
    rwa [List.length_drop] at this
  | succ f ih =>
    intro lh listed a w hsz he hinv hu h
    rw [show f + 1 + (l.length - n) = (f + (l.length - n)) + 1 by omega]
    have hex : ∃ i, i < n ∧ lh.getD i true = false := by
      by_cases hex : ∃ i, i < n ∧ lh.getD i true = false
      · exact hex
      · exfalso
        have : unl lh = 0 := by
          unfold unl
          rw [List.countP_eq_zero]
          intro b hb
          obtain ⟨i, hi, e⟩ := List.mem_iff_getElem.1 hb
          have hi' : i < lh.size := by simpa using hi
          have h1 : lh.getD i true = true := by
            cases hg : lh.getD i true with
            | true => rfl
            | false => exact absurd ⟨i, by omega, hg⟩ hex
          rw [getD_lt hi'] at h1
          have : lh.toList[i] = lh[i] := by simp
          rw [← e, this, h1]; simp
        omega
    obtain ⟨i0, hi0, hf0⟩ := hex
    have hr : ∀ j ∈ Region.ready .any l.toArray listed, j < n := fun j hj => by
      rcases Nat.lt_or_ge j n with h | h
      · exact h
      · exact absurd hj (tail_waits hs hc (by simpa using hn) hinv _ i0 rfl hi0 (by rw [hgd he _ _ hi0]; exact hf0) j h)
    have hne : Region.ready .any l.toArray listed ≠ [] := by
      -- the least unlisted one is ready
      have hleast : ∃ i, i < n ∧ lh.getD i true = false ∧ ∀ j, j < i → lh.getD j true = true := by
        have : ∀ k i, i ≤ k → i < n → lh.getD i true = false → ∃ i, i < n ∧ lh.getD i true = false ∧ ∀ j, j < i → lh.getD j true = true := by
          intro k
          induction k with
          | zero => intro i h0 h1 h2; exact ⟨i, h1, h2, fun j hj => by omega⟩
          | succ k ihk =>
            intro i h0 h1 h2
            by_cases hx : ∃ j, j < i ∧ lh.getD j true = false
            · obtain ⟨j, hj, hj2⟩ := hx
              exact ihk j (by omega) (by omega) hj2
            · refine ⟨i, h1, h2, fun j hj => ?_⟩
              cases hg : lh.getD j true with
              | true => rfl
              | false => exact absurd ⟨j, hj, hg⟩ hx
        exact this i0 i0 (Nat.le_refl _) hi0 hf0
      obtain ⟨i, hi, hif, hbefore⟩ := hleast
      obtain ⟨o, ho, hed, -⟩ := headB_spec hh hi
      intro h0
      have : i ∈ Region.ready .any l.toArray listed := by
        refine mem_ready.2 ⟨by rw [hgd he _ _ hi]; exact hif, o, by simp [ho], fun e he' hb => ?_⟩
        have h1 := hed e he' hb
        rw [hgd he _ _ (by omega)]
        have h2 := hbefore _ h1
        have h3 : e.on < lh.size := by omega
        rw [getD_lt h3] at h2 ⊢; exact h2
      rw [h0] at this; cases this
    refine ⟨fun h0 => absurd h0 hne, fun i hi => ?_⟩
    have hin := hr i hi
    have hih := (hready he i hin).1 hi
    have hun := (mem_ready.1 hih).1
    unfold wpAny at h
    refine wpOp_head hh hin (fun a' w' h' => ?_) (h.2 i hih)
    have his : i < lh.size := by omega
    refine ih _ _ a' w' (by simpa using hsz) (fun j hj => ?_) (hinv.set hi hin) ?_ h'
    · rw [Array.getElem?_setIfInBounds, Array.getElem?_setIfInBounds]
      have hs2 : listed.size = l.length := by have := hinv.size; simpa using this
      by_cases hij : i = j
      · subst hij; simp; rw [if_pos (by omega), if_pos (by omega)]
      · rw [if_neg hij, if_neg hij]; exact he j hj
    · have := unl_set his (by rw [getD_lt his] at hun ⊢; exact hun)
      omega
def tailB (l : List Oper) (n : Nat) : Bool := Region.sinkB .any l.toArray n && Region.chainB .any l.toArray n && decide (n < l.length) && headB l n && Region.seqB .any l.toArray (l.length - n) n (List.replicate n true ++ List.replicate (l.length - n) false).toArray
set_option maxRecDepth 100000 in
theorem wpAny_tail {a : Act} {w : World} (hB : tailB l n = true) (h : wpAny P .any (l.take n).toArray (QH P l n Q) (l.take n).length (Array.replicate (l.take n).length false) a w) :
    wpAny P .any l.toArray Q l.toArray.size (Array.replicate l.toArray.size false) a w := by
  simp only [tailB, Bool.and_eq_true, decide_eq_true_eq] at hB
  obtain ⟨⟨⟨⟨hs, hc⟩, hn⟩, hh⟩, hq⟩ := hB
  have htl : (l.take n).length = n := by simp; omega
  rw [htl] at h
  have hrf : ∀ k, unl (Array.replicate k false) = k := fun k => by
    unfold unl; rw [Array.toList_replicate, List.countP_replicate]; simp
  have := wpAny_split (Q := Q) (P := P) hs hc hn hh hq n (Array.replicate n false) (Array.replicate l.toArray.size false) a w (by simp) (fun i hi => by
    have h2 : i < l.length := by omega
    simp [hi, h2])
    ⟨by simp, fun j oj _ hl => (by rw [getD_replicate_false] at hl; cases hl), fun t _ ht => getD_in (by simpa using ht) (getD_replicate_false _ _)⟩ (hrf n) h
  rw [show n + (l.length - n) = l.toArray.size by simp; omega] at this
  exact this
set_option maxRecDepth 100000 in
/-- The head in any order by one walk (as 'wp_region_rel'), then the forced tail in the text's order. -/
theorem wp_region_rel_tail {id : Nat} {a0 : Act} {w : World} (k : Nat) (n : Nat) (hm : P.follows .mixedOrders = true) (hB : tailB l k = true) (St : World → World → Prop) (gs : List Gv) (hok : relOk (l.take k) = true) (hn : a0.tmps.size = n) (hin : insB (l.take k) n = true)
    (hrefl : ∀ w, St w w) (htrans : ∀ a b c, St a b → St b c → St a c) (hstab : StabL St gs)
    (h : wpR P (l.take k) St w.drew (fun a' w' => wpList P l.toArray Q (l.drop k) a' w') gs (l.take k) 0 a0 []) : (Code.region id l.toArray true).wp P Q a0 w := by
  refine wp_region_any hm (wpAny_tail hB (rel_any (Q := QH P l k Q) (relOk_spec hok) hrefl htrans (stabL_spec gs hstab) (fun i o t hi ht => ?_) h _ _ _ _ ?_ ?_))
  · unfold insB at hin
    rw [List.all_eq_true] at hin
    have := hin o (List.mem_of_getElem? hi)
    rw [ht] at this
    rw [hn]; simpa using this
  · exact ⟨hrefl _, rfl, rfl, by simp, fun i o hi hl => (by rw [rep_false] at hl; cases hl), fun i o g hi hg hl => (by rw [rep_false] at hl; cases hl), fun t _ => rfl⟩
  · unfold unl
    refine Nat.le_trans (List.countP_le_length) ?_
    simp
end
end Go.Proofs.Ytgjplbanfnomkaa
