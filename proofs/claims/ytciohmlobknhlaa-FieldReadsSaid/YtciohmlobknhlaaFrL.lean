/- 'FieldReads': its walk. -/
import Derived.Test.YtciohmlobknhlaaFrP
import Derived.Laws.AppendOwnNone
import Derived.Great.BuildSlice
set_option linter.unusedVariables false
namespace Go.Proofs.Ytciohmlobknhlaa
open Go.RowKit
theorem take_anyN (N : Nat → Prop) (A : Option Addr) (c n : Nat) (l : List B8) (hn : l.length = n) (f : Fd) (w : World) (hd : f.d.length = 32) (hk : f.k = 0 ∨ f.k = 1 ∨ f.k = 2) (hfn : f.n < 18446744073709551616) (hsN : SlN w N A (l.map bv)) (hA : A = none → c = 0) (hc : n ≤ c) (hm : n ≤ 1099511627776) :
    Calls Try.prog 6 #[.slice A n c, .agg f.cells.toArray] w fun r w' => ∃ g : Gt, r = .returned (.agg g.cells.toArray) ∧ g.f.d.length = 32 ∧ g.e = sE f l ∧ (sE f l = 0 → GOk g f l ∧ GAt w N g) ∧ Turn (fun _ => False) w w' := by
  subst hn
  have hs : SlN w (fun _ => False) A (l.map bv) := fun j u hu => by
    obtain ⟨ad, e, -, hcl⟩ := hsN j u hu
    exact ⟨ad, e, fun h => h, hcl⟩
  by_cases h2 : f.k = 2
  · by_cases h32 : l.length < 32
    · refine (take_short A c l f w hd h2 h32).mono ?_
      rintro r w' ⟨rfl, t⟩
      have e : sE f l = 2 := by unfold sE; rw [if_pos h2, if_pos h32]
      exact ⟨Gx 2, rfl, rfl, e.symm, (fun h => by rw [e] at h; cases h), t⟩
    · refine (take_id A c l f w hd h2 hs hc (by omega) hm).mono ?_
      rintro r w' ⟨rfl, t⟩
      have e : sE f l = 0 := by unfold sE; rw [if_pos h2, if_neg h32]
      refine ⟨_, rfl, by simp; omega, e.symm, fun _ => ⟨⟨?_, ?_, ?_, ?_⟩, ⟨sln_cut hsN c 32 hc, by simp; omega, cut_none hA, fun j u h => by simp at h⟩⟩, t⟩
      · unfold sN; rw [if_neg (by rw [h2]; decide)]
      · unfold sB; rw [if_neg (by rw [h2]; decide)]
      · unfold sD; rw [if_pos h2]
      · unfold sL; rw [if_pos h2]
  · have e0 : sE f l = if f.k = 0 then eNum f.n l else eText (f.n : Int) l := by unfold sE; rw [if_neg h2]
    by_cases hx : numE l = 0
    · by_cases hbig : f.n < numV l
      · refine (take_numg A c l f w hd h2 hfn hs hc hx (.inl hbig) hm).mono ?_
        rintro r w' ⟨rfl, t⟩
        have eg : takeG A c l f = Gx 5 := by unfold takeG; rw [if_neg (by rw [hx]; simp), if_pos hbig]
        have e : sE f l = 5 := by
          rw [e0]
          split
          · unfold eNum; rw [if_neg (by rw [hx]; simp), if_pos hbig]
          · unfold eText; rw [if_neg (by rw [hx]; simp), if_pos (.inr (by omega))]
        rw [eg]
        exact ⟨Gx 5, rfl, rfl, e.symm, (fun h => by rw [e] at h; cases h), t⟩
      · by_cases h0 : f.k = 0
        · refine (take_numg A c l f w hd h2 hfn hs hc hx (.inr (.inl h0)) hm).mono ?_
          rintro r w' ⟨rfl, t⟩
          have eg : takeG A c l f = ⟨⟨0, numV l, none, 0, [], zeros 32⟩, 0, cutA A c (numK l), c - numK l, numR l⟩ := by unfold takeG; rw [if_neg (by rw [hx]; simp), if_neg hbig, if_pos h0]
          have e : sE f l = 0 := by rw [e0, if_pos h0]; unfold eNum; rw [if_neg (by rw [hx]; simp), if_neg hbig]
          rw [eg]
          refine ⟨_, rfl, by simp [zeros], e.symm, fun _ => ⟨⟨?_, ?_, ?_, ?_⟩, ⟨by rw [numR_drop]; exact sln_cut hsN c _ hc, by show (numR l).length ≤ c - numK l; rw [numR_drop, List.length_drop]; omega, cut_none hA, fun j u h => by simp at h⟩⟩, t⟩
          · unfold sN; rw [if_pos h0]
          · unfold sB; rw [if_neg (by rw [h0]; decide)]
          · unfold sD; rw [if_neg h2]
          · unfold sL; rw [if_neg h2, if_pos h0]
        · have h1 : f.k = 1 := by omega
          by_cases hsh : (numR l).length < numV l
          · refine (take_numg A c l f w hd h2 hfn hs hc hx (.inr (.inr hsh)) hm).mono ?_
            rintro r w' ⟨rfl, t⟩
            have eg : takeG A c l f = Gx 2 := by unfold takeG; rw [if_neg (by rw [hx]; simp), if_neg hbig, if_neg h0, if_pos hsh]
            have e : sE f l = 2 := by rw [e0, if_neg h0]; unfold eText; rw [if_neg (by rw [hx]; simp), if_neg (by omega), if_pos hsh]
            rw [eg]
            exact ⟨Gx 2, rfl, rfl, e.symm, (fun h => by rw [e] at h; cases h), t⟩
          · refine (take_text A c l f w hd h1 hfn hs hc hx ⟨hbig, by omega⟩ hm).mono ?_
            rintro r w' ⟨rfl, t⟩
            have eg : takeG A c l f = ⟨⟨1, 0, cutA A c (numK l), c - numK l, (numR l).take (numV l), zeros 32⟩, 0, cutA (cutA A c (numK l)) (c - numK l) (numV l), c - numK l - numV l, (numR l).drop (numV l)⟩ := by unfold takeG; rw [if_neg (by rw [hx]; simp), if_neg hbig, if_neg h0, if_neg hsh]
            have e : sE f l = 0 := by rw [e0, if_neg h0]; unfold eText; rw [if_neg (by rw [hx]; simp), if_neg (by omega), if_neg hsh]
            have hr : (numR l).length ≤ c - numK l := by rw [numR_drop, List.length_drop]; omega
            have s1 : SlN w N (cutA A c (numK l)) ((numR l).map bv) := by rw [numR_drop]; exact sln_cut hsN c _ hc
            rw [eg]
            refine ⟨_, rfl, by simp [zeros], e.symm, fun _ => ⟨⟨?_, ?_, ?_, ?_⟩, ⟨sln_cut s1 _ _ hr, by show ((numR l).drop (numV l)).length ≤ c - numK l - numV l; rw [List.length_drop]; omega, cut_none (cut_none hA), by rw [List.map_take]; exact s1.take _⟩⟩, t⟩
            · unfold sN; rw [if_neg h0]
            · unfold sB; rw [if_pos h1]
            · unfold sD; rw [if_neg h2]
            · unfold sL; rw [if_neg h2, if_neg h0]
    · refine (take_numx A c l f w hd h2 hs hx hm).mono ?_
      rintro r w' ⟨rfl, t⟩
      have e : sE f l = numE l := by
        rw [e0]
        split
        · unfold eNum; rw [if_pos hx]
        · unfold eText; rw [if_pos hx]
      exact ⟨Gx (numE l), rfl, rfl, e.symm, (fun h => by rw [e] at h; exact absurd h hx), t⟩

theorem foldl_set : ∀ (l : List Value) (n : Nat) (acc : Array Value), acc.size = n + l.length → ((l.zipIdx n).foldl (fun cs x => cs.setIfInBounds x.snd x.fst) acc).toList = acc.toList.take n ++ l
  | [], n, acc, h => by
    have h1 : acc.toList.length ≤ n := by simp at h ⊢; omega
    simp [List.take_of_length_le h1]
  | x :: l, n, acc, h => by
    rw [List.zipIdx_cons, List.foldl_cons, foldl_set l (n + 1) _ (by simp at h ⊢; omega), Array.toList_setIfInBounds]
    have hn : n < acc.toList.length := by simp at h ⊢; omega
    have e : (acc.toList.set n x).take (n + 1) = acc.toList.take n ++ [x] := by
      rw [List.take_succ_eq_append_getElem (by simpa using hn)]
      simp [List.take_set_of_le]
    rw [e, List.append_assoc]; rfl
theorem foldl_set0 (l : List Value) (acc : Array Value) (h : acc.size = l.length) : (l.zipIdx.foldl (fun cs x => cs.setIfInBounds x.snd x.fst) acc) = l.toArray := by
  apply Array.ext'
  rw [foldl_set l 0 acc (by omega)]; simp
theorem info_got : (Try.prog.info? 33).map (fun i => (i.zero, i.size, i.bytes)) = some (some (.agg Z37), 37, 104) := by kernel_rfl
set_option maxRecDepth 100000 in
theorem build_got (l : List Value) (hl : l.length = 37) (w : World) : (Instr.buildSlice 25 1 #[(0, .agg l.toArray)]).run Try.prog w = .ok (.slice (some ⟨w.heap.size, 0, none⟩) 1 1) (w.alloc (.cells l.toArray 33)) := by
  obtain ⟨i0, hi, hz0, hz1, hz2⟩ := info_parts info_got
  have hf := foldl_set0 l Z37 (by rw [hl]; rfl)
  refine run_buildSlice w 25 33 1 _ _ i0 (.agg Z37) Try.underlying25 hi hz0 (by rw [hz1]; decide) (by rw [hz1]; decide) ?_
  rw [hz1]
  have e : ((Array.range (1 * 37)).map fun x => (Value.agg Z37).cells[x % (Value.agg Z37).cells.size]!) = Z37 := by kernel_rfl
  rw [e]
  have hcs : (Value.agg l.toArray).cells = l.toArray := rfl
  simp [Instr.fill, hcs, hl]
  exact ⟨Nat.le_of_eq rfl, hf⟩
theorem wpList_build_got {ops : Array Oper} {rest : List Oper} {o : Oper} {a : Act} {w : World} {Q : Exit → Act → World → Prop} (hgd : o.guard = none) (l : List Value) (hl : l.length = 37) (C : Array Value) (hC : C = l.toArray) (parts : Array (Nat × Operand)) (ho : o.op = .buildSlice 25 1 parts)
    (hp' : (parts.toList.map fun p => (p.1, a.eval p.2)) = [(0, .agg C)]) (h : wpList Try.prog ops Q rest (a.put o.dst (.slice (some ⟨w.heap.size, 0, none⟩) 1 1)) (w.alloc (.cells C 33))) : wpList Try.prog ops Q (o :: rest) a w := by
  subst hC
  have hp : (parts.map fun (i, x) => (i, a.eval x)) = #[(0, .agg l.toArray)] := by
    apply Array.ext'
    rw [Array.toList_map]
    exact hp'
  refine wpList_plain hgd fun K hK => ?_
  unfold Oper.wp execOp
  simp only [ho, hp, Sem.run_bind, build_got l hl w, Result.andThen_ok]
  exact hK _ _ h
theorem own_emptyR (w : World) (B : Nat) (e : TypeId) (hB : B ≤ w.heap.size) : (w.alloc (.cells #[] e)).ownsRow B e 1 (.slice (some ⟨w.heap.size, 0, none⟩) 0 0) 0 [] :=
  ⟨rfl, .inr ⟨w.heap.size, 0, #[], rfl, hB, heap_alloc_new w _, Nat.le_refl _, by unfold maxLen; omega, rfl, rfl⟩⟩
theorem wpList_emptyR {ops : Array Oper} {rest : List Oper} {o : Oper} {a : Act} {w : World} {Q : Exit → Act → World → Prop} (hgd : o.guard = none) (E : TypeId)
    (hrun : ∀ w, (execOp a.eval o).run Try.prog w = .ok (.value (.slice (some ⟨w.heap.size, 0, none⟩) 0 0)) (w.alloc (.cells #[] E)))
    (h : ∀ v1 w1, w1.ownsRow w.heap.size E 1 v1 0 [] → w1 = w.alloc (.cells #[] E) → wpList Try.prog ops Q rest (a.put o.dst v1) w1) : wpList Try.prog ops Q (o :: rest) a w := by
  refine wpList_plain hgd fun K hK => ?_
  unfold Oper.wp
  rw [hrun w]
  exact hK _ _ (h _ _ (own_emptyR w _ E (Nat.le_refl _)) rfl)
def gsC (gs : List Gt) : List Value := gs.flatMap Gt.cells
theorem gsC_len (gs : List Gt) (h : ∀ g ∈ gs, g.f.d.length = 32) : (gsC gs).length = gs.length * 37 := by
  induction gs with
  | nil => rfl
  | cons g l ih =>
    have h1 := g.len (h g (by simp))
    have h2 := ih (fun x hx => h x (by simp [hx]))
    unfold gsC at *
    rw [List.flatMap_cons, List.length_append, h1, h2, List.length_cons]; omega
theorem gsC_at : ∀ (gs : List Gt) (h : ∀ g ∈ gs, g.f.d.length = 32) (i : Nat) (g : Gt), gs[i]? = some g → ∀ j, j < 37 → (gsC gs)[i * 37 + j]? = g.cells[j]?
  | [], _, i, d, hi, _, _ => by simp at hi
  | x :: l, h, 0, d, hi, j, hj => by
    obtain rfl : x = d := by simpa using hi
    have hx := x.len (h x (by simp))
    unfold gsC
    rw [List.flatMap_cons, List.getElem?_append_left (by omega)]
    congr 1; omega
  | x :: l, h, i + 1, d, hi, j, hj => by
    have hx := x.len (h x (by simp))
    have := gsC_at l (fun y hy => h y (by simp [hy])) i d (by simpa using hi) j hj
    unfold gsC at *
    rw [List.flatMap_cons, List.getElem?_append_right (by omega), hx, show (i + 1) * 37 + j - 37 = i * 37 + j by omega]
    exact this
theorem gsC_one (gs : List Gt) : ∀ u ∈ gsC gs, u.oneCell' = true := by
  intro u hu
  unfold gsC at hu
  obtain ⟨g, _, hg⟩ := List.mem_flatMap.1 hu
  have := Gt.one g
  rw [Array.all_eq_true_iff_forall_mem] at this
  exact this u (by simpa using hg)
/-- What the law's loop has gathered. -/
structure LInv (fs : List Fd) (bs : List B8) (B1 : Nat) (vw : Value) (gs : List Gt) (wr : World) : Prop where
  own : wr.ownsRow B1 33 37 vw gs.length (gsC gs)
  ok : ∀ j f g, fs[j]? = some f → gs[j]? = some g → GOk g f.kd (restJ fs bs j) ∧ sE f.kd (restJ fs bs j) = 0
  tx : ∀ g ∈ gs, SlN wr (fun i => B1 ≤ i) g.f.A (g.f.b.map bv) ∧ g.f.b.length ≤ 200 ∧ g.f.d.length = 32
theorem LInv.turn {fs : List Fd} {bs : List B8} {B1 : Nat} {vw : Value} {gs : List Gt} {w w' : World} (h : LInv fs bs B1 vw gs w) (t : Turn (fun _ => False) w w') : LInv fs bs B1 vw gs w' := by
  refine ⟨⟨h.own.1, ?_⟩, h.ok, fun g hg => ⟨(h.tx g hg).1.turn t (fun _ h => h.elim) (fun _ _ h => h), (h.tx g hg).2⟩⟩
  rcases h.own.2 with h1 | ⟨g, cap, cur, e, hB, hg, r⟩
  · exact .inl h1
  · exact .inr ⟨g, cap, cur, e, hB, t.heap hg (fun h => h), r⟩
theorem LInv.want {fs : List Fd} {bs : List B8} {B1 : Nat} {vw : Value} {gs : List Gt} {w : World} (h : LInv fs bs B1 vw gs w) : ∃ Aw cw, vw = .slice Aw gs.length cw ∧ gs.length ≤ cw ∧ ∀ (B : Nat) w', Turn (fun _ => False) w w' → w.heap.size ≤ B → B1 ≤ B → WantAt w' B Aw gs := by
  have key : ∀ (B : Nat) w', Turn (fun _ => False) w w' → B1 ≤ B → ∀ g ∈ gs, Sl w' B g.f.A (g.f.b.map bv) ∧ g.f.b.length ≤ 1000 ∧ g.f.d.length = 32 := fun B w' t hB g hg => by
    obtain ⟨h1, h2, h3⟩ := h.tx g hg
    refine ⟨fun j u hu => ?_, by omega, h3⟩
    obtain ⟨ad, e, hb, hc⟩ := h1 j u hu
    exact ⟨ad, e, by omega, t.cell hc (fun h => h)⟩
  rcases h.own.2 with ⟨rfl, hn⟩ | ⟨g, cap, cur, rfl, hB, hg, hc, _⟩
  · refine ⟨none, 0, by rw [hn], by omega, fun B w' t _ hB i g hi => ?_⟩
    have := (List.getElem?_eq_some_iff.1 hi).1
    omega
  · refine ⟨_, cap, rfl, hc, fun B w' t hwB hB' i x hi => ?_⟩
    obtain ⟨k1, k2, k3⟩ := key B w' t hB' x (List.mem_of_getElem? hi)
    refine ⟨k1, k2, k3, g, 0, rfl, Nat.lt_of_lt_of_le (lt_of_block hg) hwB, fun j v hj => ?_⟩
    have hj37 : j < 37 := by have := (List.getElem?_eq_some_iff.1 hj).1; rw [x.len k3] at this; exact this
    have h2 := h.own.cells (g := g) rfl (i * 37 + j) v (by rw [gsC_at gs (fun y hy => (h.tx y hy).2.2) i x hi j hj37]; exact hj)
    have e4 : (⟨g, 0, none⟩ : Addr).add (i * 37 + j) = ⟨g, 0 + i * 37 + j, none⟩ := by unfold Addr.add; split <;> simp_all
    rw [e4] at h2
    exact t.cell h2 (fun h => h)
theorem restJ_le (fs : List Fd) (bs : List B8) : ∀ j, (restJ fs bs j).length ≤ bs.length
  | 0 => Nat.le_refl _
  | j + 1 => by
    have ih := restJ_le fs bs j
    cases h : fs[j]? with
    | none =>
      have e : restJ fs bs (j + 1) = restJ fs bs j := by
        show (match fs[j]? with | some f => sL f.kd (restJ fs bs j) | none => restJ fs bs j) = _
        rw [h]
      rw [e]; exact ih
    | some f => rw [restJ_next h]; have := sL_le f.kd (restJ fs bs j); omega
end Go.Proofs.Ytciohmlobknhlaa
