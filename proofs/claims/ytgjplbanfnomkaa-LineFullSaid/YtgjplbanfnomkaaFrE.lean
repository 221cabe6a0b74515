/- The document's 'Take', whatever the field: what it answers, plainly. -/
import Derived.Test.YtgjplbanfnomkaaFrD
set_option linter.unusedVariables false
namespace Go.Proofs.Ytgjplbanfnomkaa
open Go.RowKit
/- What a field asks of bytes: an error, what is left, and what was read. -/
def sE (f : Fd) (l : List B8) : Nat := if f.k = 2 then (if l.length < 32 then 2 else 0) else if f.k = 0 then eNum f.n l else eText (f.n : Int) l
def sL (f : Fd) (l : List B8) : List B8 := if f.k = 2 then l.drop 32 else if f.k = 0 then numR l else (numR l).drop (numV l)
def sN (f : Fd) (l : List B8) : Nat := if f.k = 0 then numV l else 0
def sB (f : Fd) (l : List B8) : List B8 := if f.k = 1 then (numR l).take (numV l) else []
def sD (f : Fd) (l : List B8) : List B8 := if f.k = 2 then l.take 32 else zeros 32
set_option maxRecDepth 100000 in
theorem numR_drop (l : List B8) : numR l = l.drop (numK l) := by
  cases l with
  | nil => rfl
  | cons k r => simp [numR, numK, Nat.add_comm 1]
set_option maxRecDepth 100000 in
theorem numR_le (l : List B8) : (numR l).length ≤ l.length := by rw [numR_drop, List.length_drop]; omega
set_option maxRecDepth 100000 in
theorem sL_le (f : Fd) (l : List B8) : (sL f l).length ≤ l.length := by
  unfold sL
  split
  · simp
  · split
    · exact numR_le l
    · rw [List.length_drop]; have := numR_le l; omega
set_option maxRecDepth 100000 in
theorem sB_le (f : Fd) (l : List B8) : (sB f l).length ≤ l.length := by
  unfold sB
  split
  · rw [List.length_take]; have := numR_le l; omega
  · simp
set_option maxRecDepth 100000 in
theorem sE_le (f : Fd) (l : List B8) : sE f l ≤ 5 := by
  have h : numE l ≤ 5 := by
    rcases numE_cases l with ⟨_, e⟩ | ⟨k, r, _, (⟨_, e⟩ | ⟨_, _, e⟩ | ⟨_, _, _, _, e⟩ | ⟨_, _, _, e⟩)⟩ <;> omega
  unfold sE eNum eText
  repeat' split
  all_goals omega
/-- What was read well. -/
structure GOk (g : Gt) (f : Fd) (l : List B8) : Prop where
  n : g.f.n = sN f l
  b : g.f.b = sB f l
  d : g.f.d = sD f l
  l : g.l = sL f l
/-- What was read, and where it lies. -/
structure GAt (w : World) (N : Nat → Prop) (g : Gt) : Prop where
  s : SlN w N g.A (g.l.map bv)
  c : g.l.length ≤ g.c
  a : g.A = none → g.c = 0
  t : SlN w N g.f.A (g.f.b.map bv)
set_option maxRecDepth 100000 in
theorem cut_none {A : Option Addr} {c n : Nat} (hA : A = none → c = 0) : cutA A c n = none → c - n = 0 := by
  unfold cutA
  split
  · intro h; have := hA h; omega
  · intro h
    cases A with
    | none => have := hA rfl; omega
    | some a => cases h
set_option maxRecDepth 100000 in
theorem sln_cut {w : World} {N : Nat → Prop} {A : Option Addr} {l : List B8} (h : SlN w N A (l.map bv)) (c n : Nat) (hc : l.length ≤ c) : SlN w N (cutA A c n) ((l.drop n).map bv) := by
  have := h.cut c n (by rw [List.length_map]; exact hc)
  rw [List.map_drop]; exact this
set_option maxRecDepth 100000 in
theorem take_any (A : Option Addr) (c n : Nat) (l : List B8) (hn : l.length = n) (f : Fd) (w : World) (hd : f.d.length = 32) (hk : f.k = 0 ∨ f.k = 1 ∨ f.k = 2) (hfn : f.n < 18446744073709551616) (hs : SlN w (fun _ => False) A (l.map bv)) (hA : A = none → c = 0) (hc : n ≤ c) (hm : n ≤ 1099511627776) :
    Calls Try.prog 58 #[.slice A n c, .agg f.cells.toArray] w fun r w' => ∃ g : Gt, r = .returned (.agg g.cells.toArray) ∧ g.f.d.length = 32 ∧ g.e = sE f l ∧ (sE f l = 0 → GOk g f l ∧ GAt w (fun _ => False) g) ∧ Turn (fun _ => False) w w' := by
  subst hn
  by_cases h2 : f.k = 2
  · by_cases h32 : l.length < 32
    · refine (take_short A c l f w hd h2 h32).mono ?_
      rintro r w' ⟨rfl, t⟩
      have e : sE f l = 2 := by unfold sE; rw [if_pos h2, if_pos h32]
      exact ⟨Gx 2, rfl, rfl, e.symm, (fun h => by rw [e] at h; cases h), t⟩
    · refine (take_id A c l f w hd h2 hs hc (by omega) hm).mono ?_
      rintro r w' ⟨rfl, t⟩
      have e : sE f l = 0 := by unfold sE; rw [if_pos h2, if_neg h32]
      refine ⟨_, rfl, by simp; omega, e.symm, fun _ => ⟨⟨?_, ?_, ?_, ?_⟩, ⟨sln_cut hs c 32 hc, by simp; omega, cut_none hA, fun j u h => by simp at h⟩⟩, t⟩
      · unfold sN; rw [if_neg (by rw [h2]; decide)]
      · unfold sB; rw [if_neg (by rw [h2]; decide)]
      · unfold sD; rw [if_pos h2]
      · unfold sL; rw [if_pos h2]
  · have e0 : sE f l = if f.k = 0 then eNum f.n l else eText (f.n : Int) l := by unfold sE; rw [if_neg h2]
    by_cases hx : numE l = 0
    · by_cases hbig : f.n < numV l
      · refine (take_numg A c l f w hd h2 hfn hs hc hx (.inl hbig) hm).mono ?_
        rintro r w' ⟨rfl, t⟩
        have eg : takeG A c l f = Gx 5 := by unfold takeG; rw [if_neg (by rw [hx]; simp), if_pos hbig]
        have e : sE f l = 5 := by
          rw [e0]
          split
          · unfold eNum; rw [if_neg (by rw [hx]; simp), if_pos hbig]
          · unfold eText; rw [if_neg (by rw [hx]; simp), if_pos (.inr (by omega))]
        rw [eg]
        exact ⟨Gx 5, rfl, rfl, e.symm, (fun h => by rw [e] at h; cases h), t⟩
      · by_cases h0 : f.k = 0
        · refine (take_numg A c l f w hd h2 hfn hs hc hx (.inr (.inl h0)) hm).mono ?_
          rintro r w' ⟨rfl, t⟩
          have eg : takeG A c l f = ⟨⟨0, numV l, none, 0, [], zeros 32⟩, 0, cutA A c (numK l), c - numK l, numR l⟩ := by unfold takeG; rw [if_neg (by rw [hx]; simp), if_neg hbig, if_pos h0]
          have e : sE f l = 0 := by rw [e0, if_pos h0]; unfold eNum; rw [if_neg (by rw [hx]; simp), if_neg hbig]
          rw [eg]
          refine ⟨_, rfl, by simp [zeros], e.symm, fun _ => ⟨⟨?_, ?_, ?_, ?_⟩, ⟨by rw [numR_drop]; exact sln_cut hs c _ hc, by show (numR l).length ≤ c - numK l; rw [numR_drop, List.length_drop]; omega, cut_none hA, fun j u h => by simp at h⟩⟩, t⟩
          · unfold sN; rw [if_pos h0]
          · unfold sB; rw [if_neg (by rw [h0]; decide)]
          · unfold sD; rw [if_neg h2]
          · unfold sL; rw [if_neg h2, if_pos h0]
        · have h1 : f.k = 1 := by omega
          by_cases hsh : (numR l).length < numV l
          · refine (take_numg A c l f w hd h2 hfn hs hc hx (.inr (.inr hsh)) hm).mono ?_
            rintro r w' ⟨rfl, t⟩
            have eg : takeG A c l f = Gx 2 := by unfold takeG; rw [if_neg (by rw [hx]; simp), if_neg hbig, if_neg h0, if_pos hsh]
            have e : sE f l = 2 := by rw [e0, if_neg h0]; unfold eText; rw [if_neg (by rw [hx]; simp), if_neg (by omega), if_pos hsh]
            rw [eg]
            exact ⟨Gx 2, rfl, rfl, e.symm, (fun h => by rw [e] at h; cases h), t⟩
          · refine (take_text A c l f w hd h1 hfn hs hc hx ⟨hbig, by omega⟩ hm).mono ?_
            rintro r w' ⟨rfl, t⟩
            have eg : takeG A c l f = ⟨⟨1, 0, cutA A c (numK l), c - numK l, (numR l).take (numV l), zeros 32⟩, 0, cutA (cutA A c (numK l)) (c - numK l) (numV l), c - numK l - numV l, (numR l).drop (numV l)⟩ := by unfold takeG; rw [if_neg (by rw [hx]; simp), if_neg hbig, if_neg h0, if_neg hsh]
            have e : sE f l = 0 := by rw [e0, if_neg h0]; unfold eText; rw [if_neg (by rw [hx]; simp), if_neg (by omega), if_neg hsh]
            have hr : (numR l).length ≤ c - numK l := by rw [numR_drop, List.length_drop]; omega
            have s1 : SlN w (fun _ => False) (cutA A c (numK l)) ((numR l).map bv) := by rw [numR_drop]; exact sln_cut hs c _ hc
            rw [eg]
            refine ⟨_, rfl, by simp [zeros], e.symm, fun _ => ⟨⟨?_, ?_, ?_, ?_⟩, ⟨sln_cut s1 _ _ hr, by show ((numR l).drop (numV l)).length ≤ c - numK l - numV l; rw [List.length_drop]; omega, cut_none (cut_none hA), by rw [List.map_take]; exact s1.take _⟩⟩, t⟩
            · unfold sN; rw [if_neg h0]
            · unfold sB; rw [if_pos h1]
            · unfold sD; rw [if_neg h2]
            · unfold sL; rw [if_neg h2, if_neg h0]
    · refine (take_numx A c l f w hd h2 hs hx hm).mono ?_
      rintro r w' ⟨rfl, t⟩
      have e : sE f l = numE l := by
        rw [e0]
        split
        · unfold eNum; rw [if_pos hx]
        · unfold eText; rw [if_pos hx]
      exact ⟨Gx (numE l), rfl, rfl, e.symm, (fun h => by rw [e] at h; exact absurd h hx), t⟩
end Go.Proofs.Ytgjplbanfnomkaa
