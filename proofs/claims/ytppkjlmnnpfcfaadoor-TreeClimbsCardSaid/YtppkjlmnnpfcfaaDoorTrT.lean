/- Lists of lists copied, added to and written into. -/
import Derived.Test.YtppkjlmnnpfcfaaDoorTrS
set_option linter.unusedVariables false
namespace Go.Proofs.YtppkjlmnnpfcfaaDoor
open Go.RowKit
/-- Slices, as values, of lists of bytes. -/
def VL (w : World) (vs : List Value) (ls : List (List B8)) : Prop := vs.length = ls.length ∧ ∀ (i : Nat) (v : Value) (xs : List B8), vs[i]? = some v → ls[i]? = some xs → ∃ Ai ci, v = .slice Ai xs.length ci ∧ xs.length ≤ ci ∧ (Ai = none → ci = 0) ∧ Bts w Ai xs
theorem VL.below {w w' : World} {vs : List Value} {ls : List (List B8)} (h : VL w vs ls) (hb : Below w.heap.size w w') : VL w' vs ls := ⟨h.1, fun i v xs h1 h2 => by
  obtain ⟨Ai, ci, e, h3, h4, h5⟩ := h.2 i v xs h1 h2
  exact ⟨Ai, ci, e, h3, h4, h5.below hb⟩⟩
theorem VL.append {w : World} {vs us : List Value} {ls ms : List (List B8)} (h : VL w vs ls) (k : VL w us ms) : VL w (vs ++ us) (ls ++ ms) := ⟨by rw [List.length_append, List.length_append, h.1, k.1], fun i v xs h1 h2 => by
  by_cases hi : i < vs.length
  · rw [List.getElem?_append_left hi] at h1
    rw [List.getElem?_append_left (by have := h.1; omega)] at h2
    exact h.2 i v xs h1 h2
  · rw [List.getElem?_append_right (by omega)] at h1
    rw [List.getElem?_append_right (by have := h.1; omega), ← h.1] at h2
    exact k.2 _ v xs h1 h2⟩
theorem VL.one {w : World} (A : Option Addr) (c : Nat) (b : List B8) (hb : Bts w A b) (hc : b.length ≤ c) (hA : A = none → c = 0) : VL w [.slice A b.length c] [b] := ⟨rfl, fun i v xs h1 h2 => by
  match i, h1, h2 with
  | 0, h1, h2 =>
    obtain rfl : b = xs := by simpa using h2
    exact ⟨A, c, by simpa using h1.symm, hc, hA, hb⟩⟩
theorem VL.set {w : World} {vs : List Value} {ls : List (List B8)} (h : VL w vs ls) (k : Nat) (A : Option Addr) (c : Nat) (b : List B8) (hb : Bts w A b) (hc : b.length ≤ c) (hA : A = none → c = 0) : VL w (vs.set k (.slice A b.length c)) (ls.set k b) := ⟨by simp [h.1], fun i v xs h1 h2 => by
  rw [List.getElem?_set] at h1 h2
  by_cases hk : k = i
  · rw [if_pos hk] at h1 h2
    split at h1
    · split at h2
      · injection h1 with h1; injection h2 with h2; subst h1; subst h2
        exact ⟨A, c, rfl, hc, hA, hb⟩
      · cases h2
    · cases h1
  · rw [if_neg hk] at h1 h2
    exact h.2 i v xs h1 h2⟩
theorem VL.one_cell {w : World} {vs : List Value} {ls : List (List B8)} (h : VL w vs ls) : ∀ u ∈ vs, u.oneCell' = true := fun u hu => by
  obtain ⟨i, hi, e⟩ := List.mem_iff_getElem.1 hu
  have hl : i < ls.length := by rw [← h.1]; exact hi
  obtain ⟨Ai, ci, e2, -⟩ := h.2 i u ls[i] (by rw [List.getElem?_eq_getElem hi, e]) (List.getElem?_eq_getElem hl)
  rw [e2]; rfl
theorem vl_of {w : World} {A : Option Addr} {ls : List (List B8)} (h : LstN w A ls) : ∃ vs, VL w vs ls ∧ ∀ (j : Nat) (u : Value), vs[j]? = some u → ∃ ad, A = some ad ∧ w.cell? (ad.add j) = some u := by
  have each : ∀ i, i < ls.length → ∃ v : Value, (∃ ad, A = some ad ∧ w.cell? (ad.add i) = some v) ∧ ∀ xs, ls[i]? = some xs → ∃ Ai ci, v = .slice Ai xs.length ci ∧ xs.length ≤ ci ∧ (Ai = none → ci = 0) ∧ Bts w Ai xs := fun i hi => by
    obtain ⟨ad, Ai, ci, e, h1, h2, h3, h4⟩ := h i ls[i] (List.getElem?_eq_getElem hi)
    refine ⟨_, ⟨ad, e, h1⟩, fun xs hx => ?_⟩
    rw [List.getElem?_eq_getElem hi] at hx
    injection hx with hx; subst hx
    exact ⟨Ai, ci, rfl, h2, h3, h4⟩
  obtain ⟨f, hf⟩ : ∃ f : Nat → Value, ∀ i, i < ls.length → (∃ ad, A = some ad ∧ w.cell? (ad.add i) = some (f i)) ∧ ∀ xs, ls[i]? = some xs → ∃ Ai ci, f i = .slice Ai xs.length ci ∧ xs.length ≤ ci ∧ (Ai = none → ci = 0) ∧ Bts w Ai xs := by
    refine ⟨fun i => if h : i < ls.length then (each i h).choose else undef, fun i hi => ?_⟩
    have := (each i hi).choose_spec
    have e : (fun i => if h : i < ls.length then (each i h).choose else undef) i = (each i hi).choose := dif_pos hi
    rw [e]
    exact this
  refine ⟨(List.range ls.length).map f, ⟨by simp, fun i v xs h1 h2 => ?_⟩, fun j u hu => ?_⟩
  · have hi := (List.getElem?_eq_some_iff.1 h2).1
    rw [List.getElem?_map, List.getElem?_range hi] at h1
    injection h1 with h1
    rw [← h1]; exact (hf i hi).2 xs h2
  · have hi : j < ls.length := by have := (List.getElem?_eq_some_iff.1 hu).1; simpa using this
    rw [List.getElem?_map, List.getElem?_range hi] at hu
    injection hu with hu
    rw [← hu]; exact (hf j hi).1
theorem lstn_of_own {w : World} {B n g c : Nat} {vs : List Value} {ls : List (List B8)} (ho : w.ownsRow B 32 1 (.slice (some ⟨g, 0, none⟩) n c) n vs) (h : VL w vs ls) : LstN w (some ⟨g, 0, none⟩) ls := fun i xs hi => by
  have hl : i < vs.length := by rw [h.1]; exact (List.getElem?_eq_some_iff.1 hi).1
  obtain ⟨Ai, ci, e, h1, h2, h3⟩ := h.2 i vs[i] xs (List.getElem?_eq_getElem hl) hi
  exact ⟨_, Ai, ci, rfl, by rw [ho.cells (g := g) rfl i vs[i] (List.getElem?_eq_getElem hl), e], h1, h2, h3⟩
theorem info_sl : (Tryd.prog.info? 32).map (fun i => (i.zero, i.size, i.bytes)) = some (some (.slice none 0 0), 1, 24) := by kernel_rfl
/-- What the last line asks of the roots. -/
theorem set_same {ls : List (List B8)} {k : Nat} {b : List B8} (h : ls[k]? = some b) : ls.set k b = ls := by
  apply List.ext_getElem?
  intro i
  rw [List.getElem?_set]
  split
  · rename_i hk
    subst hk
    have := (List.getElem?_eq_some_iff.1 h).1
    rw [if_pos this, h]
  · rfl
end Go.Proofs.YtppkjlmnnpfcfaaDoor
