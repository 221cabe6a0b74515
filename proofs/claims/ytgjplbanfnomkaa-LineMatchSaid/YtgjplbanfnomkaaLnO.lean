/- Joining, in plain words. -/
import Derived.Test.YtgjplbanfnomkaaLnMX
set_option linter.unusedVariables false
set_option linter.unusedSimpArgs false
namespace Go.Proofs.Ytgjplbanfnomkaa
open Go.RowKit
set_option maxRecDepth 100000
theorem Ln.at_neg {x : Ln} (h : x.Ok) {i : Int} : (0 ≤ x.at i ↔ x.b ≤ i ∧ i ≤ x.last) ∧ (¬ 0 ≤ x.at i → x.at i = -1) := by
  have hl : x.b ≤ x.last := by unfold Ln.last; omega
  by_cases hb : i = x.b
  · subst hb; rw [Ln.at_base]; exact ⟨⟨fun _ => ⟨Int.le_refl _, hl⟩, fun _ => h.t0⟩, fun hn => absurd h.t0 hn⟩
  · by_cases hi : x.b < i ∧ i ≤ x.last
    · obtain ⟨h1, h2⟩ := Ln.at_in h hi
      rw [h1]; exact ⟨⟨fun _ => ⟨by omega, hi.2⟩, fun _ => h2⟩, fun hn => absurd h2 hn⟩
    · rw [Ln.at_no hb hi]; exact ⟨⟨fun hn => by omega, fun hn => by omega⟩, fun _ => rfl⟩
theorem Ln.first_succ {x : Ln} {prev : Int} {its : List Itm} {k : Nat} {p : Itm} (hk : its[k]? = some p) (h0 : x.first prev its k = none) :
    x.first prev its (k + 1) = if x.b < prev + 1 + k ∧ x.at (prev + 1 + k) ≠ p.t then some k else none := by
  rw [Ln.first, h0, hk]; rfl
theorem Ln.first_keep {x : Ln} {prev : Int} {its : List Itm} {k j : Nat} (h : x.first prev its k = some j) : ∀ d, x.first prev its (k + d) = some j
  | 0 => h
  | d + 1 => by rw [← Nat.add_assoc, Ln.first, Ln.first_keep h d]
theorem Ln.first_le {x : Ln} {prev : Int} {its : List Itm} (h : x.Ok) (hp : prev ≤ x.last) (hits : ∀ p ∈ its, 0 ≤ p.t) : ∀ k, k ≤ its.length → x.first prev its k = none → prev + k ≤ x.last
  | 0, _, _ => by simpa using hp
  | k + 1, hk, h0 => by
    have hlt : k < its.length := by omega
    have hg := List.getElem?_eq_getElem hlt
    have hkn : x.first prev its k = none := by
      cases e : x.first prev its k with
      | none => rfl
      | some j => have := Ln.first_keep e 1; rw [this] at h0; cases h0
    rw [Ln.first_succ hg hkn] at h0
    have hc : ¬ (x.b < prev + 1 + k ∧ x.at (prev + 1 + k) ≠ its[k].t) := fun hc => by rw [if_pos hc] at h0; cases h0
    have hlb : x.b ≤ x.last := by unfold Ln.last; omega
    by_cases hb : x.b < prev + 1 + k
    · have e : x.at (prev + 1 + k) = its[k].t := by
        by_cases e : x.at (prev + 1 + k) = its[k].t
        · exact e
        · exact absurd ⟨hb, e⟩ hc
      have h9 := (Ln.at_neg h (i := prev + 1 + k)).1.1 (by rw [e]; exact hits _ (List.getElem_mem hlt))
      push_cast; omega
    · push_cast; omega
theorem Ln.first_found {x : Ln} {prev : Int} {its : List Itm} {k : Nat} {p : Itm} (hk : its[k]? = some p) (h0 : x.first prev its k = none) (h1 : x.b < prev + 1 + k) (h2 : x.at (prev + 1 + k) ≠ p.t) : x.first prev its its.length = some k := by
  have hlt := (List.getElem?_eq_some_iff.1 hk).1
  have h3 : x.first prev its (k + 1) = some k := by rw [Ln.first_succ hk h0, if_pos ⟨h1, h2⟩]
  have := Ln.first_keep h3 (its.length - (k + 1))
  rwa [show k + 1 + (its.length - (k + 1)) = its.length by omega] at this
def Ln.roomB (x : Ln) (i : Int) : Bool := decide (i ≤ 1099511627776 ∧ i ≤ x.b + 4096)
theorem Ln.meet_iff {x : Ln} (h : x.Ok) (p t : Int) : x.meetB p t = true ↔ ¬ (p < 0 ∨ x.last < p ∨ (x.b ≤ p ∧ x.at p ≠ t)) := by
  have hl : x.b ≤ x.last := by unfold Ln.last; omega
  have hb0 := h.b0
  unfold Ln.meetB
  split
  · rw [decide_eq_true_eq]; omega
  · rename_i hb
    obtain ⟨h1, h2⟩ := Ln.at_neg h (i := p)
    unfold Ln.th Ln.tm
    rw [Bool.and_eq_true, decide_eq_true_eq, decide_eq_true_eq]
    by_cases h0 : 0 ≤ x.at p
    · have h3 := h1.1 h0
      rw [if_pos h0]
      constructor
      · rintro ⟨-, e⟩ (h | h | h) <;> first | omega | exact h.2 e
      · intro hn
        refine ⟨h0, ?_⟩
        by_cases e : x.at p = t
        · exact e
        · exact absurd (.inr (.inr ⟨by omega, e⟩)) hn
    · have h3 : ¬ (x.b ≤ p ∧ p ≤ x.last) := fun h => h0 (h1.2 h)
      constructor
      · rintro ⟨h, -⟩; exact absurd h h0
      · intro hn; exact absurd (.inr (.inl (by omega))) hn
theorem any_bad (its : List Itm) : its.any badI = !(its.all okIt) := by
  induction its with
  | nil => rfl
  | cons p l ih => rw [List.any_cons, List.all_cons, ih]; unfold badI; cases okIt p <;> cases l.all okIt <;> rfl
section
variable {x : Ln} {prev term : Int} {its : List Itm}
theorem Ln.join_no1 (h : x.Ok) (hm : x.meetB prev term = false) : x.join prev term its = (x, 0, false) := by
  unfold Ln.join
  rw [if_pos]
  by_cases hc : prev < 0 ∨ x.last < prev ∨ (x.b ≤ prev ∧ x.at prev ≠ term)
  · exact hc
  · rw [(Ln.meet_iff h prev term).2 hc] at hm; cases hm
theorem Ln.join_meet (h : x.Ok) (hm : x.meetB prev term = true) : x.join prev term its = if its.all okIt = false then (x, 0, false)
    else match x.first prev its its.length with
    | none => (x, 0, true)
    | some k =>
      if x.fits ((x.l.take (prev + k - x.b).toNat ++ its.drop k).length) = true then (⟨x.b, x.t, x.l.take (prev + k - x.b).toNat ++ its.drop k⟩, prev + 1 + k, true)
      else (x, 0, false) := by
  unfold Ln.join
  rw [if_neg ((Ln.meet_iff h prev term).1 hm)]
  rfl
theorem Ln.join_no2 (h : x.Ok) (hm : x.meetB prev term = true) (hb : its.any badI = true) : x.join prev term its = (x, 0, false) := by
  rw [Ln.join_meet h hm, if_pos]
  rw [any_bad] at hb; simpa using hb
theorem ok_its (hb : its.any badI = false) : its.all okIt = true ∧ ∀ p ∈ its, okIt p = true := by
  rw [any_bad] at hb
  have h : its.all okIt = true := by simpa using hb
  exact ⟨h, List.all_eq_true.1 h⟩
theorem Ln.join_bounds (h : x.Ok) (hm : x.meetB prev term = true) : 0 ≤ prev ∧ prev ≤ x.last := by
  have := (Ln.meet_iff h prev term).1 hm
  omega
theorem Ln.join_none (h : x.Ok) (hm : x.meetB prev term = true) (hb : its.any badI = false) (hf : x.first prev its its.length = none) : x.join prev term its = (x, 0, true) ∧ x.roomB (prev + its.length) = true := by
  obtain ⟨h1, h2⟩ := ok_its hb
  obtain ⟨h3, h4⟩ := Ln.join_bounds h hm
  refine ⟨by rw [Ln.join_meet h hm, if_neg (by rw [h1]; decide), hf], ?_⟩
  have := Ln.first_le h h4 (fun p hp => (okIt_parts (h2 p hp)).1) its.length (Nat.le_refl _) hf
  have h5 := h.n
  have h6 := h.m
  unfold Ln.roomB
  rw [decide_eq_true_eq]
  unfold Ln.last at this
  omega
theorem Ln.some_parts (h : x.Ok) (hm : x.meetB prev term = true) (hb : its.any badI = false) {k : Nat} {p : Itm} (hk : its[k]? = some p) (h0 : x.first prev its k = none) (h1 : x.b < prev + 1 + k) :
    ∃ i : Nat, prev + k - x.b = (i : Int) ∧ i ≤ x.l.length ∧ (prev + 1 + (k : Int)) - x.b - 1 = (i : Int) ∧ prev + 1 + k ≤ x.last + 1 := by
  obtain ⟨h1', h2⟩ := ok_its hb
  obtain ⟨h3, h4⟩ := Ln.join_bounds h hm
  have hlt := (List.getElem?_eq_some_iff.1 hk).1
  have := Ln.first_le h h4 (fun p hp => (okIt_parts (h2 p hp)).1) k (by omega) h0
  unfold Ln.last at this ⊢
  exact ⟨(prev + k - x.b).toNat, by omega, by omega, by omega, by omega⟩
theorem Ln.join_some (h : x.Ok) (hm : x.meetB prev term = true) (hb : its.any badI = false) (hr : x.roomB (prev + its.length) = true) {k i : Nat} {p : Itm} (hk : its[k]? = some p) (h0 : x.first prev its k = none) (h1 : x.b < prev + 1 + k) (h2 : x.at (prev + 1 + k) ≠ p.t) (hi : prev + k - x.b = (i : Int)) (hil : i ≤ x.l.length) :
    x.join prev term its = (⟨x.b, x.t, x.l.take i ++ its.drop k⟩, prev + 1 + k, true) ∧ (Ln.mk x.b x.t (x.l.take i ++ its.drop k)).Ok := by
  obtain ⟨h3, h4⟩ := ok_its hb
  have hlt := (List.getElem?_eq_some_iff.1 hk).1
  have hlen : (x.l.take i ++ its.drop k).length = i + (its.length - k) := by rw [List.length_append, List.length_take, List.length_drop]; omega
  unfold Ln.roomB at hr
  rw [decide_eq_true_eq] at hr
  refine ⟨?_, ⟨h.b0, h.b1, h.t0, h.t1, fun q hq => ?_, by show (x.l.take i ++ its.drop k).length ≤ 4096; rw [hlen]; omega, by show x.b + ((x.l.take i ++ its.drop k).length : Int) ≤ _; rw [hlen]; omega⟩⟩
  · rw [Ln.join_meet h hm, if_neg (by rw [h3]; decide), Ln.first_found hk h0 h1 h2]
    dsimp only
    rw [hi, Int.toNat_natCast, if_pos]
    rw [hlen]
    unfold Ln.fits MostL
    simp only [Bool.and_eq_true, decide_eq_true_eq]
    omega
  · have hq : q ∈ x.l.take i ++ its.drop k := hq
    rcases List.mem_append.1 hq with hq | hq
    · exact h.it q (List.mem_of_mem_take hq)
    · exact h4 q (List.mem_of_mem_drop hq)
theorem Ln.join_no3 (h : x.Ok) (hm : x.meetB prev term = true) (hb : its.any badI = false) (hr : x.roomB (prev + its.length) = false) : x.join prev term its = (x, 0, false) := by
  obtain ⟨h3, h4⟩ := ok_its hb
  obtain ⟨hp0, hpl⟩ := Ln.join_bounds h hm
  cases e : x.first prev its its.length with
  | none => rw [(Ln.join_none h hm hb e).2] at hr; cases hr
  | some k =>
    rw [Ln.join_meet h hm, if_neg (by rw [h3]; decide), e]
    dsimp only
    have hkk : ∀ n, n ≤ its.length → x.first prev its n = some k → k < n ∧ prev + k ≤ x.last ∧ x.b < prev + 1 + k := by
      intro n
      induction n with
      | zero => intro _ h; cases h
      | succ n ih =>
        intro hn he
        cases en : x.first prev its n with
        | some j =>
          have := Ln.first_keep en 1
          rw [this] at he
          obtain ⟨h5, h6, h7⟩ := ih (by omega) (by rw [en]; exact he)
          exact ⟨by omega, h6, h7⟩
        | none =>
          rw [Ln.first_succ (List.getElem?_eq_getElem (show n < its.length by omega)) en] at he
          split at he
          · rename_i hc
            injection he with he
            subst he
            exact ⟨by omega, Ln.first_le h hpl (fun p hp => (okIt_parts (h4 p hp)).1) n (by omega) en, hc.1⟩
          · cases he
    obtain ⟨hk1, hk2, hk3⟩ := hkk _ (Nat.le_refl _) e
    rw [if_neg]
    have hlen : (x.l.take (prev + k - x.b).toNat ++ its.drop k).length = (prev + k - x.b).toNat + (its.length - k) := by
      rw [List.length_append, List.length_take, List.length_drop]
      unfold Ln.last at hk2
      omega
    rw [hlen]
    unfold Ln.fits MostL
    unfold Ln.roomB at hr
    rw [decide_eq_false_iff_not] at hr
    simp only [Bool.and_eq_true, decide_eq_true_eq]
    omega
end
end Go.Proofs.Ytgjplbanfnomkaa
