/- A slice of rates that came in. -/
import Derived.Test.YtbnplhdelpbfdaaSrtZ
import Derived.OpenShut
import Derived.ChangeSlices
import Derived.Deep.Slices
set_option linter.unusedVariables false
namespace Go.Proofs.Ytbnplhdelpbfdaa
open Go.RowKit Go.ChangeShapes Go.WideShapes Go.ChangeAt
theorem trod_f64 {H : Type} {enc : TypeId × Value → H} {P : Program} {w : World} {base : Nat} {spare : Nat → Bool} {held : Bool} {e : TypeId} {n : Nat} {cs : List Value} {y : DataW H × List MemPlace} (he : P.underlying e = some (.float .f64))
    (h : DataW.trod enc P w base spare held n e cs = some y) : ∃ b, cs = [.float .f64 b] ∧ (Lit.float .f64 b).wf = true := by
  cases n with
  | zero => simp [DataW.trod] at h
  | succ n =>
    unfold DataW.trod at h
    rw [he] at h
    split at h <;> simp_all
theorem open_rates {H : Type} {enc : TypeId × Value → H} {P : Program} {W : World} {r : Reach} {b0 : Nat} {t e : TypeId} {v : Value} {d : DataW H} {p : List MemPlace} (ht : P.underlying t = some (.slice e)) (he : P.underlying e = some (.float .f64)) (hc : P.cellsOf e = 1)
    (hval : Value.okWide P W r b0 t v) (hd : DataW.Trod enc P W 0 (fun _ => true) true t v d p) :
    ∃ (A : Option Addr) (c : Nat) (xs : List Nat), v = .slice A xs.length c ∧ Sl W W.heap.size A (xs.map fv) ∧ (A = none → c = 0) ∧ xs.length ≤ c ∧ xs.length ≤ maxLen ∧ Wf xs := by
  obtain ⟨a0, len, cap, rfl⟩ := okWide_slice ht hval
  obtain ⟨fuel, hf⟩ := hd
  rcases Deep.open_slice1 ht hc hf with ⟨hcs, hx⟩ | ⟨a, len', cap', m, n, V, D, Pl, hcs, hb, hl, hm, hmm, hx, hcell⟩
  · simp [Value.cells] at hcs
    obtain ⟨rfl, rfl, rfl⟩ := hcs
    exact ⟨_, 0, [], rfl, Sl.none _ _ _, (fun _ => rfl), by simp, by simp, fun x hx => by cases hx⟩
  · simp [Value.cells] at hcs
    obtain ⟨rfl, rfl, rfl⟩ := hcs
    simp only [if_true] at hmm
    subst hmm
    have hV : ∀ i, i < m → ∃ b, V i = .float .f64 b ∧ (Lit.float .f64 b).wf = true := fun i hi => by
      obtain ⟨b, h1, h2⟩ := trod_f64 he (hcell i hi).2
      exact ⟨b, by simpa using h1, h2⟩
    obtain ⟨B, hB⟩ : ∃ B : Nat → Nat, ∀ i, i < m → V i = .float .f64 (B i) ∧ (Lit.float .f64 (B i)).wf = true :=
      ⟨fun i => if h : i < m then Classical.choose (hV i h) else 0, fun i hi => by simp only [hi, dif_pos]; exact Classical.choose_spec (hV i hi)⟩
    have hlen : ((List.range len).map B).length = len := by simp
    refine ⟨some a, m, (List.range len).map B, by rw [hlen], ?_, (fun h => by cases h), by omega, by omega, ?_⟩
    · intro j u hu
      simp only [List.getElem?_map, Option.map_eq_some_iff] at hu
      obtain ⟨x, ⟨i, hi, rfl⟩, rfl⟩ := hu
      have hj : j < len := by have := (List.getElem?_eq_some_iff.1 hi).1; simpa using this
      have hij : i = j := by rw [List.getElem?_range hj] at hi; exact (Option.some.inj hi).symm
      subst hij
      have h1 := (hcell i (by omega)).1
      rw [(hB i (by omega)).1] at h1
      refine ⟨a, rfl, ?_, h1⟩
      have := World.block_lt_of_cell? W _ h1
      rwa [add_block] at this
    · intro x hx
      simp only [List.mem_map, List.mem_range] at hx
      obtain ⟨i, hi, rfl⟩ := hx
      have := (hB i (by omega)).2
      simpa [Lit.wf] using this
theorem open_l {H : Type} {enc : TypeId × Value → H} {W : World} {r : Reach} {b0 : Nat} {v : Value} {d : DataW H} {p : List MemPlace}
    (hval : Value.okWide Try.prog W r b0 22 v) (hd : DataW.Trod enc Try.prog W 0 (fun _ => true) true 22 v d p) :
    ∃ (A : Option Addr) (c : Nat) (xs : List Nat), v = .slice A xs.length c ∧ Sl W W.heap.size A (xs.map fv) ∧ (A = none → c = 0) ∧ xs.length ≤ c ∧ (xs.length ≤ maxLen ∧ Wf xs) := by
  obtain ⟨A, c, xs, h1, h2, h3, h4, h5, h6⟩ := open_rates Try.underlying22 Try.underlying26 (by kernel_rfl) hval hd
  exact ⟨A, c, xs, h1, h2, h3, h4, h5, h6⟩
theorem rateSorts_law (A : Option Addr) (c : Nat) (l : List Nat) (w : World) (hs : Sl w w.heap.size A (l.map fv)) (hA : A = none → c = 0) (hc : l.length ≤ c) (hm : l.length ≤ maxLen ∧ Wf l) :
    Calls Try.prog 3 #[.slice A l.length c] w fun e w' => e = .returned (.bool true) ∧ Below w.heap.size w w' := rateSorts_walk A c l w hs hA hc hm.1 hm.2
end Go.Proofs.Ytbnplhdelpbfdaa
