/- A line as a plain record: what each call makes of it; a line that pieces of one row came into is a front of it. -/
import Derived.Test.YtgjplbanfnomkaaLtAX
set_option linter.unusedVariables false
set_option linter.unusedSimpArgs false
namespace Go.Proofs.Ytgjplbanfnomkaa
open Go.RowKit
/-- A line, plain. -/
structure Ln where
  b : Int
  t : Int
  l : List Itm
def MostL : Int := 1099511627776
def okIt (p : Itm) : Bool := decide (0 ≤ p.t) && (decide (p.t ≤ MostL) && decide (p.b.length ≤ 8192))
def Ln.last (x : Ln) : Int := x.b + x.l.length
def Ln.at (x : Ln) (i : Int) : Int := if i = x.b then x.t else if i < x.b ∨ x.last < i then -1 else ((x.l[(i - x.b - 1).toNat]?).map Itm.t).getD (-1)
def Ln.fits (x : Ln) (n : Int) : Bool := decide (n ≤ 4096) && decide (n ≤ MostL - x.b)
/-- From: the items from index i on, at most m. -/
def Ln.from' (x : Ln) (i m : Int) : List Itm := if x.b < i ∧ i ≤ x.last then (x.l.drop (i - x.b - 1).toNat).take m.toNat else []
def Ln.add (x : Ln) (p : Itm) : Ln × Int := if okIt p && x.fits (x.l.length + 1) = true then (⟨x.b, x.t, x.l ++ [p]⟩, x.b + x.l.length + 1) else (x, 0)
/-- The first of the items (the k-th stands at prev + 1 + k) that isn't what stands there. -/
def Ln.first (x : Ln) (prev : Int) (its : List Itm) : Nat → Option Nat
  | 0 => none
  | n + 1 => match x.first prev its n with
    | some k => some k
    | none => if x.b < prev + 1 + n ∧ x.at (prev + 1 + n) ≠ (((its[n]?).map Itm.t).getD (-2)) then some n else none
def Ln.join (x : Ln) (prev term : Int) (its : List Itm) : Ln × Int × Bool :=
  if prev < 0 ∨ x.last < prev ∨ (x.b ≤ prev ∧ x.at prev ≠ term) then (x, 0, false)
  else if its.all okIt = false then (x, 0, false)
  else match x.first prev its its.length with
    | none => (x, 0, true)
    | some k =>
      if x.fits ((x.l.take (prev + k - x.b).toNat ++ its.drop k).length) = true then (⟨x.b, x.t, x.l.take (prev + k - x.b).toNat ++ its.drop k⟩, prev + 1 + k, true)
      else (x, 0, false)
def Ln.drop (x : Ln) (i : Int) : Ln × Bool := if x.at i < 0 then (x, false) else (⟨i, x.at i, x.l.drop (i - x.b).toNat⟩, true)
theorem Ln.at_item {x : Ln} {k : Nat} {p : Itm} (h : x.l[k]? = some p) : x.at (x.b + 1 + k) = p.t := by
  have hk := (List.getElem?_eq_some_iff.1 h).1
  unfold Ln.at Ln.last
  rw [if_neg (by omega), if_neg (by omega), show (x.b + 1 + (k : Int) - x.b - 1).toNat = k by omega, h]; rfl
theorem Ln.at_out {x : Ln} {i : Int} (h : x.last < i) : x.at i = -1 := by
  unfold Ln.at
  rw [if_neg (by unfold Ln.last at h; omega), if_pos (.inr h)]
/-- A front of a row, with base 0. -/
def Frt (all : List Itm) (k : Nat) : Ln := ⟨0, 0, all.take k⟩
theorem Frt.last {all : List Itm} {k : Nat} (h : k ≤ all.length) : (Frt all k).last = k := by
  unfold Ln.last Frt; rw [List.length_take]; show (0 : Int) + _ = _; omega
/-- The items of a piece that lie within the front stand there already. -/
theorem Frt.first_none {all : List Itm} {k a n : Nat} (hk : k ≤ all.length) (ha : a + n ≤ all.length) (hneg : ∀ p ∈ all, p.t ≠ -1) (m : Nat) (hm : m ≤ n) (hin : a + m ≤ k) : (Frt all k).first a ((all.drop a).take n) m = none := by
  induction m with
  | zero => rfl
  | succ m ih =>
    have hx : ((all.drop a).take n)[m]? = all[a + m]? := by rw [List.getElem?_take_of_lt (by omega), List.getElem?_drop]
    have hp := List.getElem?_eq_getElem (l := all) (i := a + m) (by omega)
    have hat : (Frt all k).at ((a : Int) + 1 + (m : Int)) = all[a + m].t := by
      have := Ln.at_item (x := Frt all k) (k := a + m) (p := all[a + m]) (by show (all.take k)[a + m]? = _; rw [List.getElem?_take_of_lt (by omega), hp])
      rw [← this]; congr 1; show _ = (0 : Int) + 1 + _; push_cast; omega
    unfold Ln.first
    rw [ih (by omega) (by omega)]
    dsimp only
    rw [hat, hx, hp, if_neg (by intro h; exact h.2 rfl)]
theorem Frt.first_some {all : List Itm} {k a n : Nat} (hk : k ≤ all.length) (hak : a ≤ k) (ha : a + n ≤ all.length) (hneg : ∀ p ∈ all, p.t ≠ -1) (m : Nat) (hm : m ≤ n) (hin : k < a + m) : (Frt all k).first a ((all.drop a).take n) m = some (k - a) := by
  induction m with
  | zero => omega
  | succ m ih =>
    unfold Ln.first
    by_cases h : k < a + m
    · rw [ih (by omega) h]
    · rw [Frt.first_none hk ha hneg m (by omega) (by omega)]
      dsimp only
      have hx : ((all.drop a).take n)[m]? = all[a + m]? := by rw [List.getElem?_take_of_lt (by omega), List.getElem?_drop]
      have hp := List.getElem?_eq_getElem (l := all) (i := a + m) (by omega)
      have hat : (Frt all k).at ((a : Int) + 1 + (m : Int)) = -1 := Ln.at_out (by rw [Frt.last hk]; omega)
      rw [hat, hx, hp, if_pos ⟨by show (0 : Int) < _; omega, fun e => hneg _ (List.mem_of_getElem? hp) (by simpa using e.symm)⟩]
      congr 1; omega
/-- A piece of a row that comes to a front of it makes a front. -/
theorem Frt.join {all : List Itm} {k a n : Nat} (hk : k ≤ all.length) (hak : a ≤ k) (ha : a + n ≤ all.length) (hok : ∀ p ∈ all, okIt p = true) (hfew : all.length ≤ 4096) (term : Int) (ht : (Frt all k).at a = term) :
    ((Frt all k).join a term ((all.drop a).take n)).1 = Frt all (max k (a + n)) ∧ ((Frt all k).join a term ((all.drop a).take n)).2.2 = true := by
  have hneg : ∀ p ∈ all, p.t ≠ -1 := fun p hp e => by
    have := hok p hp
    unfold okIt at this
    simp only [Bool.and_eq_true, decide_eq_true_eq] at this
    omega
  have hall : ((all.drop a).take n).all okIt = true := List.all_eq_true.2 (fun p hp => hok p (List.mem_of_mem_drop (List.mem_of_mem_take hp)))
  have hlen : ((all.drop a).take n).length = n := by rw [List.length_take, List.length_drop]; omega
  unfold Ln.join
  rw [if_neg (by rw [Frt.last hk, ht]; omega), if_neg (by rw [hall]; decide), hlen]
  by_cases h : a + n ≤ k
  · rw [Frt.first_none hk ha hneg n (Nat.le_refl _) h, show max k (a + n) = k by omega]
    exact ⟨rfl, rfl⟩
  · rw [Frt.first_some hk hak ha hneg n (Nat.le_refl _) (by omega)]
    dsimp only
    have e : (Frt all k).l.take ((a : Int) + ((k - a : Nat) : Int) - (Frt all k).b).toNat ++ ((all.drop a).take n).drop (k - a) = all.take (a + n) := by
      have e1 : ((a : Int) + ((k - a : Nat) : Int) - (Frt all k).b).toNat = k := by show ((a : Int) + _ - 0).toNat = k; omega
      rw [e1]
      show (all.take k).take k ++ _ = _
      rw [List.take_take, Nat.min_self, List.drop_take, List.drop_drop, show a + (k - a) = k by omega, show n - (k - a) = a + n - k by omega]
      rw [← List.take_append_drop k (all.take (a + n)), List.take_take, Nat.min_eq_left (by omega), List.drop_take]
    rw [e]
    have hf : (Frt all k).fits ((all.take (a + n)).length : Int) = true := by
      unfold Ln.fits MostL
      rw [List.length_take]
      simp only [Bool.and_eq_true, decide_eq_true_eq]
      show _ ∧ _ ≤ (1099511627776 : Int) - 0
      omega
    rw [if_pos hf, show max k (a + n) = a + n by omega]
    exact ⟨rfl, rfl⟩
end Go.Proofs.Ytgjplbanfnomkaa
