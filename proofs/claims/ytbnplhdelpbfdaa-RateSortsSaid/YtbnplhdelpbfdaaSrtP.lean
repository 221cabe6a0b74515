/- Rates in lists: sorted falling, exchanged, merged: plain facts. -/
import Derived.Test.YtbnplhdelpbfdaaFlt
set_option linter.unusedVariables false
namespace Go.Proofs.Ytbnplhdelpbfdaa
open Flt (key)
/-- What stands ahead has no lesser key. -/
def Srt (l : List Nat) : Prop := l.Pairwise fun x y => key y ≤ key x
def Gte (a b : List Nat) : Prop := ∀ x ∈ a, ∀ y ∈ b, key y ≤ key x
def gd (l : List Nat) (i : Nat) : Nat := l.getD i 0
theorem gd_some {l : List Nat} {i : Nat} (h : i < l.length) : l[i]? = some (gd l i) := by unfold gd; rw [List.getD_eq_getElem?_getD, List.getElem?_eq_getElem h]; rfl
theorem gd_mem {l : List Nat} {i : Nat} (h : i < l.length) : gd l i ∈ l := List.mem_of_getElem? (gd_some h)
theorem mem_gd {l : List Nat} {x : Nat} (h : x ∈ l) : ∃ i, i < l.length ∧ gd l i = x := by
  obtain ⟨i, hi⟩ := List.getElem?_of_mem h
  have hl := (List.getElem?_eq_some_iff.1 hi).1
  exact ⟨i, hl, Option.some.inj ((gd_some hl).symm.trans hi)⟩
theorem gd_left {a b : List Nat} {i : Nat} (h : i < a.length) : gd (a ++ b) i = gd a i := by unfold gd; rw [List.getD_eq_getElem?_getD, List.getD_eq_getElem?_getD, List.getElem?_append_left h]
theorem gd_right {a b : List Nat} {i : Nat} (h : a.length ≤ i) : gd (a ++ b) i = gd b (i - a.length) := by unfold gd; rw [List.getD_eq_getElem?_getD, List.getD_eq_getElem?_getD, List.getElem?_append_right h]
theorem gd_mid {a b : List Nat} (i : Nat) : gd (a ++ b) (a.length + i) = gd b i := by rw [gd_right (by omega)]; congr 1; omega
theorem gd_take {a : List Nat} {i n : Nat} (h : i < n) : gd (a.take n) i = gd a i := by unfold gd; rw [List.getD_eq_getElem?_getD, List.getD_eq_getElem?_getD, List.getElem?_take, if_pos h]
theorem gd_drop {a : List Nat} {i n : Nat} : gd (a.drop n) i = gd a (n + i) := by unfold gd; rw [List.getD_eq_getElem?_getD, List.getD_eq_getElem?_getD, List.getElem?_drop]
theorem srt_iff {l : List Nat} : Srt l ↔ ∀ i j, i < j → j < l.length → key (gd l j) ≤ key (gd l i) := by
  unfold Srt
  rw [List.pairwise_iff_getElem]
  constructor
  · intro h i j hij hj
    have := h i j (by omega) hj hij
    have e1 := gd_some (l := l) (i := i) (by omega)
    have e2 := gd_some hj
    rw [List.getElem?_eq_getElem (by omega)] at e1
    rw [List.getElem?_eq_getElem hj] at e2
    rw [← Option.some.inj e1, ← Option.some.inj e2]; exact this
  · intro h i j hi hj hij
    have := h i j hij hj
    have e1 := gd_some hi
    have e2 := gd_some hj
    rw [List.getElem?_eq_getElem hi] at e1
    rw [List.getElem?_eq_getElem hj] at e2
    rw [Option.some.inj e1, Option.some.inj e2]; exact this
theorem Srt.le {l : List Nat} (h : Srt l) {i j : Nat} (hij : i ≤ j) (hj : j < l.length) : key (gd l j) ≤ key (gd l i) := by
  rcases Nat.lt_or_ge i j with h1 | h1
  · exact srt_iff.1 h i j h1 hj
  · obtain rfl : i = j := by omega
    exact Nat.le_refl _
theorem srt_app {a b : List Nat} : Srt (a ++ b) ↔ Srt a ∧ Srt b ∧ Gte a b := by
  unfold Srt Gte; rw [List.pairwise_append]
theorem Gte.perm {a b a' b' : List Nat} (h : Gte a b) (ha : a'.Perm a) (hb : b'.Perm b) : Gte a' b' := fun x hx y hy => h x (ha.mem_iff.1 hx) y (hb.mem_iff.1 hy)
theorem srt_perm {a b : List Nat} (ha : Srt a) (hb : Srt b) (h : a.Perm b) : a.map key = b.map key := by
  induction a generalizing b with
  | nil => rw [List.nil_perm.1 h]
  | cons x a ih =>
    cases b with
    | nil => exact absurd h.symm.length_eq (by simp)
    | cons y b =>
      unfold Srt at ha hb
      rw [List.pairwise_cons] at ha hb
      have e : key x = key y := by
        have h1 : key y ≤ key x := by
          have : y ∈ x :: a := h.mem_iff.2 (by simp)
          rcases List.mem_cons.1 this with rfl | hm
          · exact Nat.le_refl _
          · exact ha.1 y hm
        have h2 : key x ≤ key y := by
          have : x ∈ y :: b := h.mem_iff.1 (by simp)
          rcases List.mem_cons.1 this with rfl | hm
          · exact Nat.le_refl _
          · exact hb.1 x hm
        omega
      by_cases hxy : x = y
      · subst hxy
        rw [List.map_cons, List.map_cons, ih ha.2 hb.2 ((List.perm_cons x).1 h)]
      · -- x stands in b, y in a, all between have one key
        have hxb : x ∈ b := by
          have : x ∈ y :: b := h.mem_iff.1 (by simp)
          rcases List.mem_cons.1 this with h | h
          · exact absurd h hxy
          · exact h
        have h3 : a.Perm (y :: b.erase x) := by
          have h4 : (x :: a).Perm (x :: y :: b.erase x) := h.trans (((List.perm_cons_erase hxb).cons y).trans (List.Perm.swap x y _))
          exact (List.perm_cons x).1 h4
        have h5 : Srt (y :: b.erase x) := by
          refine List.pairwise_cons.2 ⟨fun z hz => hb.1 z (List.mem_of_mem_erase hz), hb.2.sublist List.erase_sublist⟩
        have h6 := ih ha.2 h5 h3
        rw [List.map_cons, List.map_cons, h6, List.map_cons, e]
        congr 1
        -- key y :: map (b.erase x) = map b
        have : ∀ (c : List Nat), (y :: c).Pairwise (fun x y => key y ≤ key x) → x ∈ c → key x = key y → key y :: (c.erase x).map key = c.map key := by
          intro c
          induction c with
          | nil => intro _ hx; cases hx
          | cons z c ihc =>
            intro hp hx he
            by_cases hzx : z = x
            · subst hzx; rw [List.erase_cons_head, List.map_cons, he]
            · rw [List.erase_cons_tail (by simpa using hzx), List.map_cons, List.map_cons]
              have hxc : x ∈ c := by
                rcases List.mem_cons.1 hx with h | h
                · exact absurd h.symm hzx
                · exact h
              rw [List.pairwise_cons] at hp
              have hpz := List.pairwise_cons.1 hp.2
              have hz1 : key z ≤ key y := hp.1 z (by simp)
              have hz2 : key x ≤ key z := hpz.1 x hxc
              have hzy : key z = key y := by omega
              rw [hzy]
              congr 1
              exact ihc (List.pairwise_cons.2 ⟨fun u hu => hp.1 u (by simp [hu]), hpz.2⟩) hxc he
        exact this b (List.pairwise_cons.2 hb) hxb e
theorem set_at {a b : List Nat} {x y : Nat} : (a ++ x :: b).set a.length y = a ++ y :: b := by
  rw [List.set_append_right _ _ (Nat.le_refl _), Nat.sub_self, List.set_cons_zero]
theorem gd_at {a b : List Nat} {x : Nat} : gd (a ++ x :: b) a.length = x := by
  have := gd_mid (a := a) (b := x :: b) 0
  rw [Nat.add_zero] at this; rw [this]; rfl
/-- Two places exchanged. -/
def swp (l : List Nat) (i j : Nat) : List Nat := (l.set i (gd l j)).set j (gd l i)
theorem swp_len (l : List Nat) (i j : Nat) : (swp l i j).length = l.length := by simp [swp]
theorem swp_at {a m b : List Nat} {x y : Nat} {i j : Nat} (hi : i = a.length) (hj : j = a.length + 1 + m.length) : swp (a ++ x :: (m ++ y :: b)) i j = a ++ y :: (m ++ x :: b) := by
  subst hi hj
  have e1 : gd (a ++ x :: (m ++ y :: b)) (a.length + 1 + m.length) = y := by
    have := gd_at (a := a ++ x :: m) (b := b) (x := y)
    simpa [Nat.add_assoc, Nat.add_comm, Nat.add_left_comm] using this
  unfold swp
  rw [e1, gd_at, set_at]
  have := set_at (a := a ++ y :: m) (b := b) (x := y) (y := x)
  have e : (a ++ y :: m).length = a.length + 1 + m.length := by simp; omega
  rw [e] at this
  simpa using this
theorem swp_next {a b : List Nat} {x y : Nat} {i j : Nat} (hi : i = a.length) (hj : j = a.length + 1) : swp (a ++ x :: y :: b) i j = a ++ y :: x :: b := by
  have := swp_at (a := a) (m := []) (b := b) (x := x) (y := y) hi (by simpa using hj)
  simpa using this
theorem swp_comm (l : List Nat) (i j : Nat) (h : i ≠ j) : swp l i j = swp l j i := by
  unfold swp; rw [List.set_comm _ _ h]
theorem swp_prev {a b : List Nat} {x y : Nat} {i j : Nat} (hi : i = a.length) (hj : j = a.length + 1) : swp (a ++ x :: y :: b) j i = a ++ y :: x :: b := by
  rw [swp_comm _ _ _ (by omega)]; exact swp_next hi hj
/-- The merge of four lots, when the cut is right. -/
theorem merged {A1 A2 B1 B2 S1 S2 : List Nat} (hA : Srt (A1 ++ A2)) (hB : Srt (B1 ++ B2)) (h1 : S1.Perm (A1 ++ B1)) (h2 : S2.Perm (A2 ++ B2)) (s1 : Srt S1) (s2 : Srt S2)
    (c1 : A1 ≠ [] → B2 ≠ [] → key (gd B2 0) ≤ key (gd A1 (A1.length - 1))) (c2 : B1 ≠ [] → A2 ≠ [] → key (gd A2 0) ≤ key (gd B1 (B1.length - 1))) :
    Srt (S1 ++ S2) ∧ (S1 ++ S2).Perm ((A1 ++ A2) ++ (B1 ++ B2)) := by
  obtain ⟨a1, a2, a12⟩ := srt_app.1 hA
  obtain ⟨b1, b2, b12⟩ := srt_app.1 hB
  have x1 : Gte A1 B2 := fun x hx y hy => by
    obtain ⟨i, hi, rfl⟩ := mem_gd hx
    obtain ⟨j, hj, rfl⟩ := mem_gd hy
    have := c1 (by intro h; rw [h] at hx; cases hx) (by intro h; rw [h] at hy; cases hy)
    have := a1.le (i := i) (j := A1.length - 1) (by omega) (by omega)
    have := b2.le (i := 0) (j := j) (by omega) hj
    omega
  have x2 : Gte B1 A2 := fun x hx y hy => by
    obtain ⟨i, hi, rfl⟩ := mem_gd hx
    obtain ⟨j, hj, rfl⟩ := mem_gd hy
    have := c2 (by intro h; rw [h] at hx; cases hx) (by intro h; rw [h] at hy; cases hy)
    have := b1.le (i := i) (j := B1.length - 1) (by omega) (by omega)
    have := a2.le (i := 0) (j := j) (by omega) hj
    omega
  have g : Gte (A1 ++ B1) (A2 ++ B2) := fun x hx y hy => by
    rcases List.mem_append.1 hx with hx | hx <;> rcases List.mem_append.1 hy with hy | hy
    · exact a12 x hx y hy
    · exact x1 x hx y hy
    · exact x2 x hx y hy
    · exact b12 x hx y hy
  refine ⟨srt_app.2 ⟨s1, s2, g.perm h1 h2⟩, (h1.append h2).trans ?_⟩
  have e : (A1 ++ B1 ++ (A2 ++ B2)).Perm (A1 ++ A2 ++ (B1 ++ B2)) := by
    rw [List.append_assoc, List.append_assoc]
    refine List.Perm.append_left A1 ?_
    rw [← List.append_assoc, ← List.append_assoc]
    exact List.Perm.append_right B2 List.perm_append_comm
  exact e
end Go.Proofs.Ytbnplhdelpbfdaa
