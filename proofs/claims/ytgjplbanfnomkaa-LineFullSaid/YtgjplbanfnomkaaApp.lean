/- One element appended to a row in a region that draws its order: what stays, whatever the order (a step relation for wp_region_rel): but the row's block nothing turns, and that one only to hold the row and one element more. No function of the program is named here. -/
import Derived.Test.YtgjplbanfnomkaaLnI
import Derived.Laws.AppendOwn
import Derived.Maps.AppendAt
set_option linter.unusedVariables false
namespace Go.Proofs.Ytgjplbanfnomkaa
open Go.RowKit
section
variable {P : Program} {ty : TypeId} {s n cap B : Nat} {row : Option Nat} {xs : List Value} {R : List Value → World → Prop}
/-- The row's block holds one element more, of which R is true. -/
def Held (ty : TypeId) (s n cap : Nat) (row : Option Nat) (xs : List Value) (R : List Value → World → Prop) (w : World) : Prop :=
  ∃ g cur news, row = some g ∧ w.heap[g]? = some (.cells cur ty (0, 0)) ∧ cur.size = cap * s ∧ n + 1 ≤ cap ∧ cap ≤ maxLen ∧ xs.length = n * s ∧ (xs ++ news).length = (n + 1) * s ∧ cur.toList.take ((n + 1) * s) = xs ++ news ∧ R news w
structure App (ty : TypeId) (s n cap : Nat) (row : Option Nat) (xs : List Value) (R : List Value → World → Prop) (w w' : World) : Prop where
  t : Turn (fun k => row = some k) w w'
  h : ∀ g, row = some g → w'.heap[g]? = w.heap[g]? ∨ Held ty s n cap row xs R w'
theorem Held.keep {w w' : World} (h : Held ty s n cap row xs R w) (t : Turn (fun k => row = some k) w w') (hg : ∀ g, row = some g → w'.heap[g]? = w.heap[g]?) (hR : ∀ news, R news w → R news w') : Held ty s n cap row xs R w' := by
  obtain ⟨g, cur, news, e, hh, r⟩ := h
  exact ⟨g, cur, news, e, (hg g e).trans hh, r.1, r.2.1, r.2.2.1, r.2.2.2.1, r.2.2.2.2.1, r.2.2.2.2.2.1, hR _ r.2.2.2.2.2.2⟩
theorem App.refl (w : World) : App ty s n cap row xs R w w := ⟨Turn.refl _ _, fun _ _ => .inl rfl⟩
theorem App.trans (hR : ∀ news w w', R news w → Turn (fun k => row = some k) w w' → R news w') (a b c : World) (h : App ty s n cap row xs R a b) (k : App ty s n cap row xs R b c) : App ty s n cap row xs R a c := by
  refine ⟨h.t.trans k.t (fun _ _ h => h), fun g e => ?_⟩
  rcases k.h g e with h1 | h1
  · rcases h.h g e with h2 | h2
    · exact .inl (h1.trans h2)
    · exact .inr (h2.keep k.t (fun g' e' => by rw [e] at e'; injection e' with e'; subst e'; exact h1) (fun news hr => hR news _ _ hr k.t))
  · exact .inr h1
theorem App.of_stp {w w' : World} (h : Stp w w') (hB : ∀ g, row = some g → g < w.heap.size) : App ty s n cap row xs R w w' :=
  ⟨(Turn.of_below h).mono (fun _ _ h => h.elim), fun g e => .inl (h.block g (hB g e))⟩
/-- What lies in another block stays. -/
theorem App.heap {w w' : World} (h : App ty s n cap row xs R w w') {g : Nat} {o : Obj} (hg : w.heap[g]? = some o) (hn : row ≠ some g) : w'.heap[g]? = some o := h.t.heap hg hn
theorem App.cell {w w' : World} (h : App ty s n cap row xs R w w') {p : Addr} {v : Value} (hc : w.cell? p = some v) (hn : row ≠ some p.block) : w'.cell? p = some v := h.t.cell hc hn
/-- The row itself stays, ahead and behind. -/
theorem App.keepRow {w w' : World} (h : App ty s n cap row xs R w w') {base : Nat} {v : Value} (ho : w.ownsRow base ty s v n xs) (hv : v.ownBlock = row) (hc : ∀ g n' c, v = .slice (some ⟨g, 0, none⟩) n' c → c = cap) : w'.ownsRow base ty s v n xs := by
  obtain ⟨h1, h2⟩ := ho
  refine ⟨h1, ?_⟩
  rcases h2 with h2 | ⟨g, c, cur, rfl, hg, hh, hn, hcm, hsz, ht⟩
  · exact .inl h2
  · obtain rfl := hc _ _ _ rfl
    rcases h.h g hv.symm with e | ⟨g', cur', news, e, hh', hsz', h3, h4, h5, h6, ht', hR⟩
    · exact .inr ⟨g, c, cur, rfl, hg, e.trans hh, hn, hcm, hsz, ht⟩
    · have e' : g' = g := by rw [e] at hv; injection hv with hv; exact hv.symm
      subst e'
      refine .inr ⟨g', c, cur', rfl, hg, hh', hn, hcm, hsz', ?_⟩
      have e8 : cur'.toList.take (n * s) = (cur'.toList.take ((n + 1) * s)).take (n * s) := by
        rw [List.take_take, Nat.min_eq_left (Nat.mul_le_mul_right _ (by omega))]
      rw [e8, ht', ← h1, List.take_left]
/-- The row with one element more, where it was or in a block of its own. -/
def Apd (ty : TypeId) (s n cap B : Nat) (row : Option Nat) (xs : List Value) (R : List Value → World → Prop) (v : Value) (w : World) : Prop :=
  ∃ news, R news w ∧ w.ownsRow 0 ty s v (n + 1) (xs ++ news) ∧ xs.length = n * s ∧ ((∃ g, row = some g ∧ v = .slice (some ⟨g, 0, none⟩) (n + 1) cap) ∨ ∃ g c, B ≤ g ∧ v = .slice (some ⟨g, 0, none⟩) (n + 1) c)
theorem Apd.stable (hR : ∀ news w w', R news w → Turn (fun k => row = some k) w w' → R news w') (hB : ∀ g, row = some g → g < B) (v : Value) (w w' : World) (h : Apd ty s n cap B row xs R v w) (hs : App ty s n cap row xs R w w') : Apd ty s n cap B row xs R v w' := by
  obtain ⟨news, hr, ho, hx, hv⟩ := h
  rcases hv with ⟨g, e, rfl⟩ | ⟨g, c, hg, rfl⟩
  · rcases hs.h g e with h1 | ⟨g', cur', news', e', hh', hsz', h3, h4, h5, h6, ht', hR'⟩
    · refine ⟨news, hR _ _ _ hr hs.t, ?_, hx, .inl ⟨g, e, rfl⟩⟩
      obtain ⟨o1, o2⟩ := ho
      refine ⟨o1, ?_⟩
      rcases o2 with ⟨o2, -⟩ | ⟨g2, c2, cur2, e2, r1, r2, r3⟩
      · cases o2
      · injection e2 with e2 _ e9; injection e2 with e2; injection e2 with e2; subst e2; subst e9
        exact .inr ⟨g, cap, cur2, rfl, r1, h1.trans r2, r3⟩
    · rw [e] at e'; injection e' with e'; subst e'
      exact ⟨news', hR', ⟨h6, .inr ⟨g, cap, cur', rfl, Nat.zero_le _, hh', h3, h4, hsz', ht'⟩⟩, hx, .inl ⟨g, e, rfl⟩⟩
  · refine ⟨news, hR _ _ _ hr hs.t, own_turn2 hs.t ho (fun k hk e => ?_), hx, .inr ⟨g, c, hg, rfl⟩⟩
    injection hk with hk
    have := hB k e
    subst hk
    have h9 : g < B := this
    omega
theorem run_app (t : TypeId) (tx : TypeId) (i : TypeInfo) (z : Value) (bytes : Nat) (hu : P.underlying t = some (.slice ty)) (hi : P.info? ty = some i) (hz : i.zero = some z) (hsize : i.size = s) (hby : i.bytes = bytes) (hzs : z.cells.size = s) (hsz : 0 < s)
    (hR : ∀ news w w', R news w → Turn (fun k => row = some k) w w' → R news w') (w : World) (v : Value) (ho : w.ownsRow 0 ty s v n xs) (hv : v.ownBlock = row) (hc : ∀ g n' c, v = .slice (some ⟨g, 0, none⟩) n' c → c = cap) (hrow : ∀ g, row = some g → g < w.heap.size) (hB : B ≤ w.heap.size)
    (a : Addr) (c : Nat) (news : List Value) (hl : news.length = s) (hnews : ∀ j u, news[j]? = some u → w.cell? (a.add j) = some u) (h1 : ∀ u ∈ news, u.oneCell' = true) (hr : R news w) (h63 : n + 1 ≤ maxLen) (hbytes : (n + 1) * bytes ≤ 140737488355328) :
    ∃ v' w', (Builtin.append_ #[t, t] tx #[v, .slice (some a) 1 c]).run P w = .ok v' w' ∧ Apd ty s n cap B row xs R v' w' ∧ App ty s n cap row xs R w w' := by
  subst hsize
  subst hby
  have hlen : (xs ++ news).length = (n + 1) * i.size := by rw [List.length_append, ho.1, hl, Nat.add_mul, Nat.one_mul]
  have hsmall : n + 1 ≤ 9223372036854775807 := by simp only [maxLen] at h63; omega
  have hl1 : news.length = 1 * i.size := by rw [Nat.one_mul]; exact hl
  have grown : ∀ (old : Nat), old < n + 1 → Apd ty i.size n cap B row xs R (.slice (some ⟨w.heap.size, 0, none⟩) (n + 1) (grownCap w (n + 1) old ty)) (w.drew.alloc (.cells (xs.toArray ++ news.toArray ++ Builtin.zeroCells z.cells (grownCap w (n + 1) old ty - (n + 1))) ty)) ∧
      App ty i.size n cap row xs R w (w.drew.alloc (.cells (xs.toArray ++ news.toArray ++ Builtin.zeroCells z.cells (grownCap w (n + 1) old ty - (n + 1))) ty)) := by
    intro old hold
    have hge := grownCap_ge w (n + 1) old ty
    have hcm : grownCap w (n + 1) old ty ≤ maxLen := grownCap_le_maxLen w (n + 1) old ty h63
    have hs : Stp w (w.drew.alloc (.cells (xs.toArray ++ news.toArray ++ Builtin.zeroCells z.cells (grownCap w (n + 1) old ty - (n + 1))) ty)) := ((Below.refl w.heap.size w).drew).alloc (Nat.le_refl _) _
    have ha : App ty i.size n cap row xs R w _ := App.of_stp hs hrow
    refine ⟨⟨news, hR _ _ _ hr ha.t, ⟨hlen, .inr ⟨w.heap.size, _, _, rfl, Nat.zero_le _, heap_alloc_new w.drew _, hge, hcm, ?_, ?_⟩⟩, ho.1, .inr ⟨w.heap.size, _, hB, rfl⟩⟩, ha⟩
    · simp only [Array.size_append, List.size_toArray, size_zeroCells, hzs, ho.1, hl1, ← Nat.add_mul]
      congr 1
      omega
    · simp only [Array.toList_append, List.append_assoc]
      rw [← List.append_assoc, ← hlen]
      exact List.take_left
  obtain ⟨o1, o2⟩ := id ho
  rcases o2 with ⟨rfl, rfl⟩ | ⟨g, cp, cur, rfl, hbg, hg, hnc, hcm, hcs, htake⟩
  · have hx : xs = [] := List.eq_nil_of_length_eq_zero (by simpa using o1)
    subst hx
    have hr2 := run_append_nil (P := P) w t tx ty i z hu hi hz a 1 c news hl1 hnews (by omega) (by omega) (by have hb := hbytes; simp only [Nat.zero_add] at hb; omega)
    have hgr := grown 0 (by omega)
    simp only [Nat.zero_add, Array.empty_append] at hgr
    exact ⟨_, _, hr2, hgr.1, hgr.2⟩
  · obtain rfl := hc _ _ _ rfl
    by_cases hroom : n + 1 ≤ cp
    · have hfit : n * i.size + news.length ≤ cur.size := by rw [hl1, hcs, ← Nat.add_mul]; exact Nat.mul_le_mul_right _ hroom
      have hr2 := run_append_room (P := P) w t tx ty i hu hi g n cp cur hg a 1 c news hl1 hnews h1 hroom hfit
      have hsz2 : (cur.toList.take (n * i.size) ++ news ++ cur.toList.drop (n * i.size + news.length)).toArray.size = cp * i.size := by
        simp only [List.size_toArray, List.length_append, List.length_take, List.length_drop, Array.length_toList]
        omega
      have htk : (cur.toList.take (n * i.size) ++ news ++ cur.toList.drop (n * i.size + news.length)).toArray.toList.take ((n + 1) * i.size) = xs ++ news := by
        rw [htake, ← hlen]
        exact List.take_left
      have ht : Turn (fun k => row = some k) w (w.setRow g (cur.toList.take (n * i.size) ++ news ++ cur.toList.drop (n * i.size + news.length)).toArray) :=
        (Turn.refl _ _).setRow g _ (fun _ => hv.symm)
      have hh := setRow_heap w g cur (cur.toList.take (n * i.size) ++ news ++ cur.toList.drop (n * i.size + news.length)).toArray ty (0, 0) hg
      refine ⟨_, _, hr2, ⟨news, hR _ _ _ hr ht, ⟨hlen, .inr ⟨g, cp, _, rfl, hbg, hh, hroom, hcm, hsz2, htk⟩⟩, o1, .inl ⟨g, hv.symm, rfl⟩⟩, ht, fun g' e => .inr ?_⟩
      exact ⟨g, _, news, hv.symm, hh, hsz2, hroom, hcm, o1, hlen, htk, hR _ _ _ hr ht⟩
    · have holds : ∀ j u, xs[j]? = some u → w.cell? ((⟨g, 0, none⟩ : Addr).add j) = some u := ho.cells (g := g) rfl
      have hr2 := run_append_grow (P := P) w t tx ty i z hu hi hz ⟨g, 0, none⟩ n cp xs o1 holds a 1 c news hl1 hnews (by omega) (by omega) (growslice_fits (by omega) hbytes)
      have hgr := grown cp (by omega)
      exact ⟨_, _, hr2, hgr.1, hgr.2⟩
end
end Go.Proofs.Ytgjplbanfnomkaa
