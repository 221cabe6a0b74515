/- A letter read: what each field comes to, as plain functions. -/
import Derived.Test.YtgjplbanfnomkaaLtI
set_option linter.unusedVariables false
set_option linter.unusedSimpArgs false
namespace Go.Proofs.Ytgjplbanfnomkaa
open Go.RowKit
/-- Where the reading stands: the first error, and what is left. -/
structure Rs where
  e : Nat
  l : List B8
def MX : Nat := 1099511627776
def Rs.num (s : Rs) (m : Nat) : Rs := ⟨nE s.e m s.l, numR s.l⟩
def Rs.nv (s : Rs) (m : Nat) : Nat := if nE s.e m s.l ≠ 0 then 0 else numV s.l
def Rs.text (s : Rs) (m : Nat) : Rs := ⟨tE s.e m s.l, (numR s.l).drop (numV s.l)⟩
def Rs.tv (s : Rs) (m : Nat) : List B8 := tV (tE s.e m s.l) s.l
def itsS : Nat → Rs → Rs
  | 0, s => s
  | k + 1, s => if (itsS k s).e ≠ 0 then itsS k s else ((itsS k s).num MX).text 8192
def itsVs : Nat → Rs → List Itm
  | 0, _ => []
  | k + 1, s => if (itsS k s).e ≠ 0 then itsVs k s else itsVs k s ++ [⟨((itsS k s).nv MX : Int), ((itsS k s).num MX).tv 8192⟩]
def yesB (n : Nat) : Bool := (n : Int) == 1
def zL : Ltr := ⟨0, 0, 0, 0, 0, false, [], []⟩
/-- Behind the term: where it stands, and what it is. -/
def bodS (k : Nat) (s : Rs) : Rs :=
  if k = 1 then (s.num MX).num MX
  else if k = 2 then s.num 1
  else if k = 3 then itsS ((((s.num MX).num MX).num MX).nv 16) ((((s.num MX).num MX).num MX).num 16)
  else if k = 4 then ((s.num 1).num MX).num MX
  else ((s.num MX).num MX).text 65536
def bodV (k t : Nat) (s : Rs) : Ltr :=
  if k = 1 then ⟨1, t, s.nv MX, (s.num MX).nv MX, 0, false, [], []⟩
  else if k = 2 then ⟨2, t, 0, 0, 0, yesB (s.nv 1), [], []⟩
  else if k = 3 then ⟨3, t, s.nv MX, (s.num MX).nv MX, ((s.num MX).num MX).nv MX, false, itsVs ((((s.num MX).num MX).num MX).nv 16) ((((s.num MX).num MX).num MX).num 16), []⟩
  else if k = 4 then ⟨4, t, (s.num 1).nv MX, 0, ((s.num 1).num MX).nv MX, yesB (s.nv 1), [], []⟩
  else ⟨5, t, s.nv MX, (s.num MX).nv MX, 0, false, [], ((s.num MX).num MX).tv 65536⟩
/-- The state behind the kind, and the letter's. -/
def s0 (b : List B8) : Rs := ⟨0, b⟩
def s1 (b : List B8) : Rs := (s0 b).num 5
def k1 (b : List B8) : Nat := (s0 b).nv 5
def s2 (b : List B8) : Rs := (s1 b).num MX
def rdS (b : List B8) : Rs := bodS (k1 b) (s2 b)
def rdE (b : List B8) : Nat :=
  if (s1 b).e ≠ 0 then (s1 b).e else if k1 b = 0 then 25 else if (rdS b).e ≠ 0 then (rdS b).e else if (rdS b).l ≠ [] then 3 else 0
def rdV (b : List B8) : Ltr := if rdE b ≠ 0 then zL else bodV (k1 b) ((s1 b).nv MX) (s2 b)
set_option maxRecDepth 100000 in
theorem nv_le (s : Rs) (m : Nat) : s.nv m ≤ m := by
  unfold Rs.nv
  by_cases h : nE s.e m s.l ≠ 0
  · rw [if_pos h]; exact Nat.zero_le _
  · rw [if_neg h]; exact nE_val (e := s.e) (by omega)
set_option maxRecDepth 100000 in
theorem num_err {s : Rs} {m : Nat} (h : s.e ≠ 0) : (s.num m).e = s.e ∧ s.nv m = 0 := by
  have e : nE s.e m s.l = s.e := by unfold nE; rw [if_pos h]
  exact ⟨e, by unfold Rs.nv; rw [e, if_pos h]⟩
set_option maxRecDepth 100000 in
theorem text_err {s : Rs} {m : Nat} (h : s.e ≠ 0) : (s.text m).e = s.e := by
  show tE s.e m s.l = s.e
  unfold tE; rw [if_pos h]
set_option maxRecDepth 100000 in
theorem numR_le' (l : List B8) : (numR l).length ≤ l.length := numR_le l
set_option maxRecDepth 100000 in
theorem num_le (s : Rs) (m : Nat) : (s.num m).l.length ≤ s.l.length := numR_le _
set_option maxRecDepth 100000 in
theorem text_le (s : Rs) (m : Nat) : (s.text m).l.length ≤ s.l.length := by
  show ((numR s.l).drop (numV s.l)).length ≤ _
  have := numR_le s.l
  rw [List.length_drop]; omega
set_option maxRecDepth 100000 in
theorem tv_le (s : Rs) (m : Nat) : (s.tv m).length ≤ s.l.length := tV_le _ _
set_option maxRecDepth 100000 in
theorem tvm_le (s : Rs) (m : Nat) : (s.tv m).length ≤ m := by
  unfold Rs.tv tV
  by_cases h : tE s.e m s.l ≠ 0
  · rw [if_pos h]; exact Nat.zero_le _
  · rw [if_neg h, List.length_take]
    have h0 : tE s.e m s.l = 0 := by omega
    unfold tE eText at h0
    split at h0
    · omega
    · split at h0
      · omega
      · split at h0
        · omega
        · omega
set_option maxRecDepth 100000 in
theorem itsS_stop {k n : Nat} {s : Rs} (h : (itsS k s).e ≠ 0) (hn : k ≤ n) : itsS n s = itsS k s ∧ itsVs n s = itsVs k s := by
  induction n with
  | zero => obtain rfl : k = 0 := by omega
            exact ⟨rfl, rfl⟩
  | succ n ih =>
    by_cases hk : k = n + 1
    · rw [hk]; exact ⟨rfl, rfl⟩
    · obtain ⟨h1, h2⟩ := ih (by omega)
      constructor
      · rw [itsS, if_pos (by rw [h1]; exact h), h1]
      · rw [itsVs, if_pos (by rw [h1]; exact h), h2]
set_option maxRecDepth 100000 in
theorem itsS_next {k : Nat} {s : Rs} (h : (itsS k s).e = 0) : itsS (k + 1) s = ((itsS k s).num MX).text 8192 ∧ itsVs (k + 1) s = itsVs k s ++ [⟨((itsS k s).nv MX : Int), ((itsS k s).num MX).tv 8192⟩] := by
  constructor
  · rw [itsS, if_neg (by omega)]
  · rw [itsVs, if_neg (by omega)]
set_option maxRecDepth 100000 in
theorem itsS_zero {k n : Nat} {s : Rs} (h : (itsS n s).e = 0) (hk : k ≤ n) : (itsS k s).e = 0 := by
  by_cases h0 : (itsS k s).e = 0
  · exact h0
  · have := (itsS_stop h0 hk).1
    rw [this] at h; exact h
set_option maxRecDepth 100000 in
theorem itsVs_len {k : Nat} {s : Rs} : (itsVs k s).length ≤ k := by
  induction k with
  | zero => exact Nat.le_refl _
  | succ k ih =>
    rw [itsVs]
    split
    · omega
    · rw [List.length_append]; simp; omega
set_option maxRecDepth 100000 in
theorem itsVs_full {k : Nat} {s : Rs} (h : (itsS k s).e = 0) : (itsVs k s).length = k := by
  induction k with
  | zero => rfl
  | succ k ih =>
    have h0 := itsS_zero h (Nat.le_succ k)
    rw [(itsS_next h0).2, List.length_append, ih h0]; rfl
set_option maxRecDepth 100000 in
theorem itsS_le (k : Nat) (s : Rs) : (itsS k s).l.length ≤ s.l.length := by
  induction k with
  | zero => exact Nat.le_refl _
  | succ k ih =>
    rw [itsS]
    split
    · exact ih
    · exact Nat.le_trans (text_le _ _) (Nat.le_trans (num_le _ _) ih)
/-- Items as cells. -/
def ItV (w : World) (N : Nat → Prop) (its : List Itm) (cs : List Value) : Prop := cs.length = its.length * 2 ∧ ∀ (i : Nat) (p : Itm), its[i]? = some p → p.ok ∧ cs[i * 2]? = some (.int .i64 p.t) ∧ ∃ S c, cs[i * 2 + 1]? = some (.slice S p.b.length c) ∧ BtN w N S c p.b
set_option maxRecDepth 100000 in
theorem ItV.turn {w w' : World} {N N' T : Nat → Prop} {its : List Itm} {cs : List Value} (h : ItV w N its cs) (t : Turn T w w') (hT : ∀ i, T i → N i) (hN : ∀ i, i < w.heap.size → N' i → N i) : ItV w' N' its cs := ⟨h.1, fun i p hi => by
  obtain ⟨a, b, S, c, d, e⟩ := h.2 i p hi
  exact ⟨a, b, S, c, d, e.turn t hT hN⟩⟩
set_option maxRecDepth 100000 in
theorem ItV.add {w : World} {N : Nat → Prop} {its : List Itm} {cs : List Value} (h : ItV w N its cs) {p : Itm} (hp : p.ok) {S : Option Addr} {c : Nat} (hb : BtN w N S c p.b) : ItV w N (its ++ [p]) (cs ++ [.int .i64 p.t, .slice S p.b.length c]) := by
  obtain ⟨hl, hv⟩ := h
  refine ⟨by rw [List.length_append, List.length_append, hl, List.length_singleton]; simp; omega, fun i q hi => ?_⟩
  rw [List.getElem?_append] at hi
  split at hi
  · rename_i hlt
    obtain ⟨g0, g1, S', c', g2, g3⟩ := hv i q hi
    exact ⟨g0, by rw [List.getElem?_append_left (by omega)]; exact g1, S', c', by rw [List.getElem?_append_left (by omega)]; exact g2, g3⟩
  · rename_i hge
    have hi0 : i = its.length := by
      have := (List.getElem?_eq_some_iff.1 hi).1
      simp at this
      omega
    subst hi0
    rw [Nat.sub_self] at hi
    injection hi with hi
    subst hi
    refine ⟨hp, ?_, S, c, ?_, hb⟩
    · rw [List.getElem?_append_right (by omega), hl, Nat.sub_self]; rfl
    · rw [List.getElem?_append_right (by omega), hl, show its.length * 2 + 1 - its.length * 2 = 1 by omega]; rfl
set_option maxRecDepth 100000 in
theorem ItV.itN {w : World} {B n c : Nat} {N : Nat → Prop} {A : Option Addr} {its : List Itm} {cs : List Value} (h : ItV w N its cs) (ho : w.ownsRow B 36 2 (.slice A n c) n cs) (hN : ∀ i, N i → i < B ∨ False) : ItN w N A its := fun i p hi => by
  obtain ⟨g0, g1, S, c', g2, g3⟩ := h.2 i p hi
  rcases ho.2 with ⟨e, h0⟩ | ⟨g, cap, cur, e, hB, hg, hc, hm, hcs, ht⟩
  · have hl := ho.1
    have := (List.getElem?_eq_some_iff.1 g1).1
    injection e with e1 e2 e3
    omega
  · injection e with e1 e2 e3
    subst e1
    have hcell := ho.cells (g := g) rfl
    have e0 : ∀ j, (⟨g, 0, none⟩ : Addr).add j = ⟨g, j, none⟩ := fun j => by unfold Addr.add; by_cases hj : j = 0 <;> simp [hj]
    refine ⟨g0, g, 0, S, c', rfl, fun hn => by rcases hN g hn with h | h; omega; exact h, g3, ?_, ?_⟩
    · have := hcell _ _ g1
      rw [e0] at this
      rw [Nat.zero_add]; exact this
    · have := hcell _ _ g2
      rw [e0] at this
      rw [Nat.zero_add]; exact this
end Go.Proofs.Ytgjplbanfnomkaa
