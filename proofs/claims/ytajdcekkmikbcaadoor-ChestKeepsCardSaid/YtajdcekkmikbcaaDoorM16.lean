/- Merged: A drum's bytes as plain functions: what a stretch has; what a start leaves; what a record's sectors write. -/
import Derived.Test.YtajdcekkmikbcaaDoorM15
import Derived.Test.YtajdcekkmikbcaaDoorM02
namespace Go.Proofs.YtajdcekkmikbcaaDoor
section
set_option linter.unusedVariables false
set_option maxRecDepth 100000 in
theorem landL_other (k : Nat) (W : List (Nat × Sec)) : ∀ (L : List Sec) (M : List B8), (∀ w ∈ W, w.1 ≠ k) → (landL L W M).getD k [] = L.getD k [] := by
  induction W with
  | nil => intro L M _; rfl
  | cons w W ih =>
    intro L M h
    rw [landL, ih _ _ fun x hx => h x (List.mem_cons_of_mem _ hx)]
    rw [List.getD_eq_getElem?_getD, List.getElem?_set, if_neg (h w (List.mem_cons_self ..)), ← List.getD_eq_getElem?_getD]
set_option maxRecDepth 100000 in
theorem nowS_other (k : Nat) (b : Sec) (W : List (Nat × Sec)) (h : ∀ x ∈ W, x.1 ≠ k) : nowS k b W = b := by
  induction W generalizing b with
  | nil => rfl
  | cons x W ih =>
    rw [nowS_cons, if_neg (h x (List.mem_cons_self ..))]
    exact ih b fun y hy => h y (List.mem_cons_of_mem _ hy)
set_option maxRecDepth 100000 in
/-- Where nothing waits, a start changes nothing. -/
theorem start_other (d : Dr) (M : List B8) (k : Nat) (h : ∀ w ∈ d.W, w.1 ≠ k) : (d.start M).now k = d.now k := by
  show nowS k ((landL d.L d.W M).getD k []) [] = nowS k (d.L.getD k []) d.W
  rw [nowS_other k _ d.W h, landL_other k d.W d.L M h]; rfl
/-- The bytes of a stretch. -/
def cutD (d : Dr) (p n : Nat) : List B8 := (List.range n).flatMap fun i => d.now (p + i)
set_option maxRecDepth 100000 in
theorem cutD_succ (d : Dr) (p n : Nat) : cutD d p (n + 1) = cutD d p n ++ d.now (p + n) := by
  unfold cutD; rw [List.range_succ, List.flatMap_append]; simp
set_option maxRecDepth 100000 in
theorem cutD_len {d : Dr} {m : Nat} (ok : d.Ok m) (p n : Nat) (h : p + n ≤ m) : (cutD d p n).length = 64 * n := by
  induction n with
  | zero => rfl
  | succ n ih => rw [cutD_succ, List.length_append, ih (by omega), Dr.now_len ok _ (by omega)]; omega
set_option maxRecDepth 100000 in
theorem cutD_take {d : Dr} {m : Nat} (ok : d.Ok m) (p n j : Nat) (h : p + n ≤ m) (hj : j ≤ n) : (cutD d p n).take (64 * j) = cutD d p j := by
  induction n with
  | zero => obtain rfl : j = 0 := by omega
            rfl
  | succ n ih =>
    by_cases e : j = n + 1
    · rw [e, List.take_of_length_le (by rw [cutD_len ok p (n + 1) h]; omega)]
    · rw [cutD_succ, List.take_append_of_le_length (by rw [cutD_len ok p n (by omega)]; omega)]
      exact ih (by omega) (by omega)
set_option maxRecDepth 100000 in
theorem cutD_split {d : Dr} {m : Nat} (ok : d.Ok m) (p n j : Nat) (h : p + n ≤ m) (hj : j ≤ n) : cutD d p n = cutD d p j ++ cutD d (p + j) (n - j) := by
  obtain ⟨r, rfl⟩ : ∃ r, n = j + r := ⟨n - j, by omega⟩
  rw [show j + r - j = r by omega]
  induction r with
  | zero => simp [cutD]
  | succ r ih => rw [show j + (r + 1) = (j + r) + 1 by omega, cutD_succ, ih (by omega) (by omega), cutD_succ, List.append_assoc, Nat.add_assoc]
set_option maxRecDepth 100000 in
theorem cutD_congr {d d' : Dr} (p n : Nat) (h : ∀ k, p ≤ k → k < p + n → d'.now k = d.now k) : cutD d' p n = cutD d p n := by
  unfold cutD
  induction n with
  | zero => rfl
  | succ n ih =>
    rw [List.range_succ, List.flatMap_append, List.flatMap_append, ih (fun k h1 h2 => h k h1 (by omega))]
    simp [h (p + n) (by omega) (by omega)]
/-- One sector after another is written. -/
def putD (d : Dr) : Nat → List Sec → Dr
  | _, [] => d
  | p, s :: l => putD (d.write (p : Int) s) (p + 1) l
def chunks : Nat → List B8 → List Sec
  | 0, _ => []
  | n + 1, l => l.take 64 :: chunks n (l.drop 64)
set_option maxRecDepth 100000 in
theorem chunks_len : ∀ (n : Nat) (l : List B8), (chunks n l).length = n
  | 0, _ => rfl
  | n + 1, l => by rw [chunks, List.length_cons, chunks_len n]
set_option maxRecDepth 100000 in
theorem chunks_sec : ∀ (n : Nat) (l : List B8), 64 * n ≤ l.length → ∀ s ∈ chunks n l, s.length = 64
  | 0, _, _, s, hs => by cases hs
  | n + 1, l, h, s, hs => by
    rw [chunks, List.mem_cons] at hs
    rcases hs with rfl | hs
    · rw [List.length_take]; omega
    · exact chunks_sec n _ (by rw [List.length_drop]; omega) s hs
set_option maxRecDepth 100000 in
theorem chunks_flat : ∀ (n : Nat) (l : List B8), l.length = 64 * n → (chunks n l).flatten = l
  | 0, l, h => by
    have e : l = [] := List.eq_nil_of_length_eq_zero (by omega)
    rw [e]; rfl
  | n + 1, l, h => by rw [chunks, List.flatten_cons, chunks_flat n _ (by rw [List.length_drop]; omega), List.take_append_drop]
/-- A drum that is on, without a fuse. -/
structure OnD (d : Dr) (n : Nat) : Prop where
  ok : d.Ok n
  fuse : d.fuse = 0
  off : d.off = false
set_option maxRecDepth 100000 in
theorem OnD.new (n : Nat) : OnD (Dr.new n) n := ⟨.new n, rfl, rfl⟩
set_option maxRecDepth 100000 in
theorem OnD.writeE {d : Dr} {n : Nat} (h : OnD d n) (p : Nat) (hp : p < n) (s : Sec) (hs : s.length = 64) : d.writeE (p : Int) s = 0 := by
  unfold Dr.writeE Dr.readE
  rw [h.ok.len]
  simp [h.fuse, h.off, hs]; omega
set_option maxRecDepth 100000 in
theorem OnD.write {d : Dr} {n : Nat} (h : OnD d n) (a : Int) (s : Sec) : OnD (d.write a s) n := by
  refine ⟨h.ok.write _ _, ?_, ?_⟩ <;>
  · unfold Dr.write Dr.burn
    split
    · first | exact h.fuse | exact h.off
    · split <;> simp [h.fuse, h.off]
set_option maxRecDepth 100000 in
theorem OnD.sync {d : Dr} {n : Nat} (h : OnD d n) : d.syncE = 0 ∧ OnD d.sync n ∧ d.sync.W = [] := by
  have h0 := h.fuse
  have h1 := h.off
  refine ⟨by unfold Dr.syncE; simp [h0, h1], ⟨h.ok.sync, ?_, ?_⟩, ?_⟩ <;> (unfold Dr.sync Dr.burn Dr.land; simp [h0, h1])
set_option maxRecDepth 100000 in
theorem OnD.start {d : Dr} {n : Nat} (h : d.Ok n) (M : List B8) : OnD (d.start M) n := ⟨h.start M, rfl, rfl⟩
set_option maxRecDepth 100000 in
theorem OnD.write_now {d : Dr} {n : Nat} (h : OnD d n) (p : Nat) (hp : p < n) (s : Sec) (hs : s.length = 64) (k : Nat) : (d.write (p : Int) s).now k = if p = k then s else d.now k := Dr.now_write (h.writeE p hp s hs) k
set_option maxRecDepth 100000 in
theorem OnD.write_W {d : Dr} {n : Nat} (h : OnD d n) (p : Nat) (hp : p < n) (s : Sec) (hs : s.length = 64) : (d.write (p : Int) s).W = d.W ++ [(p, s)] := by
  have e := h.writeE p hp s hs
  unfold Dr.writeE at e; unfold Dr.write
  split at e
  · contradiction
  · rename_i h1
    split at e
    · cases e
    · rename_i h2
      split at e
      · cases e
      · rename_i h3
        rw [if_neg (by rw [not_or]; exact ⟨h1, h2⟩), if_neg h3]; rfl
set_option maxRecDepth 100000 in
theorem putD_on {n : Nat} : ∀ (l : List Sec) (d : Dr) (p : Nat), OnD d n → p + l.length ≤ n → (∀ s ∈ l, s.length = 64) → OnD (putD d p l) n ∧ (∀ k, (putD d p l).now k = if p ≤ k ∧ k < p + l.length then l.getD (k - p) [] else d.now k) ∧ (∀ w ∈ (putD d p l).W, w ∈ d.W ∨ (p ≤ w.1 ∧ w.1 < p + l.length))
  | [], d, p, h, _, _ => ⟨h, fun k => by rw [if_neg (by simp only [List.length_nil]; omega)]; rfl, fun w hw => .inl hw⟩
  | s :: l, d, p, h, hp, hs => by
    rw [List.length_cons] at hp
    have h64 := hs s (List.mem_cons_self ..)
    obtain ⟨a, b, c⟩ := putD_on l (d.write (p : Int) s) (p + 1) (h.write _ _) (by omega) fun x hx => hs x (List.mem_cons_of_mem _ hx)
    refine ⟨a, fun k => ?_, fun w hw => ?_⟩
    · rw [putD, b k, h.write_now p (by omega) s h64 k, List.length_cons]
      by_cases h1 : p = k
      · subst h1
        rw [if_neg (by omega), if_pos rfl, if_pos (by omega), Nat.sub_self]; rfl
      · by_cases h2 : p + 1 ≤ k ∧ k < p + 1 + l.length
        · rw [if_pos h2, if_pos (by omega), show k - p = (k - (p + 1)) + 1 by omega]; rfl
        · rw [if_neg h2, if_neg h1, if_neg (by omega)]
    · rcases c w hw with h1 | h1
      · rw [h.write_W p (by omega) s h64, List.mem_append, List.mem_singleton] at h1
        rcases h1 with h1 | rfl
        · exact .inl h1
        · exact .inr ⟨Nat.le_refl _, by simp⟩
      · exact .inr ⟨by omega, by rw [List.length_cons]; omega⟩
set_option maxRecDepth 100000 in
/-- What was written is there. -/
theorem putD_cut {n : Nat} (l : List Sec) (d : Dr) (p : Nat) (h : OnD d n) (hp : p + l.length ≤ n) (hs : ∀ s ∈ l, s.length = 64) : cutD (putD d p l) p l.length = l.flatten := by
  obtain ⟨a, b, c⟩ := putD_on l d p h hp hs
  have e : ∀ m, m ≤ l.length → cutD (putD d p l) p m = (l.take m).flatten := by
    intro m
    induction m with
    | zero => intro _; rfl
    | succ m ih =>
      intro hm
      rw [cutD_succ, ih (by omega), b (p + m), if_pos (by omega), show p + m - p = m by omega, List.take_succ_eq_append_getElem (by omega), List.flatten_append]
      rw [List.getD_eq_getElem?_getD, List.getElem?_eq_getElem (by omega)]; simp
  rw [e l.length (Nat.le_refl _), List.take_length]
end
end Go.Proofs.YtajdcekkmikbcaaDoor
