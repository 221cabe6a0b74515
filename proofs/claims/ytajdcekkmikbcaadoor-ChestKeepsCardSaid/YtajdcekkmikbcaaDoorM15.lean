/- Merged: Records on a drum as plain functions (no program is named here): their form, how bytes are read, a scan; what is read of a form; a record hangs on its own sectors alone. -/
import Derived.Test.YtajdcekkmikbcaaDoorM14
namespace Go.Proofs.YtajdcekkmikbcaaDoor
section
set_option linter.unusedVariables false
def secPad (n : Nat) : Nat := (64 - n % 64) % 64
def fldS (t n : Nat) (b : List B8) : List B8 := numB t ++ (numB n ++ (numB b.length ++ b))
def sumS (f : List B8) : List B8 := (dig (13 :: longB f)).take 8
def headS (f : List B8) : List B8 := wb (BitVec.ofNat 32 f.length) ++ sumS f
/-- A record's form, of its fields. -/
def laidS (f : List B8) : List B8 := headS f ++ (f ++ zeros (secPad (12 + f.length)))
def formS (t n : Nat) (b : List B8) : List B8 := laidS (fldS t n b)
structure Rc where
  t : Nat
  n : Nat
  size : Nat
  b : List B8
def mostS : Nat := 1099511627776
/-- The fields of a record: turn, number, text; no more. -/
def fldE (f : List B8) : Nat := if eNum mostS f ≠ 0 then eNum mostS f else if eNum mostS (numR f) ≠ 0 then eNum mostS (numR f) else eText (f.length : Int) (numR (numR f))
def fldT (f : List B8) : List B8 := numR (numR (numR f))
def fldK (f : List B8) : Nat := numV (numR (numR f))
def lenS (l : List B8) : Nat := valB (l.take 4)
def endS (l : List B8) : Nat := 12 + lenS l + secPad (12 + lenS l)
def bodyS (l : List B8) : List B8 := (l.drop 12).take (lenS l)
def readS (l : List B8) : Option Rc :=
  if l.length < 12 ∨ 65524 < lenS l ∨ l.length < endS l then none
  else if (l.drop (12 + lenS l)).take (secPad (12 + lenS l)) ≠ zeros (secPad (12 + lenS l)) then none
  else if (l.drop 4).take 8 ≠ sumS (bodyS l) then none
  else if fldE (bodyS l) ≠ 0 ∨ (fldT (bodyS l)).drop (fldK (bodyS l)) ≠ [] then none
  else some ⟨numV (bodyS l), numV (numR (bodyS l)), endS l / 64, (fldT (bodyS l)).take (fldK (bodyS l))⟩
/-- The records of a turn, from number k on. -/
def scanK : Nat → List B8 → Nat → Nat → List (List B8) × Nat
  | 0, _, _, _ => ([], 0)
  | f + 1, l, t, k => match readS l with
    | none => ([], 0)
    | some r => if r.t ≠ t ∨ r.n ≠ k then ([], 0) else (r.b :: (scanK f (l.drop (64 * r.size)) t (k + 1)).1, r.size + (scanK f (l.drop (64 * r.size)) t (k + 1)).2)
set_option maxRecDepth 100000 in
theorem secPad_lt (n : Nat) : secPad n < 64 := Nat.mod_lt _ (by omega)
set_option maxRecDepth 100000 in
theorem secPad_div (n : Nat) : (n + secPad n) % 64 = 0 := by unfold secPad; omega
set_option maxRecDepth 100000 in
theorem endS_div (l : List B8) : 64 * (endS l / 64) = endS l := by
  have := secPad_div (12 + lenS l)
  unfold endS; omega
set_option maxRecDepth 100000 in
theorem endS_pos (l : List B8) : 64 ≤ endS l := by
  have := secPad_div (12 + lenS l)
  unfold endS; omega
set_option maxRecDepth 100000 in
theorem sumS_len (f : List B8) : (sumS f).length = 8 := by unfold sumS; rw [List.length_take, dig_len]; rfl
set_option maxRecDepth 100000 in
theorem headS_len (f : List B8) : (headS f).length = 12 := by unfold headS; rw [List.length_append, sumS_len]; rfl
set_option maxRecDepth 100000 in
theorem laidS_len (f : List B8) : (laidS f).length = 12 + f.length + secPad (12 + f.length) := by
  unfold laidS; rw [List.length_append, List.length_append, headS_len]; simp only [zeros, List.length_replicate]; omega
set_option maxRecDepth 100000 in
theorem laidS_div (f : List B8) : (laidS f).length % 64 = 0 := by rw [laidS_len]; exact secPad_div _
set_option maxRecDepth 100000 in
theorem readS_size {l : List B8} {r : Rc} (h : readS l = some r) : 64 * r.size = endS l ∧ 64 * r.size ≤ l.length ∧ 1 ≤ r.size := by
  unfold readS at h
  split at h
  · cases h
  · rename_i h1
    split at h
    · cases h
    · split at h
      · cases h
      · split at h
        · cases h
        · injection h with h
          subst h
          have h2 := endS_div l
          have h3 := endS_pos l
          exact ⟨h2, by show 64 * (endS l / 64) ≤ l.length; omega, by show 1 ≤ endS l / 64; omega⟩
set_option maxRecDepth 100000 in
/-- What is read hangs on its own sectors alone. -/
theorem lenS_take {l : List B8} {m : Nat} (h : 4 ≤ m) : lenS (l.take m) = lenS l := by unfold lenS; rw [List.take_take, Nat.min_eq_left h]
set_option maxRecDepth 100000 in
theorem bodyS_take {l : List B8} {m : Nat} (h : 12 + lenS l ≤ m) : bodyS (l.take m) = bodyS l := by
  unfold bodyS
  rw [lenS_take (by omega), List.drop_take, List.take_take, Nat.min_eq_left (by omega)]
set_option maxRecDepth 100000 in
theorem readS_local {l l' : List B8} {r : Rc} (h : readS l = some r) (he : l'.take (64 * r.size) = l.take (64 * r.size)) (hl : 64 * r.size ≤ l'.length) : readS l' = some r := by
  obtain ⟨h1, h2, h3⟩ := readS_size h
  rw [h1] at he hl h2
  have e64 := endS_pos l
  have eL : lenS l' = lenS l := by
    have := congrArg lenS he
    rwa [lenS_take (by omega), lenS_take (by omega)] at this
  have eE : endS l' = endS l := by unfold endS; rw [eL]
  have hle : 12 + lenS l ≤ endS l := by unfold endS; omega
  have eB : bodyS l' = bodyS l := by
    have := congrArg bodyS he
    rwa [bodyS_take (by rw [eL]; exact hle), bodyS_take hle] at this
  have eD : ∀ a k, a + k ≤ endS l → (l'.drop a).take k = (l.drop a).take k := by
    intro a k hk
    have := congrArg (fun x => (x.drop a).take k) he
    simp only [List.drop_take, List.take_take] at this
    rwa [Nat.min_eq_left (by omega)] at this
  unfold readS at h ⊢
  rw [eB, eL, eE, eD (12 + lenS l) _ (by unfold endS; omega), eD 4 8 (by omega)]
  split at h
  · cases h
  · rename_i hc
    rw [if_neg (by omega)]
    exact h
set_option maxRecDepth 100000 in
/-- A scan of more rounds than there are sectors. -/
theorem scanK_more : ∀ (f : Nat) (l : List B8) (t k : Nat), l.length < 64 * f → scanK (f + 1) l t k = scanK f l t k
  | 0, l, t, k, h => by omega
  | f + 1, l, t, k, h => by
    rw [scanK, scanK]
    cases hr : readS l with
    | none => rfl
    | some r =>
      obtain ⟨h1, h2, h3⟩ := readS_size hr
      simp only
      rw [scanK_more f _ _ _ (by rw [List.length_drop]; omega)]
set_option maxRecDepth 100000 in
theorem scanK_any (l : List B8) (t k f : Nat) (h : l.length / 64 + 1 ≤ f) : scanK f l t k = scanK (l.length / 64 + 1) l t k := by
  induction f with
  | zero => omega
  | succ f ih =>
    by_cases he : l.length / 64 + 1 = f + 1
    · rw [he]
    · rw [scanK_more f l t k (by omega), ih (by omega)]
/-- A scan, without its rounds. -/
def scanN (l : List B8) (t k : Nat) : List (List B8) × Nat := scanK (l.length / 64 + 1) l t k
set_option maxRecDepth 100000 in
theorem scanN_step (l : List B8) (t k : Nat) : scanN l t k = match readS l with
    | none => ([], 0)
    | some r => if r.t ≠ t ∨ r.n ≠ k then ([], 0) else (r.b :: (scanN (l.drop (64 * r.size)) t (k + 1)).1, r.size + (scanN (l.drop (64 * r.size)) t (k + 1)).2) := by
  unfold scanN
  rw [scanK]
  cases hr : readS l with
  | none => rfl
  | some r =>
    obtain ⟨h1, h2, h3⟩ := readS_size hr
    simp only
    rw [scanK_any (l.drop (64 * r.size)) t (k + 1) (l.length / 64) (by rw [List.length_drop]; omega)]
set_option maxRecDepth 100000 in
theorem scanN_none {l : List B8} (h : readS l = none) (t k : Nat) : scanN l t k = ([], 0) := by rw [scanN_step, h]
set_option maxRecDepth 100000 in
theorem scanN_some {l : List B8} {r : Rc} (h : readS l = some r) : scanN l r.t r.n = (r.b :: (scanN (l.drop (64 * r.size)) r.t (r.n + 1)).1, r.size + (scanN (l.drop (64 * r.size)) r.t (r.n + 1)).2) := by
  rw [scanN_step, h]; simp
set_option maxRecDepth 100000 in
theorem scanN_other {l : List B8} {r : Rc} (h : readS l = some r) {t k : Nat} (hn : r.t ≠ t ∨ r.n ≠ k) : scanN l t k = ([], 0) := by
  rw [scanN_step, h]; simp only; rw [if_pos hn]
set_option maxRecDepth 100000 in
/-- A form is read as the record that it is of. -/
theorem wb_val (n : Nat) (h : n < 4294967296) : valB (wb (BitVec.ofNat 32 n)) = n := by
  simp only [wb, valB, List.foldl_cons, List.foldl_nil, BitVec.toNat_setWidth, BitVec.toNat_ushiftRight, BitVec.toNat_ofNat, Nat.shiftRight_eq_div_pow]
  omega
set_option maxRecDepth 100000 in
theorem fldS_parts (t n : Nat) (b : List B8) (ht : t ≤ mostS) (hn : n ≤ mostS) (hb : b.length < 18446744073709551616) : fldE (fldS t n b) = 0 ∧ numV (fldS t n b) = t ∧ numV (numR (fldS t n b)) = n ∧ fldT (fldS t n b) = b ∧ fldK (fldS t n b) = b.length := by
  unfold mostS at ht hn
  obtain ⟨a1, a2, a3⟩ := read_numB t (numB n ++ (numB b.length ++ b)) (by omega)
  obtain ⟨b1, b2, b3⟩ := read_numB n (numB b.length ++ b) (by omega)
  obtain ⟨c1, c2, c3⟩ := read_numB b.length b hb
  unfold fldE fldT fldK fldS mostS
  rw [eNum_numB _ _ _ ht (by omega), a3, eNum_numB _ _ _ hn (by omega), b3, c3, c2, b2, a2]
  refine ⟨?_, rfl, rfl, rfl, rfl⟩
  simp only [ne_eq, not_true, if_false]
  unfold eText
  rw [c1, c2, c3]
  simp only [ne_eq, not_true, if_false, List.length_append]
  rw [if_neg (by omega), if_neg (by omega)]
set_option maxRecDepth 100000 in
theorem laidS_read (f R : List B8) (hf : f.length ≤ 65524) (he : fldE f = 0) (ht : (fldT f).drop (fldK f) = []) : readS (laidS f ++ R) = some ⟨numV f, numV (numR f), (laidS f).length / 64, (fldT f).take (fldK f)⟩ := by
  have hw : (wb (BitVec.ofNat 32 f.length)).length = 4 := rfl
  have e0 : laidS f ++ R = wb (BitVec.ofNat 32 f.length) ++ (sumS f ++ (f ++ (zeros (secPad (12 + f.length)) ++ R))) := by simp [laidS, headS]
  have eL : lenS (laidS f ++ R) = f.length := by
    unfold lenS; rw [e0, List.take_left' hw]; exact wb_val _ (by omega)
  have d12 : (laidS f ++ R).drop 12 = f ++ (zeros (secPad (12 + f.length)) ++ R) := by
    unfold laidS; rw [List.append_assoc, List.drop_left' (headS_len f), List.append_assoc]
  have eB : bodyS (laidS f ++ R) = f := by unfold bodyS; rw [eL, d12, List.take_left]
  have eE : endS (laidS f ++ R) = (laidS f).length := by unfold endS; rw [eL, laidS_len]
  have ez : ((laidS f ++ R).drop (12 + f.length)).take (secPad (12 + f.length)) = zeros (secPad (12 + f.length)) := by
    rw [← List.drop_drop, d12, List.drop_left, List.take_left' (by simp [zeros])]
  have es : ((laidS f ++ R).drop 4).take 8 = sumS f := by
    rw [e0, List.drop_left' hw, List.take_left' (sumS_len f)]
  have hl := laidS_len f
  unfold readS
  rw [eL, eE, eB, ez, es, if_neg (by rw [List.length_append]; omega), if_neg (by simp), if_neg (by simp), if_neg (by rw [he, ht]; simp)]
set_option maxRecDepth 100000 in
theorem form_read (t n : Nat) (b R : List B8) (ht : t ≤ mostS) (hn : n ≤ mostS) (hf : (fldS t n b).length ≤ 65524) : readS (formS t n b ++ R) = some ⟨t, n, (formS t n b).length / 64, b⟩ := by
  have hb : b.length < 18446744073709551616 := by
    have : b.length ≤ (fldS t n b).length := by simp [fldS]; omega
    omega
  obtain ⟨h1, h2, h3, h4, h5⟩ := fldS_parts t n b ht hn hb
  unfold formS
  rw [laidS_read _ R hf h1 (by rw [h4, h5, List.drop_length]), h2, h3, h4, h5, List.take_length]
/-- Forms one behind the other. -/
def formsS (t : Nat) : Nat → List (List B8) → List B8
  | _, [] => []
  | k, b :: l => formS t k b ++ formsS t (k + 1) l
def secsS (t : Nat) : Nat → List (List B8) → Nat
  | _, [] => 0
  | k, b :: l => (formS t k b).length / 64 + secsS t (k + 1) l
set_option maxRecDepth 100000 in
theorem formS_div (t n : Nat) (b : List B8) : 64 * ((formS t n b).length / 64) = (formS t n b).length := by have := laidS_div (fldS t n b); unfold formS; omega
set_option maxRecDepth 100000 in
theorem formsS_len (t : Nat) : ∀ (l : List (List B8)) (k : Nat), (formsS t k l).length = 64 * secsS t k l
  | [], k => rfl
  | b :: l, k => by rw [formsS, secsS, List.length_append, formsS_len t l (k + 1), Nat.mul_add, formS_div]
set_option maxRecDepth 100000 in
theorem formsS_append (t : Nat) : ∀ (l m : List (List B8)) (k : Nat), formsS t k (l ++ m) = formsS t k l ++ formsS t (k + l.length) m
  | [], m, k => rfl
  | b :: l, m, k => by
    rw [List.cons_append, formsS, formsS, formsS_append t l m (k + 1), List.append_assoc, List.length_cons]
    congr 2
    rw [show k + 1 + l.length = k + (l.length + 1) by omega]
set_option maxRecDepth 100000 in
theorem secsS_append (t : Nat) : ∀ (l m : List (List B8)) (k : Nat), secsS t k (l ++ m) = secsS t k l + secsS t (k + l.length) m
  | [], m, k => by simp [secsS]
  | b :: l, m, k => by
    rw [List.cons_append, secsS, secsS, secsS_append t l m (k + 1), List.length_cons, show k + 1 + l.length = k + (l.length + 1) by omega]; omega
set_option maxRecDepth 100000 in
theorem scan_forms (t : Nat) (ht : t ≤ mostS) (R : List B8) : ∀ (l : List (List B8)) (k : Nat), k + l.length ≤ mostS + 1 → (∀ i (h : i < l.length), (fldS t (k + i) l[i]).length ≤ 65524) →
    scanN (formsS t k l ++ R) t k = (l ++ (scanN R t (k + l.length)).1, secsS t k l + (scanN R t (k + l.length)).2)
  | [], k, _, _ => by simp [formsS, secsS]
  | b :: l, k, hk, hf => by
    rw [List.length_cons] at hk
    have h0 := hf 0 (by simp)
    have hr := form_read t k b (formsS t (k + 1) l ++ R) ht (by omega) h0
    rw [formsS, List.append_assoc]
    have h1 := scanN_some hr
    simp only at h1
    rw [h1, formS_div, List.drop_left, scan_forms t ht R l (k + 1) (by omega) (fun i hi => by
      have := hf (i + 1) (by simp; omega)
      rw [show k + 1 + i = k + (i + 1) by omega]
      simpa using this)]
    rw [List.length_cons, show k + 1 + l.length = k + (l.length + 1) by omega, secsS]
    simp [Nat.add_assoc]
set_option maxRecDepth 100000 in
/-- A scan ends within the bytes. -/
theorem scanN_le (t : Nat) : ∀ (m : Nat) (l : List B8) (k : Nat), l.length ≤ m → 64 * (scanN l t k).2 ≤ l.length
  | m, l, k, h => by
    induction m generalizing l k with
    | zero =>
      rw [scanN_none]
      · simp
      · unfold readS; rw [if_pos (.inl (by omega))]
    | succ m ih =>
      cases hr : readS l with
      | none => rw [scanN_none hr]; simp
      | some r =>
        obtain ⟨h1, h2, h3⟩ := readS_size hr
        by_cases hn : r.t ≠ t ∨ r.n ≠ k
        · rw [scanN_other hr hn]; simp
        · rw [scanN_step, hr]
          simp only
          rw [if_neg hn]
          have := ih (l.drop (64 * r.size)) (k + 1) (by rw [List.length_drop]; omega)
          rw [List.length_drop] at this
          simp only
          omega
set_option maxRecDepth 100000 in
/-- Zeros are no record. -/
theorem zeros_none (m : Nat) : readS (zeros m) = none := by
  unfold readS
  split
  · rfl
  · rename_i h
    split
    · rfl
    · split
      · rfl
      · rw [if_pos]
        left
        have e : lenS (zeros m) = 0 := by
          have : (zeros m).take 4 = zeros 4 := by
            unfold zeros
            rw [List.take_replicate, Nat.min_eq_left (by simp only [zeros, List.length_replicate] at h; omega)]
          unfold lenS
          rw [this]; rfl
        have eb : bodyS (zeros m) = [] := by unfold bodyS; rw [e, List.take_zero]
        rw [eb]
        decide
end
end Go.Proofs.YtajdcekkmikbcaaDoor
