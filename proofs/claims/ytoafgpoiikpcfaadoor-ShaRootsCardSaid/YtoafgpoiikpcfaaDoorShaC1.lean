/- Numbers as lists of digits of 16 bits: their value, a digit set, a product digit by digit, two compared from the top. No program is named here. -/
import Derived.Test.YtoafgpoiikpcfaaDoorShaC0
set_option linter.unusedVariables false
namespace Go.Proofs.YtoafgpoiikpcfaaDoor
def valL : List Nat → Nat
  | [] => 0
  | d :: l => d + 65536 * valL l
theorem valL_append (a b : List Nat) : valL (a ++ b) = valL a + 65536 ^ a.length * valL b := by
  induction a with
  | nil => simp [valL]
  | cons d l ih =>
    simp only [List.cons_append, valL, ih, List.length_cons, Nat.pow_succ]
    rw [Nat.mul_add, Nat.mul_comm (65536 ^ l.length) 65536, Nat.mul_assoc, Nat.add_assoc]
theorem valL_lt (l : List Nat) (h : ∀ d ∈ l, d < 65536) : valL l < 65536 ^ l.length := by
  induction l with
  | nil => simp [valL]
  | cons d l ih =>
    have h1 := h d (by simp)
    have h2 := ih (fun x hx => h x (by simp [hx]))
    simp only [valL, List.length_cons, Nat.pow_succ]
    omega
theorem valL_zeros (n : Nat) : valL (List.replicate n 0) = 0 := by
  induction n with
  | zero => rfl
  | succ n ih => simp [List.replicate_succ, valL, ih]
theorem valL_set : ∀ (l : List Nat) (j d : Nat), j < l.length → valL (l.set j d) + l.getD j 0 * 65536 ^ j = valL l + d * 65536 ^ j
  | [], j, d, h => by simp at h
  | x :: l, 0, d, h => by simp [valL]; omega
  | x :: l, j + 1, d, h => by
    have ih := valL_set l j d (by simpa using h)
    simp only [List.set_cons_succ, valL, List.getD_cons_succ, Nat.pow_succ]
    have e1 : l.getD j 0 * (65536 ^ j * 65536) = 65536 * (l.getD j 0 * 65536 ^ j) := by rw [← Nat.mul_assoc, Nat.mul_comm]
    have e2 : d * (65536 ^ j * 65536) = 65536 * (d * 65536 ^ j) := by rw [← Nat.mul_assoc, Nat.mul_comm]
    rw [e1, e2]
    omega
theorem valL_split (l : List Nat) (n : Nat) : valL l = valL (l.take n) + 65536 ^ (l.take n).length * valL (l.drop n) := by
  conv => lhs; rw [← List.take_append_drop n l]
  exact valL_append _ _
theorem valL_take_succ (l : List Nat) (k : Nat) (h : k < l.length) : valL (l.take (k + 1)) = valL (l.take k) + l.getD k 0 * 65536 ^ k := by
  rw [List.take_succ_eq_append_getElem h, valL_append]
  have : (l.take k).length = k := by simp; omega
  rw [this, List.getD_eq_getElem?_getD, List.getElem?_eq_getElem h]
  simp [valL, Nat.mul_comm]
/-- The four digits of a number. -/
def digL (x : Nat) : List Nat := [x % 65536, x / 65536 % 65536, x / 65536 / 65536 % 65536, x / 65536 / 65536 / 65536 % 65536]
theorem digL_val (x : Nat) (h : x < 18446744073709551616) : valL (digL x) = x := by simp [digL, valL]; omega
theorem digL_lt (x : Nat) : ∀ d ∈ digL x, d < 65536 := by
  intro d hd
  simp only [digL, List.mem_cons, List.not_mem_nil, or_false] at hd
  rcases hd with rfl | rfl | rfl | rfl <;> exact Nat.mod_lt _ (by decide)
/-- Where a product stands: row i, digit k; c is carried. -/
structure Mul (a b o : List Nat) (i k c : Nat) : Prop where
  len : o.length = a.length + b.length
  dig : ∀ d ∈ o, d < 65536
  car : c < 65536
  val : valL o + c * 65536 ^ (i + k) = valL (a.take i) * valL b + (a.getD i 0 * valL (b.take k)) * 65536 ^ i
  zero : ∀ j, i + b.length ≤ j → o.getD j 0 = 0
theorem getD_lt16 {l : List Nat} (h : ∀ d ∈ l, d < 65536) (j : Nat) : l.getD j 0 < 65536 := by
  rw [List.getD_eq_getElem?_getD]
  cases hj : l[j]? with
  | none => simp
  | some d => exact h d (List.mem_of_getElem? hj)
theorem set_lt16 {l : List Nat} (h : ∀ d ∈ l, d < 65536) (j x : Nat) (hx : x < 65536) : ∀ d ∈ l.set j x, d < 65536 := fun d hd => by
  rcases List.mem_or_eq_of_mem_set hd with h1 | h1
  · exact h d h1
  · omega
theorem prod_lt {x y : Nat} (hx : x < 65536) (hy : y < 65536) : x * y ≤ 4294836225 := Nat.le_trans (Nat.mul_le_mul (Nat.le_of_lt_succ hx) (Nat.le_of_lt_succ hy)) (by decide)
theorem Mul.step {a b o : List Nat} {i k c : Nat} (h : Mul a b o i k c) (hb : ∀ d ∈ b, d < 65536) (ha : ∀ d ∈ a, d < 65536) (hi : i < a.length) (hk : k < b.length) :
    Mul a b (o.set (i + k) ((o.getD (i + k) 0 + a.getD i 0 * b.getD k 0 + c) % 65536)) i (k + 1) ((o.getD (i + k) 0 + a.getD i 0 * b.getD k 0 + c) / 65536) := by
  have h1 := getD_lt16 h.dig (i + k)
  have h2 := prod_lt (getD_lt16 ha i) (getD_lt16 hb k)
  have h3 := h.car
  refine ⟨by rw [List.length_set]; exact h.len, set_lt16 h.dig _ _ (Nat.mod_lt _ (by decide)), by omega, ?_, fun j hj => ?_⟩
  · have hs := valL_set o (i + k) ((o.getD (i + k) 0 + a.getD i 0 * b.getD k 0 + c) % 65536) (by rw [h.len]; omega)
    rw [valL_take_succ b k hk]
    have hv := h.val
    have e1 : a.getD i 0 * (valL (b.take k) + b.getD k 0 * 65536 ^ k) * 65536 ^ i = a.getD i 0 * valL (b.take k) * 65536 ^ i + (a.getD i 0 * b.getD k 0) * 65536 ^ (i + k) := by
      rw [Nat.mul_add, Nat.add_mul, Nat.pow_add, ← Nat.mul_assoc, Nat.mul_assoc _ (65536 ^ k) (65536 ^ i), Nat.mul_comm (65536 ^ k) (65536 ^ i)]
    rw [e1]
    have e2 : 65536 ^ (i + (k + 1)) = 65536 ^ (i + k) * 65536 := by rw [← Nat.add_assoc, Nat.pow_succ]
    rw [e2]
    generalize 65536 ^ (i + k) = P at *
    generalize a.getD i 0 * b.getD k 0 = m at *
    generalize o.getD (i + k) 0 = x at *
    generalize valL (o.set (i + k) ((x + m + c) % 65536)) = V' at *
    generalize a.getD i 0 * valL (b.take k) * 65536 ^ i = Z at *
    have e3 : (x + m + c) / 65536 * (P * 65536) + (x + m + c) % 65536 * P = (x + m + c) * P := by
      rw [Nat.mul_comm P 65536, ← Nat.mul_assoc, ← Nat.add_mul]
      have e5 : (x + m + c) / 65536 * 65536 + (x + m + c) % 65536 = x + m + c := by omega
      rw [e5]
    have e4 : (x + m + c) * P = x * P + m * P + c * P := by rw [Nat.add_mul, Nat.add_mul]
    omega
  · rw [List.getD_eq_getElem?_getD, List.getElem?_set_ne (by omega), ← List.getD_eq_getElem?_getD]
    exact h.zero j hj
theorem Mul.row {a b o : List Nat} {i c : Nat} (h : Mul a b o i b.length c) (hi : i < a.length) : Mul a b (o.set (i + b.length) c) (i + 1) 0 0 := by
  refine ⟨by rw [List.length_set]; exact h.len, set_lt16 h.dig _ _ h.car, by decide, ?_, fun j hj => ?_⟩
  · have hs := valL_set o (i + b.length) c (by rw [h.len]; omega)
    have hz := h.zero (i + b.length) (Nat.le_refl _)
    have hv := h.val
    rw [List.take_of_length_le (Nat.le_refl _)] at hv
    rw [hz] at hs
    rw [valL_take_succ a i hi]
    simp only [List.take_zero, valL, Nat.mul_zero, Nat.zero_mul, Nat.add_zero] at hs ⊢
    rw [hs, hv, Nat.add_mul]
    congr 1
    rw [Nat.mul_assoc, Nat.mul_assoc, Nat.mul_comm (valL b)]
  · rw [List.getD_eq_getElem?_getD, List.getElem?_set_ne (by omega), ← List.getD_eq_getElem?_getD]
    exact h.zero j (by omega)
theorem Mul.start (a b : List Nat) : Mul a b (List.replicate (a.length + b.length) 0) 0 0 0 := by
  refine ⟨by simp, fun d hd => by rw [List.eq_of_mem_replicate hd]; decide, by decide, ?_, fun j _ => ?_⟩
  · rw [valL_zeros]; simp [valL]
  · rw [List.getD_eq_getElem?_getD, List.getElem?_replicate]
    split <;> rfl
theorem Mul.done {a b o : List Nat} (h : Mul a b o a.length 0 0) : valL o = valL a * valL b := by
  have := h.val
  rw [List.take_of_length_le (Nat.le_refl _)] at this
  simpa [valL] using this
/-- The first n digits' value, 0 beyond. -/
def dsum (l : List Nat) : Nat → Nat
  | 0 => 0
  | n + 1 => dsum l n + l.getD n 0 * 65536 ^ n
theorem dsum_take (l : List Nat) (n : Nat) : dsum l n = valL (l.take n) := by
  induction n with
  | zero => rfl
  | succ n ih =>
    by_cases h : n < l.length
    · rw [valL_take_succ l n h, dsum, ih]
    · rw [dsum, ih, List.take_of_length_le (by omega), List.take_of_length_le (by omega), List.getD_eq_getElem?_getD, List.getElem?_eq_none (by omega)]
      simp
theorem dsum_all {l : List Nat} {n : Nat} (h : l.length ≤ n) : dsum l n = valL l := by rw [dsum_take, List.take_of_length_le h]
theorem dsum_lt (l : List Nat) (h : ∀ d ∈ l, d < 65536) (n : Nat) : dsum l n < 65536 ^ n := by
  induction n with
  | zero => simp [dsum]
  | succ n ih =>
    have h1 := getD_lt16 h n
    have h2 : l.getD n 0 * 65536 ^ n ≤ 65535 * 65536 ^ n := Nat.mul_le_mul_right _ (by omega)
    rw [dsum, Nat.pow_succ]
    omega
/-- Two numbers compared from the top. -/
theorem cmp_top (v w : List Nat) (hv : ∀ d ∈ v, d < 65536) (i n : Nat) (hi : i < n) (h : ∀ j, i < j → j < n → v.getD j 0 = w.getD j 0) (hlt : v.getD i 0 < w.getD i 0) : dsum v n < dsum w n := by
  induction n with
  | zero => omega
  | succ n ih =>
    by_cases hin : i = n
    · subst hin
      have h1 := dsum_lt v hv i
      have h2 : (v.getD i 0 + 1) * 65536 ^ i ≤ w.getD i 0 * 65536 ^ i := Nat.mul_le_mul_right _ hlt
      rw [Nat.add_mul, Nat.one_mul] at h2
      rw [dsum, dsum]
      omega
    · have := ih (by omega) (fun j h1 h2 => h j h1 (by omega))
      rw [dsum, dsum, h n (by omega) (by omega)]
      omega
theorem cmp_eq (v w : List Nat) (n : Nat) (h : ∀ j, j < n → v.getD j 0 = w.getD j 0) : dsum v n = dsum w n := by
  induction n with
  | zero => rfl
  | succ n ih => rw [dsum, dsum, ih (fun j hj => h j (by omega)), h n (by omega)]
end Go.Proofs.YtoafgpoiikpcfaaDoor
