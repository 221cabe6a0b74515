/- Plain facts on IEEE words of 64 bits: how two of them are ordered, by their rungs; the key by which the document orders rates. No program in sight. -/
import Derived.Laws.FloatBits
namespace Go.Proofs.Ytbnplhdelpbfdaa.Flt
open Ieee

def B : Nat := 4503599627370496
def S : Nat := 9223372036854775808
def I : Nat := 9218868437227405312

theorem hB : double.binade = B := by decide +kernel
theorem hS : double.signWeight = S := by decide +kernel
theorem hI : double.infRung = I := by decide +kernel
theorem hL : double.leastPlace = -1074 := by decide +kernel
theorem B52 : B = 2 ^ 52 := by decide +kernel
theorem hF : double.fractionBits = 52 := rfl

/-- the significand and the exponent of a rung -/
def mant (r : Nat) : Nat := if r < B then r else B + r % B
def ex (r : Nat) : Nat := r / B - 1
def V (r : Nat) : Nat := mant r * 2 ^ ex r
def nan (a : Nat) : Prop := I < a % S
instance (a : Nat) : Decidable (nan a) := by unfold nan; infer_instance
def isNeg (a : Nat) : Bool := a / S % 2 == 1

theorem Bpos : 0 < B := by unfold B; omega

theorem read_fin {a : Nat} (h : a % S < I) :
    double.read a = .number (isNeg a) (mant (a % S)) (-1074 + (ex (a % S) : Nat)) := by
  unfold Format.read isNeg mant ex
  simp only [hB, hS, hI, hL]
  by_cases h1 : a % S < B
  · have h2 : a % S / B = 0 := Nat.div_eq_of_lt h1
    simp [h1, h2]
  · simp [h1, h]

theorem read_inf {a : Nat} (h : a % S = I) : double.read a = .infinity (isNeg a) := by
  unfold Format.read isNeg
  simp only [hB, hS, hI, hL, h]
  have h1 : ¬ I < B := by unfold I B; omega
  simp [h1]

theorem read_nan {a : Nat} (h : nan a) : ∃ s t, double.read a = .nan s t := by
  unfold nan at h
  unfold Format.read
  simp only [hB, hS, hI, hL]
  have h1 : ¬ a % S < B := by have : B ≤ I := by unfold I B; omega
                              omega
  have h2 : ¬ a % S < I := by omega
  have h3 : ¬ a % S = I := by omega
  simp [h1, h2, h3]

theorem V_succ (r : Nat) : V r < V (r + 1) := by
  unfold V mant ex
  have hb := Bpos
  by_cases h1 : r + 1 < B
  · have e1 : r / B = 0 := Nat.div_eq_of_lt (by omega)
    have e2 : (r + 1) / B = 0 := Nat.div_eq_of_lt h1
    have h3 : r < B := by omega
    simp only [h1, h3, if_true, e1, e2]
    omega
  · by_cases h2 : r < B
    · have e0 : r + 1 = B := by omega
      have e1 : r / B = 0 := Nat.div_eq_of_lt h2
      simp only [h2, if_true, e1, e0, Nat.lt_irrefl, if_false, Nat.mod_self, Nat.div_self hb]
      simp; omega
    · simp only [h1, h2, if_false]
      have dm := Nat.div_add_mod r B
      have ml := Nat.mod_lt r hb
      have q1 : 1 ≤ r / B := (Nat.le_div_iff_mul_le hb).2 (by omega)
      by_cases h3 : r % B + 1 = B
      · have e1 : (r + 1) % B = 0 := by
          have : r + 1 = B * (r / B + 1) := by rw [Nat.mul_add]; omega
          rw [this]; exact Nat.mul_mod_right ..
        have e2 : (r + 1) / B = r / B + 1 := by
          have : r + 1 = B * (r / B + 1) := by rw [Nat.mul_add]; omega
          rw [this]; exact Nat.mul_div_right _ hb
        rw [e1, e2]
        have e3 : r / B + 1 - 1 = (r / B - 1) + 1 := by omega
        rw [e3, Nat.pow_succ]
        have hp : 0 < 2 ^ (r / B - 1) := Nat.two_pow_pos _
        generalize 2 ^ (r / B - 1) = p at *
        have : (B + r % B) * p < (2 * B) * p := Nat.mul_lt_mul_of_pos_right (by omega) hp
        calc (B + r % B) * p < (2 * B) * p := this
          _ = (B + 0) * (p * 2) := by rw [Nat.add_zero, Nat.mul_comm 2 B, Nat.mul_assoc, Nat.mul_comm 2 p]
      · have e1 : (r + 1) % B = r % B + 1 := by
          have : r + 1 = (r % B + 1) + B * (r / B) := by omega
          rw [this, Nat.add_mul_mod_self_left, Nat.mod_eq_of_lt (by omega)]
        have e2 : (r + 1) / B = r / B := by
          have : r + 1 = (r % B + 1) + B * (r / B) := by omega
          rw [this, Nat.add_mul_div_left _ _ hb, Nat.div_eq_of_lt (by omega)]; omega
        rw [e1, e2]
        exact Nat.mul_lt_mul_of_pos_right (by omega) (Nat.two_pow_pos _)

theorem V_lt {r s : Nat} (h : r < s) : V r < V s := by
  induction s with
  | zero => omega
  | succ s ih =>
    by_cases e : r = s
    · subst e; exact V_succ r
    · exact Nat.lt_trans (ih (by omega)) (V_succ s)
theorem V_le {r s : Nat} (h : r ≤ s) : V r ≤ V s := by
  rcases Nat.lt_or_eq_of_le h with h | h
  · exact Nat.le_of_lt (V_lt h)
  · rw [h]; exact Nat.le_refl _

/-- the signed rung -/
def sr (a : Nat) : Int := if isNeg a then -((a % S : Nat) : Int) else (a % S : Nat)
def sv (s : Bool) (v : Nat) : Int := if s then -(v : Int) else v

theorem signed_eq (s : Bool) (m k : Nat) : signed s m k = sv s (m * 2 ^ k) := by
  unfold signed sv; rw [Nat.shiftLeft_eq]

theorem sv_mul (s : Bool) (m c : Nat) : sv s (m * c) = sv s m * c := by
  unfold sv; split
  · rw [Int.natCast_mul, Int.neg_mul]
  · rw [Int.natCast_mul]

theorem cmp_mul (x y : Int) (c : Nat) (hc : 0 < c) : compare (x * c) (y * c) = compare x y := by
  have h : (0 : Int) < c := by omega
  show compareOfLessAndEq _ _ = compareOfLessAndEq _ _
  unfold compareOfLessAndEq
  have e1 : (x * c < y * c) ↔ x < y := Int.mul_lt_mul_right h
  have e2 : (x * c = y * c) ↔ x = y := Int.mul_eq_mul_right_iff (by omega)
  simp only [e1, e2]

theorem cmp_congr {x y x' y' : Int} (h1 : x < y ↔ x' < y') (h2 : x = y ↔ x' = y') : compare x y = compare x' y' := by
  show compareOfLessAndEq _ _ = compareOfLessAndEq _ _
  unfold compareOfLessAndEq
  simp only [h1, h2]

theorem cmp_sv (s t : Bool) {r r' : Nat} : compare (sv s (V r)) (sv t (V r')) = compare (sv s r) (sv t r') := by
  have v0 : V 0 = 0 := by unfold V mant; simp [Bpos]
  have p1 : r = 0 ∨ (0 < r ∧ 0 < V r) := by
    rcases Nat.eq_zero_or_pos r with h | h
    · exact .inl h
    · exact .inr ⟨h, by have := V_lt h; omega⟩
  have p2 : r' = 0 ∨ (0 < r' ∧ 0 < V r') := by
    rcases Nat.eq_zero_or_pos r' with h | h
    · exact .inl h
    · exact .inr ⟨h, by have := V_lt h; omega⟩
  have p3 : (r < r' ∧ V r < V r') ∨ (r = r' ∧ V r = V r') ∨ (r' < r ∧ V r' < V r) := by
    rcases Nat.lt_trichotomy r r' with h | h | h
    · exact .inl ⟨h, V_lt h⟩
    · exact .inr (.inl ⟨h, by rw [h]⟩)
    · exact .inr (.inr ⟨h, V_lt h⟩)
  have q1 : r = 0 → V r = 0 := by intro h; rw [h]; exact v0
  have q2 : r' = 0 → V r' = 0 := by intro h; rw [h]; exact v0
  generalize V r = x at *
  generalize V r' = y at *
  unfold sv
  apply cmp_congr <;> (cases s <;> cases t <;> simp only [if_true, if_false, Bool.false_eq_true] <;> omega)

theorem order_fin {a b : Nat} (ha : a % S < I) (hb : b % S < I) : double.order a b = some (compare (sr a) (sr b)) := by
  unfold Format.order
  rw [read_fin ha, read_fin hb]
  simp only [Datum.order]
  congr 1
  rw [signed_eq, signed_eq]
  have e := cmp_sv (isNeg a) (isNeg b) (r := a % S) (r' := b % S)
  show _ = compare (sv (isNeg a) (a % S)) (sv (isNeg b) (b % S))
  rw [← e]
  unfold V
  generalize ex (a % S) = i
  generalize ex (b % S) = j
  have hp : 0 < 2 ^ min i j := Nat.two_pow_pos _
  rw [← cmp_mul _ _ (2 ^ min i j) hp, ← sv_mul, ← sv_mul, Nat.mul_assoc, Nat.mul_assoc, ← Nat.pow_add, ← Nat.pow_add]
  congr 4 <;> omega
theorem order_nan {a b : Nat} (h : nan a ∨ nan b) : double.order a b = none := by
  unfold Format.order
  rcases h with h | h
  · obtain ⟨s, t, e⟩ := read_nan h
    rw [e]; cases double.read b <;> rfl
  · obtain ⟨s, t, e⟩ := read_nan h
    rw [e]; cases double.read a <;> rfl

theorem order_some {a b : Nat} (ha : ¬ nan a) (hb : ¬ nan b) : double.order a b = some (compare (sr a) (sr b)) := by
  unfold nan at ha hb
  by_cases h1 : a % S < I
  · by_cases h2 : b % S < I
    · exact order_fin h1 h2
    · have h2' : b % S = I := by omega
      unfold Format.order
      rw [read_fin h1, read_inf h2']
      simp only [Datum.order, sr, h2']
      congr 1
      show _ = compareOfLessAndEq _ _
      unfold compareOfLessAndEq
      cases isNeg a <;> cases isNeg b <;> simp only [if_true, if_false, Bool.false_eq_true]
      · rw [if_pos (by omega)]
      · rw [if_neg (by omega), if_neg (by omega)]
      · rw [if_pos (by omega)]
      · rw [if_neg (by omega), if_neg (by omega)]
  · have h1' : a % S = I := by omega
    by_cases h2 : b % S < I
    · unfold Format.order
      rw [read_inf h1', read_fin h2]
      simp only [Datum.order, sr, h1']
      congr 1
      show _ = compareOfLessAndEq _ _
      unfold compareOfLessAndEq
      cases isNeg a <;> cases isNeg b <;> simp only [if_true, if_false, Bool.false_eq_true]
      · rw [if_neg (by omega), if_neg (by omega)]
      · rw [if_neg (by omega), if_neg (by omega)]
      · rw [if_pos (by omega)]
      · rw [if_pos (by omega)]
    · have h2' : b % S = I := by omega
      unfold Format.order
      rw [read_inf h1', read_inf h2']
      simp only [Datum.order, sr, h1', h2']
      have hI0 : (0 : Int) < (I : Nat) := by unfold I; omega
      generalize ((I : Nat) : Int) = z at hI0
      congr 1
      show _ = compareOfLessAndEq _ _
      unfold compareOfLessAndEq
      cases isNeg a <;> cases isNeg b <;> simp only [if_true, if_false, Bool.false_eq_true]
      · rw [if_neg (by omega)]; rfl
      · rw [if_neg (by omega), if_neg (by omega)]; rfl
      · rw [if_pos (by omega)]; rfl
      · rw [if_neg (by omega)]; rfl

theorem cmp_lt {x y : Int} : (compare x y == .lt) = decide (x < y) := by
  show (compareOfLessAndEq _ _ == _) = _
  unfold compareOfLessAndEq
  by_cases h : x < y
  · simp [h]
  · by_cases h2 : x = y <;> simp [h, h2]
theorem cmp_eq {x y : Int} : (compare x y == .eq) = decide (x = y) := by
  show (compareOfLessAndEq _ _ == _) = _
  unfold compareOfLessAndEq
  by_cases h : x < y
  · have : ¬ x = y := by omega
    simp [h, this]
  · by_cases h2 : x = y <;> simp [h, h2]
theorem cmp_gt {x y : Int} : (compare x y == .gt) = decide (y < x) := by
  show (compareOfLessAndEq _ _ == _) = _
  unfold compareOfLessAndEq
  by_cases h : x < y
  · have : ¬ y < x := by omega
    simp [h, this]
  · by_cases h2 : x = y
    · simp [h2]
    · have : y < x := by omega
      simp [h, h2, this]

/-- what the walk's tests on floats say -/
theorem lt_some {a b : Nat} (ha : ¬ nan a) (hb : ¬ nan b) : (double.order a b == some .lt) = decide (sr a < sr b) := by
  rw [order_some ha hb, ← cmp_lt]; rfl
theorem eq_some {a b : Nat} (ha : ¬ nan a) (hb : ¬ nan b) : (double.order a b == some .eq) = decide (sr a = sr b) := by
  rw [order_some ha hb, ← cmp_eq]; rfl
theorem gt_some {a b : Nat} (ha : ¬ nan a) (hb : ¬ nan b) : (double.order a b == some .gt) = decide (sr b < sr a) := by
  rw [order_some ha hb, ← cmp_gt]; rfl
theorem self_eq (a : Nat) : (double.order a a == some .eq) = !decide (nan a) := by
  by_cases h : nan a
  · rw [order_nan (.inl h)]; simp [h]
  · rw [eq_some h h]; simp [h]

def key (a : Nat) : Nat := if nan a then 0 else if S ≤ a then 1 + (18446744073709551615 - a) else 1 + (a + S)

theorem isNeg_iff {a : Nat} (h : a < 18446744073709551616) : isNeg a = decide (S ≤ a) := by
  unfold isNeg S
  by_cases h1 : 9223372036854775808 ≤ a
  · have : a / 9223372036854775808 = 1 := by omega
    simp [this, h1]
  · have : a / 9223372036854775808 = 0 := by omega
    simp [this, h1]

def lessB (a b : Nat) : Bool := decide (key a < key b)

/-- the code's own 'less' -/
theorem less_nan {a b : Nat} (h : nan a ∨ nan b) : lessB a b = (decide (nan a) && !decide (nan b)) := by
  unfold lessB key
  by_cases h1 : nan a
  · by_cases h2 : nan b
    · simp [h1, h2]
    · simp only [h1, h2, if_true, if_false]
      have : 0 < (if S ≤ b then 1 + (18446744073709551615 - b) else 1 + (b + S)) := by split <;> omega
      simp [this]
  · have h2 : nan b := by rcases h with h | h; exact absurd h h1; exact h
    simp [h1, h2]

theorem sr_eq {a : Nat} (h : a < 18446744073709551616) : sr a = if S ≤ a then (S : Int) - a else a := by
  unfold sr
  rw [isNeg_iff h]
  unfold S
  by_cases h1 : 9223372036854775808 ≤ a
  · simp only [h1, decide_true, if_true]; omega
  · simp only [h1, decide_false, if_false, Bool.false_eq_true]; omega

theorem less_zero {a b : Nat} (wa : a < 18446744073709551616) (wb : b < 18446744073709551616) (ha : ¬ nan a) (hb : ¬ nan b) (h1 : sr a = 0) (h2 : sr b = 0) :
    lessB a b = (decide (S ≤ a) && !decide (S ≤ b)) := by
  rw [sr_eq wa] at h1
  rw [sr_eq wb] at h2
  unfold lessB key
  simp only [ha, hb, if_false]
  unfold S at *
  rw [Bool.eq_iff_iff]
  simp
  split at h1 <;> split at h2 <;> simp [*] <;> omega

theorem less_else {a b : Nat} (wa : a < 18446744073709551616) (wb : b < 18446744073709551616) (ha : ¬ nan a) (hb : ¬ nan b) (h : ¬ (sr a = 0 ∧ sr b = 0)) :
    lessB a b = decide (sr a < sr b) := by
  rw [sr_eq wa, sr_eq wb] at *
  unfold lessB key
  simp only [ha, hb, if_false]
  unfold S at *
  rw [decide_eq_decide]
  split <;> split <;> simp_all <;> omega

def cmpI (a b : Nat) : Int := if key a < key b then -1 else if key b < key a then 1 else 0
theorem cmp_antisym (a b : Nat) : cmpI a b = -cmpI b a := by unfold cmpI; split <;> split <;> omega
theorem cmp_self (a : Nat) : cmpI a a = 0 := by unfold cmpI; simp
end Go.Proofs.Ytbnplhdelpbfdaa.Flt
