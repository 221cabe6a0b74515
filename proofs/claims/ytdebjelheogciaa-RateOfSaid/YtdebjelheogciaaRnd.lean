/- Plain facts on rounding to words of 64 bits: a number's nearest word, and a quotient's, are monotone. No program in sight. -/
import Derived.Test.YtdebjelheogciaaFlt
namespace Go.Proofs.Ytdebjelheogciaa.Rnd
open Ieee Flt

/-- how many binary digits of W (a number of half units of the least place) are cut off, but for one -/
def d (W : Nat) : Nat := Nat.log2 W - 53
def low (W : Nat) : Nat := W / 2 ^ (d W + 1)
def rest (W : Nat) : Nat := W % 2 ^ (d W + 1)
def up (W : Nat) : Bool := decide (2 ^ (d W + 1) < 2 * rest W) || (2 ^ (d W + 1) == 2 * rest W && low W % 2 == 1)
def core (W : Nat) : Nat := d W * B + (low W + (up W).toNat)
def R (W : Nat) : Nat := min (core W) I

theorem pow53 : (2 : Nat) ^ 53 = 2 * B := by decide +kernel
theorem pow52 : (2 : Nat) ^ 52 = B := by decide +kernel

theorem low_lt (W : Nat) : low W < 2 * B := by
  unfold low d
  rw [Nat.div_lt_iff_lt_mul (Nat.two_pow_pos _), ← pow53, ← Nat.pow_add]
  exact Nat.lt_of_lt_of_le Nat.lt_log2_self (Nat.pow_le_pow_right (by omega) (by omega))

theorem low_ge (W : Nat) (h : 0 < d W) : B ≤ low W := by
  unfold low
  unfold d at h ⊢
  rw [Nat.le_div_iff_mul_le (Nat.two_pow_pos _), ← pow52, ← Nat.pow_add]
  have h0 : W ≠ 0 := by intro e; subst e; simp at h
  have : 52 + (Nat.log2 W - 53 + 1) = Nat.log2 W := by omega
  rw [this]
  exact Nat.log2_self_le h0

theorem log2_mono {a b : Nat} (h : a ≤ b) : Nat.log2 a ≤ Nat.log2 b := by
  by_cases ha : a = 0
  · subst ha; simp
  · have hb : b ≠ 0 := by omega
    exact (Nat.le_log2 hb).2 (Nat.le_trans (Nat.log2_self_le ha) h)

theorem core_mono {W W' : Nat} (h : W ≤ W') : core W ≤ core W' := by
  have hd : d W ≤ d W' := by unfold d; have := log2_mono h; omega
  rcases Nat.lt_or_eq_of_le hd with hd | hd
  · have h1 := low_lt W
    have h2 := low_ge W' (by omega)
    have h3 : (up W).toNat ≤ 1 := by cases up W <;> simp
    unfold core
    have h4 : (d W + 1) * B ≤ d W' * B := Nat.mul_le_mul_right _ hd
    rw [Nat.add_mul] at h4
    omega
  · have hl : low W ≤ low W' := by unfold low; rw [hd]; exact Nat.div_le_div_right h
    rcases Nat.lt_or_eq_of_le hl with hl | hl
    · have h3 : (up W).toNat ≤ 1 := by cases up W <;> simp
      unfold core
      rw [hd]; omega
    · have hr : rest W ≤ rest W' := by
        have e1 := Nat.div_add_mod W (2 ^ (d W + 1))
        have e2 := Nat.div_add_mod W' (2 ^ (d W' + 1))
        unfold rest
        unfold low at hl
        rw [← hl, ← hd] at e2
        rw [← hd]
        omega
      have hu : (up W).toNat ≤ (up W').toNat := by
        cases e : up W
        · simp
        · have : up W' = true := by
            unfold up at e ⊢
            rw [← hd, ← hl]
            simp only [Bool.or_eq_true, decide_eq_true_eq, Bool.and_eq_true, beq_iff_eq] at e ⊢
            generalize 2 ^ (d W + 1) = g at *
            rcases e with e | e
            · exact .inl (by omega)
            · rcases Nat.lt_or_eq_of_le hr with hr | hr
              · exact .inl (by omega)
              · exact .inr ⟨by omega, e.2⟩
          rw [this]; simp
      unfold core
      rw [hd, hl]; omega

theorem R_mono {W W' : Nat} (h : W ≤ W') : R W ≤ R W' := by
  unfold R; have := core_mono h; omega
theorem R_le (W : Nat) : R W ≤ I := by unfold R; omega

theorem log2_mul_pow {m : Nat} (hm : m ≠ 0) (k : Nat) : Nat.log2 (m * 2 ^ k) = Nat.log2 m + k := by
  have h0 : m * 2 ^ k ≠ 0 := Nat.mul_ne_zero hm (Nat.ne_of_gt (Nat.two_pow_pos _))
  rw [Nat.log2_eq_iff h0]
  constructor
  · rw [Nat.pow_add]; exact Nat.mul_le_mul_right _ (Nat.log2_self_le hm)
  · rw [show Nat.log2 m + k + 1 = (Nat.log2 m + 1) + k by omega, Nat.pow_add]
    exact Nat.mul_lt_mul_of_pos_right Nat.lt_log2_self (Nat.two_pow_pos _)

theorem nearest_eq (m k : Nat) : double.nearest false m (-1074 + (k : Int)) = R (m * 2 ^ (k + 1)) := by
  unfold Format.nearest
  by_cases hm : m = 0
  · subst hm
    simp only [if_true, Nat.zero_mul]
    decide +kernel
  · simp only [hm, if_false, hL, hF, hB, hI]
    have hlog := log2_mul_pow hm (k + 1)
    unfold R core
    have hd : d (m * 2 ^ (k + 1)) = Nat.log2 m + k - 52 := by unfold d; omega
    have hlast : max (-1074 + (k : Int) + (Nat.log2 m : Int) - (52 : Nat)) (-1074) = -1074 + ((d (m * 2 ^ (k + 1)) : Nat) : Int) := by
      rw [hd]; omega
    rw [hlast]
    have e0 : (-1074 + ((d (m * 2 ^ (k + 1)) : Nat) : Int) - -1074).toNat = d (m * 2 ^ (k + 1)) := by omega
    rw [e0]
    unfold Format.word
    simp only [Bool.false_eq_true, if_false]
    congr 2
    generalize hD : d (m * 2 ^ (k + 1)) = D at *
    have e1 : (-1074 + (k : Int) - (-1074 + (D : Int))).toNat = k - D := by omega
    have e2 : (-1074 + (D : Int) - (-1074 + (k : Int))).toNat = D - k := by omega
    rw [e1, e2]
    unfold up low rest
    rw [hD]
    unfold Toward.cut
    simp only [Nat.shiftLeft_eq]
    by_cases hk : D ≤ k
    · have e3 : D - k = 0 := by omega
      have e4 : m * 2 ^ (k + 1) = m * 2 ^ (k - D) * 2 ^ (D + 1) := by
        rw [Nat.mul_assoc, ← Nat.pow_add]; congr 2; omega
      have gp : 0 < 2 ^ (D + 1) := Nat.two_pow_pos _
      rw [e3, e4, Nat.mul_div_cancel _ gp, Nat.mul_mod_left]
      generalize 2 ^ (D + 1) = g at *
      have e5 : ¬ g < 2 * 0 := by omega
      have e6 : (g == 2 * 0) = false := by rw [beq_eq_false_iff_ne]; omega
      simp [Nat.mod_one]
      omega
    · have e3 : k - D = 0 := by omega
      have e4 : min (D - k) (Nat.log2 m + 2) = D - k := by omega
      rw [e3, Nat.pow_zero, Nat.mul_one, e4, Nat.one_mul]
      have e5 : 2 ^ (D + 1) = 2 ^ (D - k) * 2 ^ (k + 1) := by rw [← Nat.pow_add]; congr 1; omega
      have gp : 0 < 2 ^ (k + 1) := Nat.two_pow_pos _
      rw [e5, Nat.mul_div_mul_right _ _ gp, Nat.mul_mod_mul_right]
      generalize 2 ^ (D - k) = g at *
      generalize m % g = r at *
      generalize m / g = l at *
      generalize 2 ^ (k + 1) = c at *
      congr 2
      have h1 : decide (g < 2 * r) = decide (g * c < 2 * (r * c)) := by
        rw [decide_eq_decide, ← Nat.mul_assoc]; exact (Nat.mul_lt_mul_right gp).symm
      have h2 : (g == 2 * r) = (g * c == 2 * (r * c)) := by
        rw [Bool.eq_iff_iff, beq_iff_eq, beq_iff_eq, ← Nat.mul_assoc]; exact (Nat.mul_left_inj (by omega)).symm
      rw [h1, h2]

/-- the quotient's digits, doubled, one more where anything is left over -/
def St (A D : Nat) : Nat := 2 * (A / D) + (A % D != 0).toNat

theorem St_scale (A D c : Nat) (hc : 0 < c) : St (A * c) (D * c) = St A D := by
  unfold St
  rw [Nat.mul_div_mul_right _ _ hc, Nat.mul_mod_mul_right]
  congr 2
  rw [Bool.eq_iff_iff, bne_iff_ne, bne_iff_ne]
  constructor
  · intro h e; rw [e] at h; simp at h
  · intro h e
    rcases Nat.mul_eq_zero.1 e with e | e
    · exact h e
    · omega

theorem St_mono {A D A' D' : Nat} (hD : 0 < D) (hD' : 0 < D') (h : A * D' ≤ A' * D) : St A D ≤ St A' D' := by
  unfold St
  have e1 := Nat.div_add_mod A D
  have e2 := Nat.div_add_mod A' D'
  have m1 := Nat.mod_lt A hD
  have m2 := Nat.mod_lt A' hD'
  have hq : A / D ≤ A' / D' := by
    rw [Nat.le_div_iff_mul_le hD']
    have : A / D * D ≤ A := Nat.div_mul_le_self A D
    have h1 : A / D * D * D' ≤ A' * D := Nat.le_trans (Nat.mul_le_mul_right _ this) h
    have h2 : (A / D * D') * D ≤ A' * D := by rw [Nat.mul_right_comm]; exact h1
    exact Nat.le_of_mul_le_mul_right h2 hD
  have b1 : (A % D != 0).toNat ≤ 1 := by cases (A % D != 0) <;> simp
  rcases Nat.lt_or_eq_of_le hq with hq | hq
  · omega
  · by_cases hr : A % D = 0
    · simp [hr]; omega
    · have hr' : A' % D' ≠ 0 := by
        intro e
        rw [e, ← hq] at e2
        have e3 : A' * D = A / D * (D * D') := by
          rw [← e2, Nat.add_zero, Nat.mul_comm D' (A / D), Nat.mul_assoc, Nat.mul_comm D' D]
        have e4 : A * D' = A / D * (D * D') + A % D * D' := by
          calc A * D' = (D * (A / D) + A % D) * D' := by rw [e1]
            _ = D * (A / D) * D' + A % D * D' := Nat.add_mul ..
            _ = A / D * (D * D') + A % D * D' := by rw [Nat.mul_comm D (A / D), Nat.mul_assoc]
        have : 0 < A % D * D' := Nat.mul_pos (by omega) hD'
        omega
      have t1 : (A % D != 0) = true := by simp [hr]
      have t2 : (A' % D' != 0) = true := by simp [hr']
      rw [t1, t2, hq]; exact Nat.le_refl _

/-- R looks at a number's leading digits, and at whether anything is behind them -/
theorem R_same {F j W : Nat} (hF : 2 ^ 53 ≤ F) (h1 : F * 2 ^ j ≤ W) (h2 : W < (F + 1) * 2 ^ j) :
    R W = min ((Nat.log2 F + j - 53) * B + (F / 2 ^ (Nat.log2 F - 52) +
      (decide (2 ^ (Nat.log2 F - 53) < F % 2 ^ (Nat.log2 F - 52)) || (2 ^ (Nat.log2 F - 53) == F % 2 ^ (Nat.log2 F - 52) && (decide (F * 2 ^ j < W) || F / 2 ^ (Nat.log2 F - 52) % 2 == 1))).toNat)) I := by
  have F0 : F ≠ 0 := by have := Nat.two_pow_pos 53; omega
  have hl53 : 53 ≤ Nat.log2 F := (Nat.le_log2 F0).2 hF
  have W0 : W ≠ 0 := by have : 0 < F * 2 ^ j := Nat.mul_pos (by omega) (Nat.two_pow_pos _); omega
  have hlog : Nat.log2 W = Nat.log2 F + j := by
    rw [Nat.log2_eq_iff W0]
    constructor
    · rw [Nat.pow_add]; exact Nat.le_trans (Nat.mul_le_mul_right _ (Nat.log2_self_le F0)) h1
    · rw [show Nat.log2 F + j + 1 = (Nat.log2 F + 1) + j by omega, Nat.pow_add]
      exact Nat.lt_of_lt_of_le h2 (Nat.mul_le_mul_right _ Nat.lt_log2_self)
  have hd : d W = Nat.log2 F + j - 53 := by unfold d; rw [hlog]
  unfold R core
  rw [hd]
  congr 2
  unfold low up rest low
  rw [hd]
  have e : Nat.log2 F + j - 53 + 1 = (Nat.log2 F - 52) + j := by omega
  rw [e]
  obtain ⟨δ, rfl⟩ : ∃ δ, W = F * 2 ^ j + δ := ⟨W - F * 2 ^ j, by omega⟩
  have hδ : δ < 2 ^ j := by rw [Nat.add_mul] at h2; omega
  have hs : 2 ^ (Nat.log2 F - 52) = 2 * 2 ^ (Nat.log2 F - 53) := by
    rw [show Nat.log2 F - 52 = (Nat.log2 F - 53) + 1 by omega, Nat.pow_succ, Nat.mul_comm]
  have pj : 0 < 2 ^ j := Nat.two_pow_pos _
  have ph : 0 < 2 ^ (Nat.log2 F - 53) := Nat.two_pow_pos _
  have hdm := Nat.div_add_mod F (2 ^ (Nat.log2 F - 52))
  have hml := Nat.mod_lt F (show 0 < 2 ^ (Nat.log2 F - 52) from Nat.two_pow_pos _)
  rw [Nat.pow_add]
  have lowE : (F * 2 ^ j + δ) / (2 ^ (Nat.log2 F - 52) * 2 ^ j) = F / 2 ^ (Nat.log2 F - 52) := by
    rw [Nat.mul_comm (2 ^ (Nat.log2 F - 52)), ← Nat.div_div_eq_div_mul]
    congr 1
    rw [Nat.mul_comm F, Nat.mul_add_div pj, Nat.div_eq_of_lt hδ]; rfl
  have restE : (F * 2 ^ j + δ) % (2 ^ (Nat.log2 F - 52) * 2 ^ j) = F % 2 ^ (Nat.log2 F - 52) * 2 ^ j + δ := by
    have k1 := Nat.div_add_mod (F * 2 ^ j + δ) (2 ^ (Nat.log2 F - 52) * 2 ^ j)
    rw [lowE] at k1
    have k2 : F * 2 ^ j = 2 ^ (Nat.log2 F - 52) * 2 ^ j * (F / 2 ^ (Nat.log2 F - 52)) + F % 2 ^ (Nat.log2 F - 52) * 2 ^ j := by
      calc F * 2 ^ j = (2 ^ (Nat.log2 F - 52) * (F / 2 ^ (Nat.log2 F - 52)) + F % 2 ^ (Nat.log2 F - 52)) * 2 ^ j := by rw [hdm]
        _ = _ := by rw [Nat.add_mul, Nat.mul_right_comm]
    omega
  rw [lowE, restE, hs]
  generalize F / (2 * 2 ^ (Nat.log2 F - 53)) = l at *
  rw [hs] at hml hdm
  generalize F % (2 * 2 ^ (Nat.log2 F - 53)) = r at *
  generalize 2 ^ (Nat.log2 F - 53) = h at *
  generalize 2 ^ j = c at *
  congr 2
  have x1 : 2 * (r * c + δ) = (2 * r) * c + 2 * δ := by rw [Nat.mul_add, Nat.mul_assoc]
  have x2 : F * c < F * c + δ ↔ 0 < δ := by omega
  rw [Bool.eq_iff_iff]
  simp only [Bool.or_eq_true, decide_eq_true_eq, Bool.and_eq_true, beq_iff_eq, x2]
  rcases Nat.lt_trichotomy h r with q | q | q
  · have : (2 * h + 2) * c ≤ (2 * r) * c := Nat.mul_le_mul_right _ (by omega)
    rw [Nat.add_mul] at this
    constructor
    · intro _; exact .inl q
    · intro _; left; rw [x1]; omega
  · subst q
    constructor
    · rintro (p | p)
      · right; exact ⟨rfl, .inl (by rw [x1] at p; omega)⟩
      · right; exact ⟨rfl, .inr p.2⟩
    · rintro (p | ⟨_, p | p⟩)
      · omega
      · left; rw [x1]; omega
      · by_cases z : 0 < δ
        · left; rw [x1]; omega
        · right; exact ⟨by rw [x1]; omega, p⟩
  · have : (2 * r + 2) * c ≤ (2 * h) * c := Nat.mul_le_mul_right _ (by omega)
    rw [Nat.add_mul] at this
    constructor
    · rintro (p | p)
      · rw [x1] at p; omega
      · have := p.1; rw [x1] at this; omega
    · rintro (p | p) <;> omega

theorem R_sticky (A D k : Nat) (hD : 0 < D) (hF : 2 ^ 53 ≤ A / D) : R (St A D * 2 ^ (k + 1)) = R (St (A * 2 ^ (k + 1)) D) := by
  have e1 := Nat.div_add_mod A D
  have m1 := Nat.mod_lt A hD
  have pk : 0 < 2 ^ k := Nat.two_pow_pos _
  have sb : (A % D != 0).toNat ≤ 1 := by cases (A % D != 0) <;> simp
  have p2 : (2 : Nat) ^ (k + 2) = 2 * 2 ^ (k + 1) := by rw [Nat.pow_succ, Nat.mul_comm]
  have p1 : 0 < 2 ^ (k + 1) := Nat.two_pow_pos _
  -- W1
  have a1 : A / D * 2 ^ (k + 2) ≤ St A D * 2 ^ (k + 1) := by
    unfold St; rw [p2, Nat.add_mul, ← Nat.mul_assoc, Nat.mul_comm (A / D) 2]; omega
  have a2 : St A D * 2 ^ (k + 1) < (A / D + 1) * 2 ^ (k + 2) := by
    rw [p2, ← Nat.mul_assoc]; apply Nat.mul_lt_mul_of_pos_right _ p1; unfold St; omega
  -- W2
  have hsplit : A * 2 ^ (k + 1) = D * (A / D * 2 ^ (k + 1)) + A % D * 2 ^ (k + 1) := by
    calc A * 2 ^ (k + 1) = (D * (A / D) + A % D) * 2 ^ (k + 1) := by rw [e1]
      _ = _ := by rw [Nat.add_mul, Nat.mul_assoc]
  have f1 : A / D * 2 ^ (k + 1) ≤ A * 2 ^ (k + 1) / D := by
    rw [Nat.le_div_iff_mul_le hD, Nat.mul_comm _ D]; omega
  have f2 : A * 2 ^ (k + 1) / D < (A / D + 1) * 2 ^ (k + 1) := by
    rw [Nat.div_lt_iff_lt_mul hD]
    have : A % D * 2 ^ (k + 1) < D * 2 ^ (k + 1) := Nat.mul_lt_mul_of_pos_right m1 p1
    rw [Nat.add_mul, Nat.add_mul, Nat.one_mul, Nat.mul_comm _ D, Nat.mul_comm (2 ^ (k + 1)) D]
    omega
  have sb2 : (A * 2 ^ (k + 1) % D != 0).toNat ≤ 1 := by cases (A * 2 ^ (k + 1) % D != 0) <;> simp
  have b1 : A / D * 2 ^ (k + 2) ≤ St (A * 2 ^ (k + 1)) D := by
    unfold St; rw [p2, ← Nat.mul_assoc, Nat.mul_comm (A / D) 2, Nat.mul_assoc]; omega
  have b2 : St (A * 2 ^ (k + 1)) D < (A / D + 1) * 2 ^ (k + 2) := by
    unfold St; rw [p2, ← Nat.mul_assoc, Nat.mul_comm (A / D + 1) 2, Nat.mul_assoc]; omega
  rw [R_same hF a1 a2, R_same hF b1 b2]
  have same : decide (A / D * 2 ^ (k + 2) < St A D * 2 ^ (k + 1)) = decide (A / D * 2 ^ (k + 2) < St (A * 2 ^ (k + 1)) D) := by
    rw [decide_eq_decide]
    by_cases hz : A % D = 0
    · have z1 : St A D * 2 ^ (k + 1) = A / D * 2 ^ (k + 2) := by
        unfold St; rw [hz, p2]; simp; rw [← Nat.mul_assoc, Nat.mul_comm (A / D) 2]
      have z2 : St (A * 2 ^ (k + 1)) D = A / D * 2 ^ (k + 2) := by
        unfold St
        rw [hz, Nat.zero_mul] at hsplit
        rw [hsplit, Nat.add_zero, Nat.mul_div_cancel_left _ hD, Nat.mul_mod_right, p2]
        show 2 * (A / D * 2 ^ (k + 1)) + 0 = _
        rw [Nat.add_zero, Nat.mul_left_comm]
      rw [z1, z2]
    · have t1 : (A % D != 0) = true := by simp [hz]
      have w1 : A / D * 2 ^ (k + 2) < St A D * 2 ^ (k + 1) := by
        unfold St; rw [t1, p2, ← Nat.mul_assoc]; apply Nat.mul_lt_mul_of_pos_right _ p1; simp; omega
      have w2 : A / D * 2 ^ (k + 2) < St (A * 2 ^ (k + 1)) D := by
        have g : D * (A / D * 2 ^ (k + 1)) < A * 2 ^ (k + 1) := by
          have : 0 < A % D * 2 ^ (k + 1) := Nat.mul_pos (by omega) p1
          omega
        unfold St
        have e2 := Nat.div_add_mod (A * 2 ^ (k + 1)) D
        rw [p2, ← Nat.mul_assoc, Nat.mul_comm (A / D) 2, Nat.mul_assoc]
        by_cases hq : A * 2 ^ (k + 1) % D = 0
        · rw [hq] at e2
          have : A / D * 2 ^ (k + 1) < A * 2 ^ (k + 1) / D := by
            apply Nat.lt_of_mul_lt_mul_left (a := D); omega
          omega
        · have t2 : (A * 2 ^ (k + 1) % D != 0) = true := by simp [hq]
          rw [t2]; simp; omega
      simp [w1, w2]
  rw [same]

/-! ### the words of whole numbers, and of their quotients -/
def E : Nat := 1074
theorem hE : E = 1074 := rfl
def fl (n : Nat) : Nat := R (n * 2 ^ (E + 1))
def quo (a b : Nat) : Nat := R (St (V a * 2 ^ E) (V b))

theorem fl_mono {n m : Nat} (h : n ≤ m) : fl n ≤ fl m := R_mono (Nat.mul_le_mul_right _ h)
theorem nearest_nat (n : Nat) : double.nearest false n 0 = fl n := by
  have h := nearest_eq n E
  have e : (-1074 + (E : Int)) = 0 := by rw [hE]; omega
  rw [e] at h
  exact h

theorem fl_zero : fl 0 = 0 := by decide +kernel
theorem fl_one : fl 1 = 1023 * B := by decide +kernel
theorem fl_top : fl 18446744073709551616 = 1087 * B := by decide +kernel
theorem fl_ge {n : Nat} (h : 1 ≤ n) : 1023 * B ≤ fl n := by rw [← fl_one]; exact fl_mono h
theorem fl_le {n : Nat} (h : n ≤ 18446744073709551616) : fl n ≤ 1087 * B := by rw [← fl_top]; exact fl_mono h
theorem V_pos {r : Nat} (h : 0 < r) : 0 < V r := by have := V_lt h; omega

theorem quo_mono {a a' b b' : Nat} (hb : 0 < b) (hb' : 0 < b') (ha : a ≤ a') (hbb : b' ≤ b) : quo a b ≤ quo a' b' := by
  unfold quo
  apply R_mono
  apply St_mono (V_pos hb) (V_pos hb')
  have h1 := V_le ha
  have h2 := V_le hbb
  exact Nat.mul_le_mul (Nat.mul_le_mul_right _ h1) h2

theorem quo_top {a b : Nat} (ha : a ≤ 1087 * B) (hb : 1023 * B ≤ b) : quo a b ≤ 1087 * B := by
  have h := quo_mono (a' := 1087 * B) (b' := 1023 * B) (b := b) (by unfold B at *; omega) (by unfold B; omega) ha hb
  have e : quo (1087 * B) (1023 * B) = 1087 * B := by decide +kernel
  omega

theorem mant_norm {r : Nat} (h : B ≤ r) : B ≤ mant r ∧ mant r < 2 * B := by
  unfold mant
  rw [if_neg (by omega)]
  have := Nat.mod_lt r Bpos
  omega
theorem log_mant {r : Nat} (h : B ≤ r) : Nat.log2 (mant r) = 52 := by
  obtain ⟨h1, h2⟩ := mant_norm h
  have := Bpos
  rw [Nat.log2_eq_iff (by omega), pow52, show (52 + 1) = 53 from rfl, pow53]
  exact ⟨h1, h2⟩
theorem ex_le {r s : Nat} (h : r ≤ s) : ex r ≤ ex s := by
  unfold ex
  have := Nat.div_le_div_right (c := B) h
  omega
theorem small_mod {a : Nat} (h : a < S) : a % S = a := Nat.mod_eq_of_lt h
theorem small_neg {a : Nat} (h : a < S) : isNeg a = false := by
  unfold isNeg
  rw [Nat.div_eq_of_lt h]; rfl

theorem div_norm {a b : Nat} (ha : 1023 * B ≤ a) (ha' : a ≤ 1087 * B) (hb : 1023 * B ≤ b) (hb' : b ≤ 1087 * B) :
    double.div a b = some (quo a b) := by
  have lim : 1087 * B < I := by decide +kernel
  have lim2 : I < S := by decide +kernel
  have hB1 : B ≤ 1023 * B := by decide +kernel
  unfold Format.div
  rw [read_fin (a := a) (by rw [small_mod (by omega)]; omega), read_fin (a := b) (by rw [small_mod (by omega)]; omega)]
  rw [small_mod (show a < S by omega), small_mod (show b < S by omega), small_neg (show a < S by omega), small_neg (show b < S by omega)]
  have na := mant_norm (r := a) (by omega)
  have nb := mant_norm (r := b) (by omega)
  have la := log_mant (r := a) (by omega)
  have lb := log_mant (r := b) (by omega)
  have ea1 : ex (1023 * B) ≤ ex a := ex_le ha
  have eb1 : ex b ≤ ex (1087 * B) := ex_le hb'
  have c1 : ex (1023 * B) = 1022 := by decide +kernel
  have c2 : ex (1087 * B) = 1086 := by decide +kernel
  rw [c1] at ea1
  rw [c2] at eb1
  have bp := Bpos
  have n0 : mant b ≠ 0 := by omega
  simp only [Datum.quotient, n0, if_false, la, lb, hF, Bool.xor_self, Option.map_some]
  refine congrArg some ?_
  simp only [Format.write]
  have e54 : 52 + 2 + 52 - 52 = 54 := rfl
  rw [e54]
  have place : (-1074 + (ex a : Int) - (-1074 + (ex b : Int)) - ((54 : Nat) : Int) - 1) = -1074 + ((ex a + 1019 - ex b : Nat) : Int) := by omega
  rw [place, nearest_eq, Nat.shiftLeft_eq]
  have hs : 2 * (mant a * 2 ^ 54 / mant b) + (mant a * 2 ^ 54 % mant b != 0).toNat = St (mant a * 2 ^ 54) (mant b) := by unfold St; exact (Eq.refl _)
  rw [hs]
  have big : 2 ^ 53 ≤ mant a * 2 ^ 54 / mant b := by
    rw [Nat.le_div_iff_mul_le (by omega), pow53]
    have f54 : (2 : Nat) ^ 54 = 4 * B := by decide +kernel
    rw [f54]
    calc 2 * B * mant b ≤ 2 * B * (2 * B) := Nat.mul_le_mul_left _ (by omega)
      _ = B * (4 * B) := by rw [Nat.mul_comm 2 B, Nat.mul_assoc]; refine congrArg (B * ·) ?_; omega
      _ ≤ mant a * (4 * B) := Nat.mul_le_mul_right _ na.1
  rw [R_sticky _ _ _ (by omega) big]
  unfold quo V
  refine congrArg R ?_
  rw [← St_scale (mant a * 2 ^ 54 * 2 ^ (ex a + 1019 - ex b + 1)) (mant b) (2 ^ ex b) (Nat.two_pow_pos _)]
  refine congrArg (fun x => St x (mant b * 2 ^ ex b)) ?_
  rw [Nat.mul_assoc, Nat.mul_assoc, Nat.mul_assoc, ← Nat.pow_add, ← Nat.pow_add, ← Nat.pow_add]
  have he := hE
  refine congrArg (fun x => mant a * 2 ^ x) ?_
  omega

theorem div_zero {b : Nat} (hb : 1023 * B ≤ b) (hb' : b ≤ 1087 * B) : double.div 0 b = some 0 := by
  have lim : 1087 * B < I := by decide +kernel
  have lim2 : I < S := by decide +kernel
  have nb := mant_norm (r := b) (by have : B ≤ 1023 * B := by decide +kernel
                                    omega)
  unfold Format.div
  rw [read_fin (a := b) (by rw [small_mod (by omega)]; omega), small_mod (show b < S by omega), small_neg (show b < S by omega)]
  have r0 : double.read 0 = .number false 0 (-1074) := by decide +kernel
  rw [r0]
  have bp := Bpos
  have n0 : mant b ≠ 0 := by omega
  simp only [Datum.quotient, n0, if_false, Bool.xor_self, Option.map_some, Nat.zero_shiftLeft, Nat.zero_div, Nat.zero_mod]
  refine congrArg some ?_
  simp only [Format.write, Format.nearest, Nat.mul_zero, bne_self_eq_false, Bool.toNat_false, Nat.add_zero, if_true]
  exact (Eq.refl _)
theorem quo_zero {b : Nat} : quo 0 b = 0 := by
  unfold quo
  have : V 0 = 0 := by decide +kernel
  rw [this, Nat.zero_mul]
  unfold St
  rw [Nat.zero_div, Nat.zero_mod]
  decide +kernel

/-- the rate of a fee for a size from 1 on -/
def rate (fee size : Nat) : Nat := quo (fl fee) (fl size)
theorem rate_div {fee size : Nat} (h1 : fee < 18446744073709551616) (h2 : 1 ≤ size) (h3 : size < 18446744073709551616) :
    double.div (fl fee) (fl size) = some (rate fee size) := by
  unfold rate
  by_cases h : fee = 0
  · subst h
    rw [fl_zero, quo_zero]
    exact div_zero (fl_ge h2) (fl_le (by omega))
  · exact div_norm (fl_ge (by omega)) (fl_le (by omega)) (fl_ge h2) (fl_le (by omega))
theorem rate_le {fee size : Nat} (h1 : fee < 18446744073709551616) (h2 : 1 ≤ size) : rate fee size ≤ 1087 * B :=
  quo_top (fl_le (by omega)) (fl_ge h2)
theorem rate_grows {fee fee' size : Nat} (h : fee ≤ fee') (h2 : 1 ≤ size) : rate fee size ≤ rate fee' size := by
  have b0 : 0 < fl size := by have := fl_ge h2; have := Bpos; omega
  exact quo_mono b0 b0 (fl_mono h) (Nat.le_refl _)
theorem rate_falls {fee size size' : Nat} (h : size ≤ size') (h2 : 1 ≤ size) : rate fee size' ≤ rate fee size := by
  have b0 : 0 < fl size := by have := fl_ge h2; have := Bpos; omega
  have b1 : 0 < fl size' := by have := fl_mono h; omega
  exact quo_mono b1 b0 (Nat.le_refl _) (fl_mono h)
theorem rate_small {fee size : Nat} (h1 : fee < 18446744073709551616) (h2 : 1 ≤ size) : rate fee size < I := by
  have := rate_le h1 h2
  have lim : 1087 * B < I := by decide +kernel
  omega
theorem nan_small {a : Nat} (h : a ≤ I) : ¬ nan a := by
  have lim2 : I < S := by decide +kernel
  unfold nan
  rw [small_mod (by omega)]
  omega
theorem key_small {a : Nat} (h : a ≤ I) : key a = 1 + (a + S) := by
  have lim2 : I < S := by decide +kernel
  unfold key
  rw [if_neg (nan_small h), if_neg (by omega)]
theorem cmp_small {a b : Nat} (ha : a ≤ I) (hb : b ≤ I) (h : a ≤ b) : cmpI a b ≤ 0 := by
  unfold cmpI
  rw [key_small ha, key_small hb]
  split
  · omega
  · rw [if_neg (by omega)]; omega
end Go.Proofs.Ytdebjelheogciaa.Rnd
