/- The landed letter: bounded, used. -/
import Derived.Test.YtaicpclkdpbacaaLtM
import Derived.BigRegion
set_option linter.unusedVariables false
set_option linter.unusedSimpArgs false
namespace Go.Proofs.Ytaicpclkdpbacaa
open Go.RowKit
def bdB (l : Ltr) : Bool := decide (inP l.t) && (decide (inP l.x) && (decide (inP l.y) && (decide (inP l.z) && (decide (l.its.length ≤ 16) && (!(l.its.any badI) && decide (l.b.length ≤ 65536))))))
set_option maxRecDepth 100000 in
set_option maxHeartbeats 8000000 in
theorem bounded_any (A S : Option Addr) (cA cS : Nat) (N : Nat → Prop) (l : Ltr) (w : World) (h : LtN w N A cA S cS l) :
    Calls Try.prog 25 #[ltV A cA S cS l] w fun e w' => e = .returned (.bool (bdB l)) ∧ Turn (fun _ => False) w w' := by
  obtain ⟨w0, hw0⟩ : ∃ w0, w0 = w.alloc (.cells (ltC A cA S cS l) 25) := ⟨_, rfl⟩
  have hT0 : Turn (fun _ => False) w w0 := by rw [hw0]; exact (Turn.refl _ _).alloc _
  have hg0 : LBx w0 w.heap.size A cA S cS l := by rw [hw0]; exact LBx.new _ _ _ _ _ _
  have HT0 := Lib.hid hT0
  have HG := Lib.hid hg0
  have him := h.im
  have hbm := h.bm
  unfold maxLen at him hbm
  obtain ⟨c0, c1, c2, c3, c4, c5, c6, c7⟩ := hg0.cells
  have W1 := Lib.hid (within_in l.t w0)
  have W2 := Lib.hid (within_in l.x w0)
  have W3 := Lib.hid (within_in l.y w0)
  have W4 := Lib.hid (within_in l.z w0)
  have CB := Lib.hid (containsBad_any N A cA l.its w0 (h.quiet hT0).its h.im)
  have HL := Lib.hid (show bdB l = (decide (inP l.t) && (decide (inP l.x) && (decide (inP l.y) && (decide (inP l.z) && (decide (l.its.length ≤ 16) && (!(l.its.any badI) && decide (l.b.length ≤ 65536))))))) from rfl)
  generalize bdB l = R at *
  generalize decide (inP l.t) = b1 at *
  generalize decide (inP l.x) = b2 at *
  generalize decide (inP l.y) = b3 at *
  generalize decide (inP l.z) = b4 at *
  generalize l.its.any badI = b6 at *
  clear h hT0 hg0
  go_enter Try.func25, Try.ntmps25
  go_upto_region 1 with fail
  change Code.wp _ _ _ _ (w.alloc (.cells (ltC A cA S cS l) 25))
  rw [← hw0]
  clear hw0
  go_wp2_with fail
  refine W1.out.mono ?_
  rintro r w9 ⟨rfl, hw9⟩; rw [hw9]; clear hw9 w9
  cases b1 with
  | false =>
    go_wp2
    go_ret
    exact ⟨ret_bool HL.out.symm, HT0.out⟩
  | true =>
  go_wp2_with fail
  refine W2.out.mono ?_
  rintro r w9 ⟨rfl, hw9⟩; rw [hw9]; clear hw9 w9
  cases b2 with
  | false =>
    go_wp2
    go_ret
    exact ⟨ret_bool HL.out.symm, HT0.out⟩
  | true =>
  go_wp2_with fail
  refine W3.out.mono ?_
  rintro r w9 ⟨rfl, hw9⟩; rw [hw9]; clear hw9 w9
  cases b3 with
  | false =>
    go_wp2
    go_ret
    exact ⟨ret_bool HL.out.symm, HT0.out⟩
  | true =>
  go_wp2_with fail
  refine W4.out.mono ?_
  rintro r w9 ⟨rfl, hw9⟩; rw [hw9]; clear hw9 w9
  cases b4 with
  | false =>
    go_wp2
    go_ret
    exact ⟨ret_bool HL.out.symm, HT0.out⟩
  | true =>
  by_cases h16 : l.its.length ≤ 16
  rotate_left 1
  · have d1 : decide ((l.its.length : Int) ≤ 16) = false := decide_eq_false (by omega)
    have HR := Lib.hid (show false = R by rw [HL.out, decide_eq_false h16]; rfl)
    clear h16
    go_wp2
    go_ret
    exact ⟨ret_bool HR.out, HT0.out⟩
  have d1 : decide ((l.its.length : Int) ≤ 16) = true := decide_eq_true (by omega)
  have HL2 := Lib.hid (show R = (!b6 && decide (l.b.length ≤ 65536)) by rw [HL.out, decide_eq_true h16]; rfl)
  clear h16 HL
  go_wp2_with fail
  refine CB.out.mono ?_
  rintro r w9 ⟨rfl, t9⟩
  have c79 := t9.cell c7 (fun h => h)
  have HT9 := Lib.hid (HT0.out.trans t9 (fun _ _ h => h))
  clear t9 c0 c1 c2 c3 c4 c5 c6 c7
  cases b6 with
  | true =>
    go_wp2
    go_ret
    exact ⟨ret_bool HL2.out.symm, HT9.out⟩
  | false =>
    have HR := Lib.hid (show decide ((l.b.length : Int) ≤ 65536) = R by rw [HL2.out, Bool.eq_iff_iff]; simp; omega)
    go_wp2
    go_ret
    exact ⟨ret_bool HR.out, HT9.out⟩
/-- What a letter's kind uses of it. -/
def usedL (l : Ltr) : Ltr :=
  if l.k = 1 then ⟨l.k, l.t, l.x, l.y, 0, false, [], []⟩
  else if l.k = 2 then ⟨l.k, l.t, 0, 0, 0, l.s, [], []⟩
  else if l.k = 3 then ⟨l.k, l.t, l.x, l.y, l.z, false, l.its, []⟩
  else if l.k = 4 then ⟨l.k, l.t, l.x, 0, l.z, l.s, [], []⟩
  else if l.k = 5 then ⟨l.k, l.t, l.x, l.y, 0, false, [], l.b⟩
  else ⟨l.k, l.t, 0, 0, 0, false, [], []⟩
def uA (l : Ltr) (A : Option Addr) : Option Addr := if l.k = 3 then A else none
def uc (l : Ltr) (k : Int) (c : Nat) : Nat := if l.k = k then c else 0
def uS (l : Ltr) (S : Option Addr) : Option Addr := if l.k = 5 then S else none
theorem ok_used (l : Ltr) : okL l = ((decide (1 ≤ l.k) && decide (l.k ≤ 5)) && (bdB l && sameL l (usedL l))) := by
  have hb : (!(l.its.any badI)) = l.its.all okI := by
    rw [Bool.eq_iff_iff, Bool.not_eq_true', List.any_eq_false, List.all_eq_true]
    constructor
    · intro h p hp
      have := h p hp
      unfold badI at this
      simpa using this
    · intro h p hp
      unfold badI
      rw [h p hp]; simp
  have hu : usB l = sameL l (usedL l) ∨ ¬ (1 ≤ l.k ∧ l.k ≤ 5) := by
    by_cases hk : 1 ≤ l.k ∧ l.k ≤ 5
    · left
      have hks : l.k = 1 ∨ l.k = 2 ∨ l.k = 3 ∨ l.k = 4 ∨ l.k = 5 := by omega
      unfold usB sameL usedL
      rw [decide_eq_decide]
      cases l
      rcases hks with h | h | h | h | h <;> (dsimp only at h; subst h; simp [List.length_eq_zero_iff]; try grind)
    · exact .inr hk
  rw [okL, hdB, bdB, hb]
  rcases hu with hu | hk
  · rw [hu]
    rw [Bool.eq_iff_iff]
    simp only [Bool.and_eq_true]
    grind
  · have e : (decide (1 ≤ l.k) && decide (l.k ≤ 5)) = false := by
      rw [Bool.and_eq_false_iff, decide_eq_false_iff_not, decide_eq_false_iff_not]; omega
    rw [e, Bool.false_and, Bool.eq_iff_iff]
    simp only [Bool.and_eq_true, decide_eq_true_eq]
    constructor
    · intro h; exact absurd ⟨h.1.1, h.1.2.1⟩ hk
    · intro h; cases h
end Go.Proofs.Ytaicpclkdpbacaa
