/- The contracts of the search for an amount, and of 'balance'. -/
import Derived.Test.YteaoaabjdgdcmaaTxG
set_option linter.unusedVariables false
set_option linter.unusedSimpArgs false
namespace Go.Proofs.Yteaoaabjdgdcmaa
open Go.RowKit
def idxN (x : Nat) (l : List Nat) : Int := if x ∈ l then (l.findIdx (· == x) : Int) else -1
set_option maxRecDepth 100000 in
theorem idxN_hit {x : Nat} {l : List Nat} {k : Nat} (hk : k < l.length) (h0 : ¬ x ∈ l.take k) (h1 : l[k] = x) : (k : Int) = idxN x l := by
  have ha : x ∈ l := by rw [← h1]; exact List.getElem_mem hk
  unfold idxN
  rw [if_pos ha]
  congr 1
  refine ((List.findIdx_eq hk).2 ⟨by simp [h1], fun j hj => ?_⟩).symm
  by_cases he : l[j]'(by omega) = x
  · exact absurd (by rw [← he, List.mem_take_iff_getElem]; exact ⟨j, by omega, rfl⟩) h0
  · simp [he]
set_option maxRecDepth 100000 in
theorem idxN_none {x : Nat} {l : List Nat} (h : ¬ x ∈ l) : (-1 : Int) = idxN x l := by unfold idxN; rw [if_neg h]
set_option maxRecDepth 100000 in
theorem idxN_ge (x : Nat) (l : List Nat) : decide (0 ≤ idxN x l) = decide (x ∈ l) := by
  unfold idxN
  by_cases h : x ∈ l <;> simp [h]
set_option maxRecDepth 100000 in
theorem mem_take_succ {x : Nat} {l : List Nat} {k : Nat} (hk : k < l.length) (h0 : ¬ x ∈ l.take k) (h1 : ¬ l[k] = x) : ¬ x ∈ l.take (k + 1) := by
  rw [List.take_succ_eq_append_getElem hk, List.mem_append]
  rintro (h | h)
  · exact h0 h
  · simp at h; exact h1 h.symm
set_option maxRecDepth 100000 in
theorem index_any (x : Nat) (A : Option Addr) (c B : Nat) (l : List Nat) (w : World) (hs : Sl w B A (u64s l)) (hm : l.length ≤ maxLen) :
    Calls Try.prog 40 #[.slice A l.length c, .int .u64 (x : Int)] w fun e w' => e = .returned (.int .i64 (idxN x l)) ∧ w = w' := by
  unfold maxLen at hm
  have HS := Lib.hid hs
  clear hs
  go_enter Try.func40, Try.ntmps40
  go_wp2
  go_loop [8] (fun i => ∃ k : Nat, k ≤ l.length ∧ i = .int .i64 k ∧ ¬ x ∈ l.take k) (fun i => l.length - (intOf i).toNat)
  case atStart => exact ⟨0, Nat.zero_le _, rfl, by simp⟩
  case round =>
    obtain ⟨k, hk, rfl, ha⟩ := hrel
    by_cases hlt : k < l.length
    · obtain ⟨ad, rfl, _, hc⟩ := HS.out.at (u64s_at l k hlt)
      have HIT := Lib.hid (fun h1 => idxN_hit hlt ha h1)
      have HMS := Lib.hid (fun h1 => mem_take_succ hlt ha h1)
      clear ha
      by_cases hx : l[k] = x
      · have HM := Lib.hid (HIT.out hx)
        have ht : ((x : Int) == ((l[k] : Nat) : Int)) = true := by rw [hx]; simp
        generalize l[k] = z at *
        clear hx HIT HMS
        go_wp2
        go_ret
        exact ⟨ret_int HM.out, rfl⟩
      · have HM := Lib.hid (HMS.out hx)
        have ht : ((x : Int) == ((l[k] : Nat) : Int)) = false := by simp; omega
        generalize l[k] = z at *
        clear hx HIT HMS
        go_wp2
        go_round
        case rel => exact ⟨k + 1, by omega, by go_num, HM.out⟩
        case measure => simp [intOf]; omega
    · obtain rfl : k = l.length := by omega
      rw [List.take_length] at ha
      have HN := Lib.hid (idxN_none ha)
      clear ha
      go_wp2
      go_ret
      exact ⟨ret_int HN.out, rfl⟩
set_option maxRecDepth 100000 in
theorem contains_any (x : Nat) (A : Option Addr) (c B : Nat) (l : List Nat) (w : World) (hs : Sl w B A (u64s l)) (hm : l.length ≤ maxLen) :
    Calls Try.prog 24 #[.slice A l.length c, .int .u64 (x : Int)] w fun e w' => e = .returned (.bool (decide (x ∈ l))) ∧ w = w' := by
  have C := Lib.hid (index_any x A c B l w hs hm)
  have HG := Lib.hid (idxN_ge x l)
  clear hs
  generalize idxN x l = z at *
  go_enter Try.func24, Try.ntmps24
  go_wp2_with (go_at_call 40; refine C.out.mono ?_; rintro r w1 ⟨rfl, rfl⟩)
  go_ret
  exact ⟨ret_bool HG.out, rfl⟩
set_option maxRecDepth 100000 in
theorem balance_any (A A' : Option Addr) (c c' B B' : Nat) (a b : List Nat) (n m : Nat) (w : World) (hs : Sl w B A (u64s a)) (hs' : Sl w B' A' (u64s b)) (hm : a.length ≤ maxLen) (hm' : b.length ≤ maxLen) (hn : a.length = n) (hn' : b.length = m) (hw : ∀ x ∈ a, x < 18446744073709551616) (hw' : ∀ x ∈ b, x < 18446744073709551616) :
    Calls Try.prog 25 #[.slice A n c, .slice A' m c'] w fun e w' => e = .returned (.int .i64 ((balE a b : Nat) : Int)) ∧ w = w' := by
  subst hn hn'
  have C1 := all_any A c B a w hs hm hw
  have C2 := all_any A' c' B' b w hs' hm' hw'
  have hb : balE a b = if (allV 0 a).2 ≠ 0 then (allV 0 a).2 else if (allV 0 b).2 ≠ 0 then (allV 0 b).2 else if (allV 0 a).1 ≠ (allV 0 b).1 then 9 else 0 := rfl
  generalize balE a b = z at *
  generalize (allV 0 a).1 = a1 at *
  generalize (allV 0 a).2 = a2 at *
  generalize (allV 0 b).1 = b1 at *
  generalize (allV 0 b).2 = b2 at *
  have HB := Lib.hid hb
  have D1 := Lib.hid C1
  have D2 := Lib.hid C2
  clear hb C1 C2 hs hs' hw hw'
  by_cases h1 : a2 ≠ 0
  · have t1 : ((a2 : Int) != 0) = true := by simp; omega
    have HZ := Lib.hid (show ((a2 : Nat) : Int) = z by rw [HB.out, if_pos h1])
    clear h1
    go_enter Try.func25, Try.ntmps25
    go_wp2_with fail
    refine D1.out.mono ?_
    rintro r w1 ⟨rfl, rfl⟩
    go_wp2
    go_ret
    exact ⟨ret_int HZ.out, rfl⟩
  · have t1 : ((a2 : Int) != 0) = false := by simp; omega
    by_cases h2 : b2 ≠ 0
    · have t2 : ((b2 : Int) != 0) = true := by simp; omega
      have HZ := Lib.hid (show ((b2 : Nat) : Int) = z by rw [HB.out, if_neg h1, if_pos h2])
      clear h1 h2
      go_enter Try.func25, Try.ntmps25
      go_wp2_with fail
      refine D1.out.mono ?_
      rintro r w1 ⟨rfl, rfl⟩
      go_wp2_with fail
      refine D2.out.mono ?_
      rintro r w1 ⟨rfl, rfl⟩
      go_wp2
      go_ret
      exact ⟨ret_int HZ.out, rfl⟩
    · have t2 : ((b2 : Int) != 0) = false := by simp; omega
      by_cases h3 : a1 ≠ b1
      · have t3 : ((a1 : Int) != (b1 : Int)) = true := by simp; omega
        have HZ := Lib.hid (show (9 : Int) = z by rw [HB.out, if_neg h1, if_neg h2, if_pos h3]; rfl)
        clear h1 h2 h3
        go_enter Try.func25, Try.ntmps25
        go_wp2_with fail
        refine D1.out.mono ?_
        rintro r w1 ⟨rfl, rfl⟩
        go_wp2_with fail
        refine D2.out.mono ?_
        rintro r w1 ⟨rfl, rfl⟩
        go_wp2
        go_ret
        exact ⟨ret_int HZ.out, rfl⟩
      · have t3 : ((a1 : Int) != (b1 : Int)) = false := by simp; omega
        have HZ := Lib.hid (show (0 : Int) = z by rw [HB.out, if_neg h1, if_neg h2, if_neg h3]; rfl)
        clear h1 h2 h3
        go_enter Try.func25, Try.ntmps25
        go_wp2_with fail
        refine D1.out.mono ?_
        rintro r w1 ⟨rfl, rfl⟩
        go_wp2_with fail
        refine D2.out.mono ?_
        rintro r w1 ⟨rfl, rfl⟩
        go_wp2
        go_ret
        exact ⟨ret_int HZ.out, rfl⟩
end Go.Proofs.Yteaoaabjdgdcmaa
