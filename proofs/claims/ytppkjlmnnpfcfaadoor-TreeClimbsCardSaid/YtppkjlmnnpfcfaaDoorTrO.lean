/- The laws' own helpers: great; bytes compared; digests compared. -/
import Derived.Test.YtppkjlmnnpfcfaaDoorTrN
import Derived.Test.YtppkjlmnnpfcfaaDoorIdEq2
set_option linter.unusedVariables false
namespace Go.Proofs.YtppkjlmnnpfcfaaDoor
open Go.RowKit
attribute [local go_sem ↓] loadAt_id
attribute [local go_sem] rowOf_drew rowOf_drewN run_idLoad
theorem take_bound {ls : List (List B8)} {k : Nat} {x : List B8} (hx : ls[k]? = some x) (h : ∀ xs ∈ ls.take k, xs.length ≤ 60) (h60 : x.length ≤ 60) : ∀ xs ∈ ls.take (k + 1), xs.length ≤ 60 := by
  intro xs hxs
  rw [List.take_add_one, hx] at hxs
  simp only [Option.toList, List.mem_append, List.mem_singleton] at hxs
  rcases hxs with hxs | rfl
  · exact h xs hxs
  · exact h60
set_option maxRecDepth 100000 in
theorem great_any (A : Option Addr) (c : Nat) (ls : List (List B8)) (w : World) (hL : LstN w A ls) (hm : ls.length ≤ maxLen) :
    Calls Tryd.prog 8 #[.slice A ls.length c] w fun e w' => (∃ r : Bool, e = .returned (.bool r) ∧ (r = false → ls.length ≤ 40 ∧ ∀ xs ∈ ls, xs.length ≤ 60)) ∧ w' = w := by
  unfold maxLen at hm
  have HL := Lib.hid hL
  clear hL
  go_enter Tryd.func8, Tryd.ntmps8
  go_wp2
  go_loopw [3] (fun i wr => ∃ k : Nat, k ≤ ls.length ∧ k ≤ 40 ∧ i = .int .i64 (k : Int) ∧ (∀ xs ∈ ls.take k, xs.length ≤ 60) ∧ wr = w) (fun i _ => ls.length - (intOf i).toNat)
  case atStart => exact ⟨0, by omega, by omega, rfl, by simp, rfl⟩
  case round =>
    obtain ⟨k, hk, hk40, rfl, h60, rfl⟩ := hrel
    have H60 := Lib.hid h60
    clear h60
    by_cases hlt : k < ls.length
    · have t0 : decide ((k : Int) < (ls.length : Int)) = true := by rw [decide_eq_true_eq]; omega
      by_cases h40 : k < 40
      · have t1 : decide ((k : Int) < 40) = true := by rw [decide_eq_true_eq]; omega
        obtain ⟨x, hx⟩ : ∃ x, ls[k]? = some x := ⟨_, List.getElem?_eq_getElem hlt⟩
        obtain ⟨ad, Ai, ci, rfl, hc, -, -, -⟩ := HL.out k x hx
        by_cases hx60 : x.length ≤ 60
        · have HT := Lib.hid (take_bound hx H60.out hx60)
          have t2 : decide ((60 : Int) < (x.length : Int)) = false := by rw [decide_eq_false_iff_not]; omega
          clear hx
          go_wp2
          go_roundw
          case rel => exact ⟨k + 1, by omega, by omega, by go_num, HT.out, by trivial⟩
          case measure => simp [intOf]; omega
        · have t2 : decide ((60 : Int) < (x.length : Int)) = true := by rw [decide_eq_true_eq]; omega
          clear hx
          go_wp2
          go_ret
          exact ⟨⟨true, rfl, fun h => by cases h⟩, by trivial⟩
      · have t1 : decide ((k : Int) < 40) = false := by rw [decide_eq_false_iff_not]; omega
        have t2 : decide ((40 : Int) < (ls.length : Int)) = true := by rw [decide_eq_true_eq]; omega
        go_wp2
        go_ret
        exact ⟨⟨true, rfl, fun h => by cases h⟩, by trivial⟩
    · have t0 : decide ((k : Int) < (ls.length : Int)) = false := by rw [decide_eq_false_iff_not]; omega
      have t2 : decide ((40 : Int) < (ls.length : Int)) = false := by rw [decide_eq_false_iff_not]; omega
      go_wp2
      go_ret
      refine ⟨⟨false, rfl, fun _ => ⟨by omega, ?_⟩⟩, by trivial⟩
      have := H60.out
      rwa [List.take_of_length_le (by omega)] at this
theorem path_few (A : Option Addr) (c len : Nat) (z : Int) (w : World) (hl : len < 2) : Calls Tryd.prog 13 #[.slice A len c, .int .i64 z] w fun e w' => e = .returned (.slice none 0 0) ∧ w' = w := by
  by_cases hz : z < 0
  · go_enter Tryd.func13, Tryd.ntmps13
    go_wp2_with fail
    go_ret
    exact ⟨rfl, rfl⟩
  · have t0 : decide (z < 0) = false := by rw [decide_eq_false_iff_not]; exact hz
    by_cases hzl : (len : Int) ≤ z
    · have t1 : decide ((len : Int) ≤ z) = true := by rw [decide_eq_true_eq]; exact hzl
      go_enter Tryd.func13, Tryd.ntmps13
      go_wp2_with fail
      go_ret
      exact ⟨rfl, rfl⟩
    · have t1 : decide ((len : Int) ≤ z) = false := by rw [decide_eq_false_iff_not]; exact hzl
      have t2 : ((len : Int) == 1) = true := by rw [beq_iff_eq]; omega
      go_enter Tryd.func13, Tryd.ntmps13
      go_wp2_with fail
      go_ret
      exact ⟨rfl, rfl⟩
theorem dig_seven : decide (dig [1, 0, 0, 0, 1, 7] = zeros 32) = false := by decide +kernel
theorem path_few' (A : Option Addr) (c len : Nat) (z : Int) (w : World) (hl : len < 2) : Calls Tryd.prog 13 #[.slice A len c, .int .i64 z] w fun e w' => e = .returned (.slice none 0 0) ∧ Below w.heap.size w w' :=
  (path_few A c len z w hl).mono fun e w' ⟨h1, h2⟩ => ⟨h1, by rw [h2]; exact Below.refl _ _⟩
theorem run_load_sl (w : World) (ad : Addr) (A : Option Addr) (n c : Nat) (h : w.cell? ad = some (.slice A n c)) : (Instr.loadAt 32 (.pointer (some ad))).run Tryd.prog w = .ok (.slice A n c) w := by
  simp [go_sem, h]
section
variable {C : World → Prop}
theorem cls_load_sl {o : Oper} {a : Act} {K : Act → Prop} (x : Operand) (ho : o.op = .load 32 x) (ad : Addr) (hx : a.eval x = .pointer (some ad)) (A : Option Addr) (n c : Nat)
    (hS : ∀ w, C w → w.cell? ad = some (.slice A n c)) (hK : K (a.put o.dst (.slice A n c))) : o.quiet Tryd.prog a C K :=
  ⟨_, fun w hw => by
    unfold Oper.quietAt execOp
    simp only [ho, hx, Sem.run_bind, run_load_sl w ad A n c (hS w hw), Result.andThen_ok, Sem.run_pure, Oper.quietUpon, and_self], hK⟩
end
theorem cell_stp {w w' : World} {ad : Addr} {v : Value} (h : w.cell? ad = some v) (hs : Stp w w') : w'.cell? ad = some v := (Below.cell hs (World.block_lt_of_cell? w _ h)).trans h
end Go.Proofs.YtppkjlmnnpfcfaaDoor
