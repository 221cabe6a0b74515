/- The contracts of the small functions on words: turning to the right, and the four bytes of a word. -/
import Derived.Test.YtoclfohgchlpnaaDoorRows
import Derived.Test.YtoclfohgchlpnaaDoorShaPure
import Derived.WalkKit
import Derived.WalkLawsBesides
import Derived.Lib.Hide
import Derived.LoopTactic
import Derived.Outline
import Derived.Deep.QuietTactic
import Derived.BigQuiet
namespace Go.Proofs.YtoclfohgchlpnaaDoor
open Go.RowKit

theorem ret_u32 {a b : Int} (h : a = b) : Ending.returned (.int .u32 a) = .returned (.int .u32 b) := by rw [h]
theorem rot_any (x : W) (z : Int) (n : Nat) (w : World) (hz : bits .and .u64 (IntKind.u64.wrap z) 31 = ((32 - n : Nat) : Int)) (h1 : 1 ≤ n) (h2 : n ≤ 31) :
    Calls Tryd.prog 80 #[.int .u32 (x.toNat : Int), .int .i64 z] w fun e w' => e = .returned (wv (rotr x n)) ∧ w' = w := by
  obtain ⟨k, hk⟩ : ∃ k : Nat, k = 32 - n := ⟨_, rfl⟩
  have hn : n = 32 - k := by omega
  have H := Lib.hid hn
  have hk2 : k ≤ 31 := by omega
  have hk1 : 1 ≤ k := by omega
  rw [← hk] at hz
  have HZ := Lib.hid hz
  clear hz hk hn
  go_enter Tryd.func80, Tryd.ntmps80
  have hz := HZ.out
  go_wp2
  go_ret
  refine ⟨ret_u32 ?_, rfl⟩
  have h32 : (32 - k : Nat) = n := by have := H.out; omega
  rw [show k = 32 - n by omega, show (32 - (32 - n) : Nat) = n by omega]
  rw [wshr, wshl, wor, rotr_l]
theorem turned_any (x : W) (i j k : Nat) (w : World) (hi : bits .and .u64 (IntKind.u64.wrap (-(i : Int))) 31 = ((32 - i : Nat) : Int)) (hj : bits .and .u64 (IntKind.u64.wrap (-(j : Int))) 31 = ((32 - j : Nat) : Int))
    (hk : bits .and .u64 (IntKind.u64.wrap (-(k : Int))) 31 = ((32 - k : Nat) : Int)) (i1 : 1 ≤ i) (i2 : i ≤ 31) (j1 : 1 ≤ j) (j2 : j ≤ 31) (k1 : 1 ≤ k) (k2 : k ≤ 31) :
    Calls Tryd.prog 58 #[.int .u32 (x.toNat : Int), .int .i64 i, .int .i64 j, .int .i64 k] w fun e w' => e = .returned (wv (rotr x i ^^^ rotr x j ^^^ rotr x k)) ∧ w' = w := by
  have E1 := Lib.hid (fun w => rot_any x _ i w hi i1 i2)
  have E2 := Lib.hid (fun w => rot_any x _ j w hj j1 j2)
  have E3 := Lib.hid (fun w => rot_any x _ k w hk k1 k2)
  clear hi hj hk
  unfold wv at E1 E2 E3
  go_enter Tryd.func58, Tryd.ntmps58
  go_wp2_with (first
    | (go_at_call 80; ((with_reducible refine (E1.out _).mono ?_); rintro e w' ⟨rfl, rfl⟩))
    | (go_at_call 80; ((with_reducible refine (E2.out _).mono ?_); rintro e w' ⟨rfl, rfl⟩))
    | (go_at_call 80; ((with_reducible refine (E3.out _).mono ?_); rintro e w' ⟨rfl, rfl⟩)))
  go_ret
  refine ⟨ret_u32 ?_, rfl⟩
  rw [wxor, wxor]
theorem shifted_any (x : W) (i j k : Nat) (w : World) (hi : bits .and .u64 (IntKind.u64.wrap (-(i : Int))) 31 = ((32 - i : Nat) : Int)) (hj : bits .and .u64 (IntKind.u64.wrap (-(j : Int))) 31 = ((32 - j : Nat) : Int))
    (i1 : 1 ≤ i) (i2 : i ≤ 31) (j1 : 1 ≤ j) (j2 : j ≤ 31) (k2 : k ≤ 31) :
    Calls Tryd.prog 79 #[.int .u32 (x.toNat : Int), .int .i64 i, .int .i64 j, .int .i64 k] w fun e w' => e = .returned (wv (rotr x i ^^^ rotr x j ^^^ (x >>> k))) ∧ ∃ n, w' = w.drewN n := by
  have E1 := Lib.hid (fun w => rot_any x _ i w hi i1 i2)
  have E2 := Lib.hid (fun w => rot_any x _ j w hj j1 j2)
  clear hi hj
  unfold wv at E1 E2
  go_enter Tryd.func79, Tryd.ntmps79
  go_wp2
  go_quiet (first
    | (go_at_call 80; with_reducible exact Calls.quiet_of_same (E1.out _))
    | (go_at_call 80; with_reducible exact Calls.quiet_of_same (E2.out _)))
  go_wp2
  go_ret
  refine ⟨ret_u32 ?_, _, rfl⟩
  rw [wshr, wxor, wxor]
theorem right_any (x : W) (n : Nat) (w : World) (hn : n ≤ 32) :
    Calls Tryd.prog 46 #[.int .u32 (x.toNat : Int), .int .i64 n] w fun e w' => e = .returned (wv (rotr x n)) ∧ ∃ n, w' = w.drewN n := by
  go_enter Tryd.func46, Tryd.ntmps46
  go_wp2
  go_quiet (fail)
  go_wp2
  go_ret
  refine ⟨ret_u32 ?_, _, rfl⟩
  rw [wshr, wshl, wor]; rfl
theorem ss0_any (x : W) (w : World) : Calls Tryd.prog 79 #[.int .u32 (x.toNat : Int), .int .i64 7, .int .i64 18, .int .i64 3] w fun e w' => e = .returned (.int .u32 ((ss0 x).toNat : Int)) ∧ ∃ n, w' = w.drewN n :=
  shifted_any x 7 18 3 w (by decide) (by decide) (by decide) (by decide) (by decide) (by decide) (by decide)
theorem ss1_any (x : W) (w : World) : Calls Tryd.prog 79 #[.int .u32 (x.toNat : Int), .int .i64 17, .int .i64 19, .int .i64 10] w fun e w' => e = .returned (.int .u32 ((ss1 x).toNat : Int)) ∧ ∃ n, w' = w.drewN n :=
  shifted_any x 17 19 10 w (by decide) (by decide) (by decide) (by decide) (by decide) (by decide) (by decide)
theorem bs0_any (x : W) (w : World) : Calls Tryd.prog 58 #[.int .u32 (x.toNat : Int), .int .i64 2, .int .i64 13, .int .i64 22] w fun e w' => e = .returned (.int .u32 ((bs0 x).toNat : Int)) ∧ w' = w :=
  turned_any x 2 13 22 w (by decide) (by decide) (by decide) (by decide) (by decide) (by decide) (by decide) (by decide) (by decide)
theorem bs1_any (x : W) (w : World) : Calls Tryd.prog 58 #[.int .u32 (x.toNat : Int), .int .i64 6, .int .i64 11, .int .i64 25] w fun e w' => e = .returned (.int .u32 ((bs1 x).toNat : Int)) ∧ w' = w :=
  turned_any x 6 11 25 w (by decide) (by decide) (by decide) (by decide) (by decide) (by decide) (by decide) (by decide) (by decide)
theorem below_drewN {B n : Nat} {a w : World} (h : Below B a w) : Below B a (w.drewN n) := ⟨h.os, h.tape, h.output, h.size, h.block⟩
def wbv (x : W) : Array Value := ((wb x).map bv).toArray
theorem wbv_eq (x : W) : #[Value.int .u8 ((x.toNat : Int) / 16777216), .int .u8 ((x.toNat : Int) / 65536 % 256), .int .u8 ((x.toNat : Int) / 256 % 256), .int .u8 ((x.toNat : Int) % 256)] = wbv x := by
  have e1 : (x.toNat : Int) / (16777216 : Int) = (((x >>> 24).setWidth 8).toNat : Int) := by
    rw [show (16777216 : Int) = 2 ^ 24 from rfl, wshr]; exact wlow' _ (by rw [BitVec.toNat_ushiftRight, Nat.shiftRight_eq_div_pow]; have := x.isLt; omega)
  have e2 : (x.toNat : Int) / (65536 : Int) % (256 : Int) = (((x >>> 16).setWidth 8).toNat : Int) := by rw [show (65536 : Int) = 2 ^ 16 from rfl, wshr, wlow]
  have e3 : (x.toNat : Int) / (256 : Int) % (256 : Int) = (((x >>> 8).setWidth 8).toNat : Int) := by rw [show (x.toNat : Int) / (256 : Int) = (x.toNat : Int) / 2 ^ 8 from rfl, wshr, wlow]
  rw [e1, e2, e3, wlow]; rfl
theorem bytesOf_any (x : W) (w : World) :
    Calls Tryd.prog 33 #[.int .u32 (x.toNat : Int)] w fun e w' => e = .returned (.agg (wbv x)) ∧ w' = w.alloc (.cells (wbv x) 74) := by
  go_enter Tryd.func33, Tryd.ntmps33
  go_wp2
  rw [wbv_eq]
  refine bodyPost_ret (v := .agg (wbv x)) ?_ rfl ⟨rfl, rfl⟩
  rw [← wbv_eq]
  simp [results, Tryd.results33, go_sem]
end Go.Proofs.YtoclfohgchlpnaaDoor
