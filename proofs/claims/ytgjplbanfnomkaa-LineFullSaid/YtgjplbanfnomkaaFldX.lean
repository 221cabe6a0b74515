/- Merged: The contracts of what is below the pen and the eye: a number's bits, bytes as a number, bytes copied, bytes compared. The contracts of bytes compared (the document's) and of bytes copied (the library's). The contracts of the eye's small methods: an error told, an error there, what is left, bytes taken. The contract of the eye's 'number'. The contracts of the eye's 'Num' and 'Text'. The contract of the eye's 'Id'. The contracts of the pen. The contracts of the pen's 'Text', 'Id' and 'Bytes'. The contracts of 'look' and 'Read': what is done with an eye, and how its panic is caught. The contract of 'Read'. The contracts of the statements' own small reader 'one', and of the document's example. -/
import Derived.Test.YtgjplbanfnomkaaByt
import Derived.Deep.Cut
import Derived.Lib.Strings
import Derived.Lib.Slices
import Derived.Lib.Small
import Derived.Lib.Walk
import Derived.Lib.BitFns
import Derived.Deep.RegionLaw
import Derived.Laws.CopyOwn
import Derived.Maps.AppendAt
import Derived.Deep.AppendLies
import Derived.Defers
import Derived.Recover
import Derived.LaidEqlPtr
namespace Go.Proofs.Ytgjplbanfnomkaa
section

open Go.RowKit
set_option maxRecDepth 100000 in
theorem klen_bitLen (n : Nat) (h : n < 18446744073709551616) : (Lib.bitLen n + 7) / 8 = klen n := by
  induction n using Nat.strongRecOn with
  | _ n ih =>
    by_cases h0 : n = 0
    · subst h0; rw [klen_zero]; decide
    · rw [klen_pos h0]
      by_cases h1 : n < 256
      · have a := Lib.bitLen_le8 ⟨n, h1⟩
        have b := Lib.bitLen_half n h0 (by omega)
        rw [show n / 256 = 0 by omega, klen_zero]
        simp only at a
        omega
      · rw [← ih (n / 256) (by omega) (by omega), Lib.bitLen_shift8 n (by omega) h]
        omega
set_option maxRecDepth 100000 in
theorem bitLen_le (n : Nat) (h : n < 18446744073709551616) : Lib.bitLen n ≤ 64 := by
  have := klen_bitLen n h; have := klen_eight h; omega
set_option maxRecDepth 100000 in
theorem tab_at (m : Nat) (hm : m < Lib.len8tab.size) : Lib.len8tab[m].toNat = Lib.bitLen m ∧ Lib.bitLen m ≤ 8 := by
  have h : ∀ i : Fin 256, ((Lib.len8tab[i.val]?).getD 0).toNat = Lib.bitLen i.val ∧ Lib.bitLen i.val ≤ 8 := by decide +kernel
  have := h ⟨m, by rw [Lib.len8tab_size] at hm; exact hm⟩
  rw [ByteArray.getElem?_lt' _ _ hm] at this
  exact this
set_option maxHeartbeats 4000000 in
set_option maxRecDepth 100000 in
theorem len64_int (x : Int) (w : World) (h0 : 0 ≤ x) (h1 : x ≤ 18446744073709551615) :
    Calls Try.prog 65 #[.int .u64 x] w fun e w' => e = .returned (.int .i64 (Lib.bitLen x.toNat)) ∧ w' = w := by
  have hsz : (Lib.len8tab.size : Int) = 256 := by rw [Lib.len8tab_size]; rfl
  go_enter Try.func65, Try.ntmps65
  go_wp2
  all_goals (go_ret; refine ⟨congrArg Ending.returned (congrArg (Value.int IntKind.i64) ?_), rfl⟩)
  · obtain ⟨e, l⟩ := tab_at (x / 4294967296 / 65536 / 256).toNat (by omega)
    have s := Lib.bitLen_shift56 x.toNat (by omega) (by omega)
    rw [e, show (x / 4294967296 / 65536 / 256).toNat = x.toNat / 72057594037927936 by omega] at *
    simp only [wrap64]; omega
  · obtain ⟨e, l⟩ := tab_at (x / 4294967296 / 65536).toNat (by omega)
    have s := Lib.bitLen_shift48 x.toNat (by omega) (by omega)
    rw [e, show (x / 4294967296 / 65536).toNat = x.toNat / 281474976710656 by omega] at *
    simp only [wrap64]; omega
  · obtain ⟨e, l⟩ := tab_at (x / 4294967296 / 256).toNat (by omega)
    have s := Lib.bitLen_shift40 x.toNat (by omega) (by omega)
    rw [e, show (x / 4294967296 / 256).toNat = x.toNat / 1099511627776 by omega] at *
    simp only [wrap64]; omega
  · obtain ⟨e, l⟩ := tab_at (x / 4294967296).toNat (by omega)
    have s := Lib.bitLen_shift32 x.toNat (by omega) (by omega)
    rw [e, show (x / 4294967296).toNat = x.toNat / 4294967296 by omega] at *
    simp only [wrap64]; omega
  · obtain ⟨e, l⟩ := tab_at (x / 65536 / 256).toNat (by omega)
    have s := Lib.bitLen_shift24 x.toNat (by omega) (by omega)
    rw [e, show (x / 65536 / 256).toNat = x.toNat / 16777216 by omega] at *
    simp only [wrap64]; omega
  · obtain ⟨e, l⟩ := tab_at (x / 65536).toNat (by omega)
    have s := Lib.bitLen_shift16 x.toNat (by omega) (by omega)
    rw [e, show (x / 65536).toNat = x.toNat / 65536 by omega] at *
    simp only [wrap64]; omega
  · obtain ⟨e, l⟩ := tab_at (x / 256).toNat (by omega)
    have s := Lib.bitLen_shift8 x.toNat (by omega) (by omega)
    rw [e, show (x / 256).toNat = x.toNat / 256 by omega] at *
    simp only [wrap64]; omega
  · obtain ⟨e, l⟩ := tab_at x.toNat (by omega)
    rw [e]
    simp only [wrap64]; omega
set_option maxRecDepth 100000 in
theorem len64_any (n : Nat) (w : World) (h : n < 18446744073709551616) : Calls Try.prog 65 #[.int .u64 n] w fun e w' => e = .returned (.int .i64 (Lib.bitLen n : Int)) ∧ w' = w := by
  have := len64_int n w (by omega) (by omega)
  rw [Int.toNat_natCast] at this; exact this

set_option maxRecDepth 100000 in
theorem or_low (n x : Nat) (hx : x < 256) (hn : n < 72057594037927936) : bits .or .u64 ((n : Int) * 256) (x : Int) = ((n * 256 + x : Nat) : Int) := by
  have h := bits_of .u64 (fun k h0 h1 => by rw [IntKind.wrap_u64]; simp [IntKind.bits] at h1; omega) (BitVec.ofNat IntKind.u64.bits (n * 256)) (BitVec.ofNat IntKind.u64.bits x)
  have h2 := h.2.1
  have e1 : (BitVec.ofNat IntKind.u64.bits (n * 256)).toNat = n * 256 := by rw [BitVec.toNat_ofNat]; exact Nat.mod_eq_of_lt (by simp [IntKind.bits]; omega)
  have e2 : (BitVec.ofNat IntKind.u64.bits x).toNat = x := by rw [BitVec.toNat_ofNat]; exact Nat.mod_eq_of_lt (by simp [IntKind.bits]; omega)
  have e3 : (BitVec.ofNat IntKind.u64.bits (n * 256) ||| BitVec.ofNat IntKind.u64.bits x).toNat = n * 256 + x := by
    rw [BitVec.toNat_or, e1, e2, Nat.mul_comm, show (256 : Nat) = 2 ^ 8 from rfl, ← Nat.two_pow_add_eq_or_of_lt (by simpa using hx)]
  rw [e1, e2, e3, show ((n * 256 : Nat) : Int) = (n : Int) * 256 by omega] at h2
  exact h2
set_option maxRecDepth 100000 in
/-- Bytes that stand for a number. -/
theorem value_any (A : Option Addr) (c B : Nat) (l : List B8) (w : World) (hs : Sl w B A (l.map bv)) (h8 : l.length ≤ 8) :
    Calls Try.prog 80 #[.slice A l.length c] w fun e w' => e = .returned (.int .u64 (valB l : Int)) ∧ w' = w := by
  have HS := Lib.hid hs
  clear hs
  go_enter Try.func80, Try.ntmps80
  go_wp2
  go_loop [3, 8] (fun x i => ∃ k : Nat, k ≤ l.length ∧ i = .int .i64 k ∧ x = .int .u64 (valB (l.take k) : Int)) (fun _ i => l.length - (intOf i).toNat)
  case atStart => exact ⟨0, Nat.zero_le _, rfl, rfl⟩
  case round =>
    obtain ⟨k, hk, rfl, rfl⟩ := hrel
    by_cases hlt : k < l.length
    · obtain ⟨ad, rfl, _, hc⟩ := HS.out.at (bvs_at l k hlt)
      have hv := valB_take l k hlt
      have hb := valB_lt (l.take k)
      have hl7 : (l.take k).length ≤ 7 := by simp; omega
      have hp : 256 ^ (l.take k).length ≤ 256 ^ 7 := Nat.pow_le_pow_right (by decide) hl7
      have hor := or_low (valB (l.take k)) l[k].toNat l[k].isLt (by have : (256 : Nat) ^ 7 = 72057594037927936 := by decide
                                                                    omega)
      have hlt7 : valB (l.take k) < 72057594037927936 := by have : (256 : Nat) ^ 7 = 72057594037927936 := by decide
                                                            omega
      rw [← hv] at hor
      have hx := l[k].isLt
      obtain ⟨m, hm⟩ : ∃ m, m = valB (l.take (k + 1)) := ⟨_, rfl⟩
      rw [← hm] at hor
      have HM := Lib.hid hm
      clear hv hb hp hl7 hm
      generalize valB (l.take k) = n at *
      unfold bv at hc
      generalize l[k].toNat = x at *
      go_wp2
      go_round
      case rel => exact ⟨k + 1, by omega, by go_num, by rw [← HM.out]⟩
      case measure => simp [intOf]; omega
    · go_wp2
      go_ret
      rw [List.take_of_length_le (by omega)]
      exact ⟨rfl, rfl⟩

end
section

open Go.RowKit
set_option maxRecDepth 100000 in
theorem drewN_add (w : World) (a b : Nat) : (w.drewN a).drewN b = w.drewN (a + b) := by simp [World.drewN, Nat.add_assoc]
set_option maxRecDepth 100000 in
/-- Bytes compared, as the document does. -/
theorem rbytes_any (A A' : Option Addr) (c c' B B' : Nat) (xs ys : List B8) (w : World) (hx : Sl w B A (xs.map bv)) (hy : Sl w B' A' (ys.map bv)) (hlx : xs.length ≤ maxLen) (hly : ys.length ≤ maxLen) :
    Calls Try.prog 27 #[.slice A xs.length c, .slice A' ys.length c'] w fun e w' => e = .returned (.bool (decide (xs = ys))) ∧ ∃ n, w' = w.drewN n := by
  unfold maxLen at hlx hly
  have HX := Lib.hid hx
  have HY := Lib.hid hy
  clear hx hy
  by_cases hl : xs.length = ys.length
  · have HL := Lib.hid hl
    go_enter Try.func27, Try.ntmps27
    go_wp2
    go_loopw [5] (fun i wr => ∃ k n : Nat, k ≤ xs.length ∧ i = .int .i64 k ∧ xs.take k = ys.take k ∧ wr = w.drewN n) (fun i _ => xs.length - (intOf i).toNat)
    case atStart => exact ⟨0, 0, Nat.zero_le _, rfl, by simp, rfl⟩
    case round =>
      obtain ⟨k, n, hk, rfl, he, rfl⟩ := hrel
      have HE := Lib.hid he
      clear he
      by_cases hlt : k < xs.length
      · have hlt' : k < ys.length := by omega
        obtain ⟨ad, rfl, _, hc⟩ := HX.out.at (bvs_at xs k hlt)
        obtain ⟨ad', rfl, _, hc'⟩ := HY.out.at (bvs_at ys k hlt')
        have hc1 : ∀ n, (w.drewN n).cell? (ad.add k) = some (bv xs[k]) := fun n => hc
        have hc2 : ∀ n, (w.drewN n).cell? (ad'.add k) = some (bv ys[k]) := fun n => hc'
        have HT := Lib.hid (show (xs[k] = ys[k]) → xs.take (k + 1) = ys.take (k + 1) from fun h => by rw [List.take_succ_eq_append_getElem hlt, List.take_succ_eq_append_getElem hlt', HE.out, h])
        have HN := Lib.hid (show ¬ (xs[k] = ys[k]) → decide (xs = ys) = false from fun h => by
          rw [decide_eq_false_iff_not]; intro e; subst e; exact h rfl)
        clear hc hc'
        generalize xs[k] = x at *
        generalize ys[k] = y at *
        unfold bv at hc1 hc2
        by_cases hxy : x = y
        · subst hxy
          have HT2 := Lib.hid (HT.out rfl)
          clear HT HN
          go_wp2
          go_quiet (fail)
          go_wp2
          go_roundw
          case rel => exact ⟨k + 1, _, by omega, by go_num, HT2.out, rfl⟩
          case measure => simp [intOf]; omega
        · have hne : ¬ ((x.toNat : Int) = (y.toNat : Int)) := fun h => hxy (bv_inj.1 h)
          have HN2 := Lib.hid (HN.out hxy)
          clear HT HN
          go_wp2
          go_quiet (fail)
          go_wp2
          go_ret
          rw [HN2.out]
          exact ⟨rfl, n + nq, drewN_add _ _ _⟩
      · have HD : decide (xs = ys) = true := by
          have h := HE.out
          rw [List.take_of_length_le (by omega), List.take_of_length_le (by omega)] at h
          exact decide_eq_true h
        have HD := Lib.hid HD
        go_wp2
        go_ret
        rw [HD.out]
        exact ⟨rfl, _, rfl⟩
  · have HD := Lib.hid (show decide (xs = ys) = false from decide_eq_false fun h => hl (by rw [h]))
    have hl2 : ¬ ((xs.length : Int) = (ys.length : Int)) := by omega
    go_enter Try.func27, Try.ntmps27
    go_wp2
    go_ret
    rw [HD.out]
    exact ⟨rfl, 0, rfl⟩
set_option maxRecDepth 100000 in
theorem clone_any (A : Option Addr) (c B : Nat) (xs : List B8) (w : World) (hx : Sl w B A (xs.map bv)) (hA : A = none → c = 0) (hc : xs.length ≤ c) (hlen : xs.length ≤ 1099511627776) :
    Calls Try.prog 59 #[.slice A xs.length c] w fun e w' => ∃ v, e = .returned v ∧ w'.ownsRow w.heap.size 5 1 v xs.length (xs.map bv) ∧ Turn (fun _ => False) w w' := by
  obtain ⟨i0, hi, hz0, hz1, hz2⟩ := info_parts info_u8
  cases A with
  | none =>
    obtain rfl := hA rfl
    obtain rfl : xs = [] := List.eq_nil_of_length_eq_zero (by omega)
    have heq : ∀ w, (binOp BinOp.eql 34 (.slice none 0 0) (.slice none 0 0)).run Try.prog w = .ok (.bool true) w := fun w => by kernel_rfl
    change Calls _ _ #[.slice none 0 0] _ _
    go_enter Try.func59, Try.ntmps59
    go_wp2
    go_ret
    exact ⟨_, rfl, World.ownsRow_nil _ _ _ _, Turn.refl _ _⟩
  | some ad =>
    have HX := Lib.hid hx
    clear hx
    have heq : ∀ w, (binOp BinOp.eql 34 (.slice (some ad) xs.length c) (.slice none 0 0)).run Try.prog w = .ok (.bool false) w := fun w => by kernel_rfl
    go_enter Try.func59, Try.ntmps59
    go_upto_region 3 with fail
    go_step
    iterate 6 go_step
    have ho := own_new w w.heap.size 5 [] 0 rfl (Nat.le_refl _) (by unfold maxLen; omega)
    have hb1 : Below w.heap.size w (w.alloc (.cells ([] : List Value).toArray 5)) := (Below.refl _ _).alloc (Nat.le_refl _) _
    refine wpList_append_any (o := ⟨some 7, _, _, _, _, _⟩) rfl _ _ 34 rfl w.heap.size 5 i0 (.int .u8 0) 1 Try.underlying34 hi hz0 hz1 hz2 rfl _ 0 _ rfl ho (some ad) xs.length c (xs.map bv) rfl hA (List.length_map ..) ?_ (bv_one xs) ?_ ?_ ?_ ?_
    · intro j u hu
      obtain ⟨ad', e, hb, hc⟩ := HX.out j u hu
      exact ⟨ad', e, (hb1.cell (World.block_lt_of_cell? w _ hc)).trans hc⟩
    · unfold maxLen; omega
    · omega
    · simp
    intro v' w' hown hgr
    go_wp2
    go_ret
    refine ⟨_, rfl, by simpa using hown, ((Turn.refl _ _).alloc _).grown hgr (fun i hi e => ?_)⟩
    injection e with e; simp at e; omega

end
section
set_option linter.unusedVariables false
set_option linter.unusedSimpArgs false

open Go.RowKit
/-- An eye: what is left, where its ending lies, and the error in it. -/
def EyeAt (w : World) (e E : Nat) (A : Option Addr) (n c y : Nat) : Prop :=
  w.heap[e]? = some (.cells #[.slice A n c, .pointer (some ⟨E, 0, none⟩)] 107 (0, 0)) ∧ w.heap[E]? = some (.cells #[.int .i64 (y : Int)] 105 (0, 0))
section
variable {w w' : World} {e E n c y : Nat} {A : Option Addr}
set_option maxRecDepth 100000 in
theorem EyeAt.ne (h : EyeAt w e E A n c y) : e ≠ E := by
  rintro rfl
  have := h.1.symm.trans h.2
  simp at this
set_option maxRecDepth 100000 in
theorem EyeAt.cells (h : EyeAt w e E A n c y) : w.cell? ⟨e, 0, none⟩ = some (.slice A n c) ∧ w.cell? ⟨e, 1, none⟩ = some (.pointer (some ⟨E, 0, none⟩)) ∧ w.cell? ⟨E, 0, none⟩ = some (.int .i64 (y : Int)) ∧
    w.frozen? ⟨e, 0, none⟩ = false ∧ w.frozen? ⟨e, 1, none⟩ = false ∧ w.frozen? ⟨E, 0, none⟩ = false :=
  ⟨by rw [cell_of_row w e 0 _ _ _ h.1]; rfl, by rw [cell_of_row w e 1 _ _ _ h.1]; rfl, by rw [cell_of_row w E 0 _ _ _ h.2]; rfl, frozen_of_row w e 0 _ _ h.1, frozen_of_row w e 1 _ _ h.1, frozen_of_row w E 0 _ _ h.2⟩
set_option maxRecDepth 100000 in
theorem EyeAt.lt (h : EyeAt w e E A n c y) : e < w.heap.size ∧ E < w.heap.size := ⟨lt_of_block h.1, lt_of_block h.2⟩
set_option maxRecDepth 100000 in
theorem EyeAt.turn {S : Nat → Prop} (h : EyeAt w e E A n c y) (t : Turn S w w') (h1 : ¬ S e) (h2 : ¬ S E) : EyeAt w' e E A n c y := ⟨t.heap h.1 h1, t.heap h.2 h2⟩
set_option maxRecDepth 100000 in
theorem EyeAt.set (h : EyeAt w e E A n c y) (A' : Option Addr) (n' c' : Nat) : EyeAt (w.setCell ⟨e, 0, none⟩ (.slice A' n' c')) e E A' n' c' y :=
  ⟨by rw [heap_setCell_same _ e 0 _ _ _ h.1]; rfl, by rw [Below.heap_setCell _ _ _ _ (by intro x; exact h.ne x.symm)]; exact h.2⟩
set_option maxRecDepth 100000 in
theorem EyeAt.fail (h : EyeAt w e E A n c y) (x : Nat) : EyeAt (w.setCell ⟨E, 0, none⟩ (.int .i64 (x : Int))) e E A n c x :=
  ⟨by rw [Below.heap_setCell _ _ _ _ (by intro x; exact h.ne x)]; exact h.1, by rw [heap_setCell_same _ E 0 _ _ _ h.2]; rfl⟩
end
/-- An eye's own panic. -/
def pan (E : Nat) : Ending := .panicked [{ v := .iface 103 (.pointer (some ⟨E, 0, none⟩)), recovered := false }]
set_option maxRecDepth 100000 in
theorem ended_any (e E : Nat) (A : Option Addr) (n c y : Nat) (w : World) (h : EyeAt w e E A n c y) :
    Calls Try.prog 68 #[.pointer (some ⟨e, 0, none⟩)] w fun r w' => r = .returned (.bool (decide (y ≠ 0))) ∧ w' = w := by
  obtain ⟨c0, c1, c2, z0, z1, z2⟩ := h.cells
  have hd := Lib.hid (show ((y : Int) != 0) = decide (y ≠ 0) by rw [Bool.eq_iff_iff]; simp)
  go_enter Try.func68, Try.ntmps68
  go_wp2
  go_ret
  exact ⟨congrArg (fun b => Ending.returned (.bool b)) hd.out, rfl⟩
set_option maxRecDepth 100000 in
theorem left_any (e E : Nat) (A : Option Addr) (n c y : Nat) (w : World) (h : EyeAt w e E A n c y) :
    Calls Try.prog 69 #[.pointer (some ⟨e, 0, none⟩)] w fun r w' => r = .returned (.int .i64 (n : Int)) ∧ w' = w := by
  obtain ⟨c0, c1, c2, z0, z1, z2⟩ := h.cells
  go_enter Try.func69, Try.ntmps69
  go_wp2
  go_ret
  exact ⟨rfl, rfl⟩
set_option maxRecDepth 100000 in
theorem fail_any (e E : Nat) (A : Option Addr) (n c : Nat) (x : Nat) (w : World) (h : EyeAt w e E A n c 0) (hx : x ≠ 0) :
    Calls Try.prog 77 #[.pointer (some ⟨e, 0, none⟩), .int .i64 (x : Int)] w fun r w' => r = pan E ∧ EyeAt w' e E A n c x ∧ Turn (fun i => i = E) w w' := by
  obtain ⟨c0, c1, c2, z0, z1, z2⟩ := h.cells
  have hx2 : ¬ ((x : Int) = 0) := by omega
  have HE := Lib.hid (fun w => ended_any e E A n c 0 w)
  have HH := Lib.hid h
  clear h hx
  go_enter Try.func77, Try.ntmps77
  go_wp2_with (go_at_call 68; refine (HE.out _ HH.out).mono ?_; rintro r w' ⟨rfl, rfl⟩)
  exact ⟨rfl, rfl, HH.out.fail x, (Turn.refl _ _).setCell _ _ (fun _ => rfl)⟩
set_option maxRecDepth 100000 in
theorem fail_ok (e : Nat) (w : World) :
    Calls Try.prog 77 #[.pointer (some ⟨e, 0, none⟩), .int .i64 0] w fun r w' => r = .returned (.tuple #[]) ∧ w' = w := by
  go_enter Try.func77, Try.ntmps77
  go_wp2
  first | go_end0 | exact bodyPost_ret (results_none rfl _ _ _) rfl ⟨rfl, rfl⟩
set_option maxRecDepth 100000 in
theorem slice_hi64 (A : Option Addr) (len cap n : Nat) (h : n ≤ len) (hc : len ≤ cap) (w : World) : (Instr.slice 34 (.slice A len cap) none (some (.int .u64 (n : Int))) none).run Try.prog w = .ok (.slice A n cap) w := by
  rw [run_slice_h (P := Try.prog) w 34 A len cap (by kernel_rfl) .u64 (n : Int) (by omega) (by omega)]
  rw [show Try.prog.elem 34 = 5 by kernel_rfl, size_u8]
  simp [Result.andThen, sliced]
  cases A with
  | none => simp
  | some a => simp [Addr.add]
set_option maxRecDepth 100000 in
theorem slice_lo64 (A : Option Addr) (len cap n : Nat) (h : n ≤ len) (w : World) : (Instr.slice 34 (.slice A len cap) (some (.int .u64 (n : Int))) none none).run Try.prog w = .ok (.slice (cutA A cap n) (len - n) (cap - n)) w := by
  rw [run_slice_l (P := Try.prog) w 34 A len cap (by kernel_rfl) .u64 (n : Int) (by omega) (by omega)]
  rw [show Try.prog.elem 34 = 5 by kernel_rfl, size_u8]
  simp [Result.andThen, sliced, cutA]
set_option maxRecDepth 100000 in
theorem take_no (e E : Nat) (A : Option Addr) (n c k : Nat) (w : World) (h : EyeAt w e E A n c 0) (hk : n < k) (hn : n < 18446744073709551616) :
    Calls Try.prog 78 #[.pointer (some ⟨e, 0, none⟩), .int .u64 (k : Int)] w fun r w' => r = pan E ∧ EyeAt w' e E A n c 2 ∧ Turn (fun i => i = E) w w' := by
  obtain ⟨c0, c1, c2, z0, z1, z2⟩ := h.cells
  have HE := Lib.hid (fun w => ended_any e E A n c 0 w)
  have HF := Lib.hid (fun w h => fail_any e E A n c 2 w h (by decide))
  have HH := Lib.hid h
  clear h
  go_enter Try.func78, Try.ntmps78
  go_wp2_with (first
   | (go_at_call 68; refine (HE.out _ HH.out).mono ?_; rintro r w' ⟨rfl, rfl⟩)
   | (go_at_call 77; refine (HF.out _ HH.out).mono ?_; rintro r w2 ⟨rfl, h1, h2⟩; dsimp only [pan]; have h1 := Lib.hid h1; have h2 := Lib.hid h2))
  exact ⟨rfl, rfl, h1.out, h2.out⟩
set_option maxRecDepth 100000 in
theorem take_yes (e E : Nat) (A : Option Addr) (n c k : Nat) (w : World) (h : EyeAt w e E A n c 0) (hk : k ≤ n) (hc : n ≤ c) (hn : n < 18446744073709551616) :
    Calls Try.prog 78 #[.pointer (some ⟨e, 0, none⟩), .int .u64 (k : Int)] w fun r w' => r = .returned (.slice A k c) ∧ EyeAt w' e E (cutA A c k) (n - k) (c - k) 0 ∧ Turn (fun i => i = e) w w' := by
  obtain ⟨c0, c1, c2, z0, z1, z2⟩ := h.cells
  have HE := Lib.hid (fun w => ended_any e E A n c 0 w)
  have r1 := slice_hi64 A n c k hk hc
  have r2 := slice_lo64 A n c k hk
  have HH := Lib.hid h
  clear h
  go_enter Try.func78, Try.ntmps78
  go_wp2_with (go_at_call 68; refine (HE.out _ HH.out).mono ?_; rintro r w' ⟨rfl, rfl⟩)
  go_ret
  exact ⟨rfl, HH.out.set _ _ _, (Turn.refl _ _).setCell _ _ (fun _ => rfl)⟩

end
section
set_option linter.unusedVariables false
set_option linter.unusedSimpArgs false

open Go.RowKit
/- A number read, by definition: the error, the number, what is left. -/
def numE : List B8 → Nat
  | [] => 2
  | k :: r => if 8 < k.toNat then 3 else if r.length < k.toNat then 2 else if (r.take k.toNat).head? = some 0 then 3 else 0
def numV : List B8 → Nat
  | [] => 0
  | k :: r => valB (r.take k.toNat)
def numR : List B8 → List B8
  | [] => []
  | k :: r => r.drop k.toNat
/-- An eye with no error, and the bytes that are left: they lie in no block of N. -/
def Eye0 (w : World) (e E : Nat) (N : Nat → Prop) (l : List B8) : Prop := ∃ A c, EyeAt w e E A l.length c 0 ∧ SlN w N A (l.map bv) ∧ l.length ≤ c ∧ (A = none → c = 0) ∧ N e ∧ N E ∧ l.length ≤ 1099511627776
def EyeX (w : World) (e E x : Nat) : Prop := ∃ A n c, EyeAt w e E A n c x
set_option maxRecDepth 100000 in
theorem Eye0.turn {S : Nat → Prop} {w w' : World} {e E : Nat} {N : Nat → Prop} {l : List B8} (h : Eye0 w e E N l) (t : Turn S w w') (h1 : ¬ S e) (h2 : ¬ S E) (h3 : ∀ i, S i → N i) : Eye0 w' e E N l := by
  obtain ⟨A, c, he, hs, r⟩ := h
  exact ⟨A, c, he.turn t h1 h2, hs.turn t h3 (fun _ _ h => h), r⟩
set_option maxRecDepth 100000 in
theorem Turn.trans' {e E : Nat} {a b c : World} (h : Turn (fun i => i = e) a b) (k : Turn (fun i => i = E) b c) : Turn (fun i => i = e ∨ i = E) a c := (h.mono (fun _ _ h => .inl h)).trans k (fun _ _ h => .inr h)
set_option maxRecDepth 100000 in
theorem add_zero (a : Addr) : a.add 0 = a := by simp [Addr.add]
set_option maxRecDepth 100000 in
theorem Eye0.fresh {w : World} {e E : Nat} {N : Nat → Prop} {l : List B8} (h : Eye0 w e E N l) : Eye0 w e E (fun i => N i ∨ w.heap.size ≤ i) l := by
  obtain ⟨A, c, he, hs, hc, hA, hN, hN', hl⟩ := h
  refine ⟨A, c, he, fun j u hu => ?_, hc, hA, .inl hN, .inl hN', hl⟩
  obtain ⟨ad, e1, hb, hcl⟩ := hs j u hu
  have hlt := World.block_lt_of_cell? w _ hcl
  rw [add_block] at hlt
  exact ⟨ad, e1, fun h => h.elim hb (fun h => by omega), hcl⟩
set_option maxRecDepth 100000 in
theorem Eye0.weak {w : World} {e E : Nat} {N N' : Nat → Prop} {l : List B8} (h : Eye0 w e E N l) (hN : ∀ i, N' i → N i) (he : N' e) (hE : N' E) : Eye0 w e E N' l := by
  obtain ⟨A, c, hh, hs, hc, hA, -, -, hl⟩ := h
  refine ⟨A, c, hh, fun j u hu => ?_, hc, hA, he, hE, hl⟩
  obtain ⟨ad, e1, hb, hcl⟩ := hs j u hu
  exact ⟨ad, e1, fun h => hb (hN _ h), hcl⟩
set_option maxRecDepth 100000 in
theorem take0_yes (e E : Nat) (N : Nat → Prop) (k : Nat) (l : List B8) (w : World) (h : Eye0 w e E N l) (hk : k ≤ l.length) :
    Calls Try.prog 78 #[.pointer (some ⟨e, 0, none⟩), .int .u64 (k : Int)] w fun r w' => ∃ A c, r = .returned (.slice A k c) ∧ SlN w' N A ((l.take k).map bv) ∧ (A = none → c = 0) ∧ k ≤ c ∧ Eye0 w' e E N (l.drop k) ∧ Turn (fun i => i = e) w w' := by
  obtain ⟨A, c, he, hs, hc, hA, hB, hB', hl⟩ := h
  refine (take_yes e E A l.length c k w he hk hc (by omega)).mono ?_
  rintro r w' ⟨rfl, he', ht⟩
  refine ⟨A, c, rfl, by rw [List.map_take]; exact (hs.turn ht (fun i h => by rw [h]; exact hB) (fun _ _ h => h)).take k, hA, by omega, ⟨cutA A c k, c - k, by rw [List.length_drop]; exact he', ?_, by simp; omega, ?_, hB, hB', by simp; omega⟩, ht⟩
  · rw [List.map_drop]
    exact (hs.turn ht (fun i h => by rw [h]; exact hB) (fun _ _ h => h)).cut c k (by simpa using hc)
  · unfold cutA
    intro h0
    split at h0
    · omega
    · cases A with
      | none => have := hA rfl; omega
      | some a => cases h0
set_option maxRecDepth 100000 in
theorem take0_no (e E : Nat) (N : Nat → Prop) (k : Nat) (l : List B8) (w : World) (h : Eye0 w e E N l) (hk : l.length < k) :
    Calls Try.prog 78 #[.pointer (some ⟨e, 0, none⟩), .int .u64 (k : Int)] w fun r w' => r = pan E ∧ EyeX w' e E 2 ∧ Turn (fun i => i = E) w w' := by
  obtain ⟨A, c, he, hs, hc, hA, hB, hB', hl⟩ := h
  refine (take_no e E A l.length c k w he hk (by omega)).mono ?_
  rintro r w' ⟨rfl, he', ht⟩
  exact ⟨rfl, ⟨_, _, _, he'⟩, ht⟩
set_option maxRecDepth 100000 in
theorem fail0 (e E : Nat) (N : Nat → Prop) (x : Nat) (l : List B8) (w : World) (h : Eye0 w e E N l) (hx : x ≠ 0) :
    Calls Try.prog 77 #[.pointer (some ⟨e, 0, none⟩), .int .i64 (x : Int)] w fun r w' => r = pan E ∧ EyeX w' e E x ∧ Turn (fun i => i = E) w w' := by
  obtain ⟨A, c, he, hs, hc, hA, hB, hB', hl⟩ := h
  refine (fail_any e E A l.length c x w he hx).mono ?_
  rintro r w' ⟨rfl, he', ht⟩
  exact ⟨rfl, ⟨_, _, _, he'⟩, ht⟩
set_option maxRecDepth 100000 in
theorem value_at (A : Option Addr) (c : Nat) (N : Nat → Prop) (n v : Nat) (l : List B8) (w : World) (hs : SlN w N A (l.map bv)) (hn : l.length = n) (h8 : n ≤ 8) (hv : valB l = v) :
    Calls Try.prog 80 #[.slice A n c] w fun e w' => e = .returned (.int .u64 (v : Int)) ∧ w' = w := by
  subst hn hv; exact value_any A c _ l w hs.sl h8
set_option maxRecDepth 100000 in
set_option maxHeartbeats 2000000 in
theorem number_yes (e E : Nat) (N : Nat → Prop) (l : List B8) (w : World) (h : Eye0 w e E N l) (hx : numE l = 0) :
    Calls Try.prog 76 #[.pointer (some ⟨e, 0, none⟩)] w fun r w' => r = .returned (.int .u64 (numV l : Int)) ∧ Eye0 w' e E N (numR l) ∧ Turn (fun i => i = e) w w' := by
  cases l with
  | nil => simp [numE] at hx
  | cons k r =>
    simp only [numE] at hx
    by_cases h1 : 8 < k.toNat
    · simp [h1] at hx
    by_cases h2 : r.length < k.toNat
    · simp [h1, h2] at hx
    by_cases h3 : (r.take k.toNat).head? = some 0
    · simp [h1, h2, h3] at hx
    have T1 := Lib.hid (take0_yes e E N 1 (k :: r) w h (by simp))
    have T2 := Lib.hid (fun w h => take0_yes e E N k.toNat r w h (by omega))
    have H3 := Lib.hid h3
    have hk8 : k.toNat ≤ 8 := by omega
    have hlk : (r.take k.toNat).length = k.toNat := by simp; omega
    have HLK := Lib.hid hlk
    clear h h1 h2 h3 hx hlk
    by_cases h0 : k.toNat = 0
    · have h00 : ¬ ((0 : Int) < (k.toNat : Int)) := by omega
      clear h0
      go_enter Try.func76, Try.ntmps76
      go_wp2_with (go_at_call 78; refine T1.out.mono ?_; rintro q w1 ⟨A1, c1, rfl, hs1, hA1, hc1, he1, ht1⟩; have V1 := Lib.hid (value_at A1 c1 N 1 k.toNat [k] w1 hs1 rfl (by omega) (by simp [valB])); have HE1 := Lib.hid he1; have HT1 := Lib.hid ht1; clear hs1 hA1 hc1 he1 ht1)
      refine V1.out.mono ?_
      rintro q w' ⟨rfl, rfl⟩
      go_wp2_with (go_at_call 78; refine (T2.out _ HE1.out).mono ?_; rintro q w2 ⟨A2, c2, rfl, hs2, hA2, hc2, he2, ht2⟩; have V2 := Lib.hid (value_at A2 c2 N k.toNat (numV (k :: r)) _ w2 hs2 HLK.out hk8 rfl); have HE2 := Lib.hid he2; have HT2 := Lib.hid ht2; clear hs2 hA2 hc2 he2 ht2)
      refine V2.out.mono ?_
      rintro q w' ⟨rfl, rfl⟩
      go_wp2
      go_ret
      exact ⟨rfl, HE2.out, HT1.out.trans HT2.out (fun _ _ h => h)⟩
    · obtain ⟨x, hx⟩ : ∃ x, (r.take k.toNat)[0]? = some x := ⟨_, List.getElem?_eq_getElem (by have := HLK.out; omega)⟩
      have hx0 : ¬ ((x.toNat : Int) = 0) := by
        intro h
        refine H3.out ?_
        rw [List.head?_eq_getElem?, hx, BitVec.eq_of_toNat_eq (show x.toNat = (0 : B8).toNat by simpa using h)]
      have HX := Lib.hid hx
      clear hx
      go_enter Try.func76, Try.ntmps76
      go_wp2_with (go_at_call 78; refine T1.out.mono ?_; rintro q w1 ⟨A1, c1, rfl, hs1, hA1, hc1, he1, ht1⟩; have V1 := Lib.hid (value_at A1 c1 N 1 k.toNat [k] w1 hs1 rfl (by omega) (by simp [valB])); have HE1 := Lib.hid he1; have HT1 := Lib.hid ht1; clear hs1 hA1 hc1 he1 ht1)
      refine V1.out.mono ?_
      rintro q w' ⟨rfl, rfl⟩
      go_wp2_with (go_at_call 78; refine (T2.out _ HE1.out).mono ?_; rintro q w2 ⟨A2, c2, rfl, hs2, hA2, hc2, he2, ht2⟩; have V2 := Lib.hid (value_at A2 c2 N k.toNat (numV (k :: r)) _ w2 hs2 HLK.out hk8 rfl); obtain ⟨ad, rfl, -, hc⟩ := hs2.at (show ((r.take k.toNat).map bv)[0]? = some (bv x) by rw [List.getElem?_map, HX.out]; rfl); rw [add_zero] at hc; unfold bv at hc; have HE2 := Lib.hid he2; have HT2 := Lib.hid ht2; clear hs2 hA2 hc2 he2 ht2)
      refine V2.out.mono ?_
      rintro q w' ⟨rfl, rfl⟩
      go_wp2
      go_ret
      exact ⟨rfl, HE2.out, HT1.out.trans HT2.out (fun _ _ h => h)⟩
set_option maxRecDepth 100000 in
set_option maxHeartbeats 2000000 in
theorem number_no (e E : Nat) (N : Nat → Prop) (l : List B8) (w : World) (h : Eye0 w e E N l) (hx : numE l ≠ 0) :
    Calls Try.prog 76 #[.pointer (some ⟨e, 0, none⟩)] w fun r w' => r = pan E ∧ EyeX w' e E (numE l) ∧ Turn (fun i => i = e ∨ i = E) w w' := by
  cases l with
  | nil =>
    have T1 := Lib.hid (take0_no e E N 1 [] w h (by simp))
    clear h hx
    go_enter Try.func76, Try.ntmps76
    go_wp2_with (go_at_call 78; refine T1.out.mono ?_; rintro q w1 ⟨rfl, he1, ht1⟩; dsimp only [pan]; have HE1 := Lib.hid he1; have HT1 := Lib.hid ht1; clear he1 ht1)
    exact ⟨rfl, rfl, HE1.out, HT1.out.mono (fun _ _ h => .inr h)⟩
  | cons k r =>
    have T1 := Lib.hid (take0_yes e E N 1 (k :: r) w h (by simp))
    by_cases h1 : 8 < k.toNat
    · have T2 := Lib.hid (fun w h => fail0 e E N 3 r w h (by decide))
      have h3 : (8 : Int) < (k.toNat : Int) := by omega
      have hn : numE (k :: r) = 3 := by simp [numE, h1]
      rw [hn]
      have hk := k.isLt
      clear h hx h1 hn
      go_enter Try.func76, Try.ntmps76
      go_wp2_with (go_at_call 78; refine T1.out.mono ?_; rintro q w1 ⟨A1, c1, rfl, hs1, hA1, hc1, he1, ht1⟩; have V1 := Lib.hid (value_at A1 c1 N 1 k.toNat [k] w1 hs1 rfl (by omega) (by simp [valB])); have HE1 := Lib.hid he1; have HT1 := Lib.hid ht1; clear hs1 hA1 hc1 he1 ht1)
      refine V1.out.mono ?_
      rintro q w' ⟨rfl, rfl⟩
      go_wp2_with (go_at_call 77; refine (T2.out _ HE1.out).mono ?_; rintro q w2 ⟨rfl, he2, ht2⟩; dsimp only [pan]; have HE2 := Lib.hid he2; have HT2 := Lib.hid ht2; clear he2 ht2)
      exact ⟨rfl, rfl, HE2.out, HT1.out.trans' HT2.out⟩
    by_cases h2 : r.length < k.toNat
    · have T2 := Lib.hid (fun w h => take0_no e E N k.toNat r w h h2)
      have hn : numE (k :: r) = 2 := by simp [numE, h1, h2]
      rw [hn]
      clear h hx h2 hn
      have h3 : ¬ (8 : Int) < (k.toNat : Int) := by omega
      clear h1
      go_enter Try.func76, Try.ntmps76
      go_wp2_with (go_at_call 78; refine T1.out.mono ?_; rintro q w1 ⟨A1, c1, rfl, hs1, hA1, hc1, he1, ht1⟩; have V1 := Lib.hid (value_at A1 c1 N 1 k.toNat [k] w1 hs1 rfl (by omega) (by simp [valB])); have HE1 := Lib.hid he1; have HT1 := Lib.hid ht1; clear hs1 hA1 hc1 he1 ht1)
      refine V1.out.mono ?_
      rintro q w' ⟨rfl, rfl⟩
      go_wp2_with (go_at_call 78; refine (T2.out _ HE1.out).mono ?_; rintro q w2 ⟨rfl, he2, ht2⟩; dsimp only [pan]; have HE2 := Lib.hid he2; have HT2 := Lib.hid ht2; clear he2 ht2)
      exact ⟨rfl, rfl, HE2.out, HT1.out.trans' HT2.out⟩
    by_cases h3 : (r.take k.toNat).head? = some 0
    · have hk0 : ¬ k.toNat = 0 := by intro h0; rw [h0] at h3; simp at h3
      have hlk : (r.take k.toNat).length = k.toNat := by simp; omega
      have T2 := Lib.hid (fun w h => take0_yes e E N k.toNat r w h (by omega))
      have T3 := Lib.hid (fun w h => fail0 e E N 3 (r.drop k.toNat) w h (by decide))
      have hn : numE (k :: r) = 3 := by simp [numE, h1, h2, h3]
      rw [hn]
      have HX := Lib.hid (show (r.take k.toNat)[0]? = some 0 by rw [← List.head?_eq_getElem?]; exact h3)
      have h8 : ¬ (8 : Int) < (k.toNat : Int) := by omega
      clear h hx h1 h2 h3 hn hlk
      go_enter Try.func76, Try.ntmps76
      go_wp2_with (go_at_call 78; refine T1.out.mono ?_; rintro q w1 ⟨A1, c1, rfl, hs1, hA1, hc1, he1, ht1⟩; have V1 := Lib.hid (value_at A1 c1 N 1 k.toNat [k] w1 hs1 rfl (by omega) (by simp [valB])); have HE1 := Lib.hid he1; have HT1 := Lib.hid ht1; clear hs1 hA1 hc1 he1 ht1)
      refine V1.out.mono ?_
      rintro q w' ⟨rfl, rfl⟩
      go_wp2_with (first
        | (go_at_call 78; refine (T2.out _ HE1.out).mono ?_; rintro q w2 ⟨A2, c2, rfl, hs2, hA2, hc2, he2, ht2⟩; obtain ⟨ad, rfl, -, hc⟩ := hs2.at (show ((r.take k.toNat).map bv)[0]? = some (.int .u8 0) by rw [List.getElem?_map, HX.out]; rfl); rw [add_zero] at hc; have HE2 := Lib.hid he2; have HT2 := Lib.hid ht2; clear hs2 hA2 hc2 he2 ht2)
        | (go_at_call 77; refine (T3.out _ HE2.out).mono ?_; rintro q w3 ⟨rfl, he3, ht3⟩; dsimp only [pan]; have HE3 := Lib.hid he3; have HT3 := Lib.hid ht3; clear he3 ht3))
      exact ⟨rfl, rfl, HE3.out, (HT1.out.trans HT2.out (fun _ _ h => h)).trans' HT3.out⟩
    · exact absurd (by simp only [numE]; rw [if_neg h1, if_neg h2, if_neg h3]) hx

end
section
set_option linter.unusedVariables false

open Go.RowKit
def eNum (most : Nat) (l : List B8) : Nat := if numE l ≠ 0 then numE l else if most < numV l then 5 else 0
def eText (most : Int) (l : List B8) : Nat := if numE l ≠ 0 then numE l else if most < 0 ∨ most < (numV l : Int) then 5 else if (numR l).length < numV l then 2 else 0
set_option maxRecDepth 100000 in
theorem numV_lt (l : List B8) (h : numE l = 0) : numV l < 18446744073709551616 := by
  cases l with
  | nil => simp [numV]
  | cons k r =>
    have h8 : ¬ 8 < k.toNat := by intro h1; simp [numE, h1] at h
    have h1 := valB_lt (r.take k.toNat)
    have h2 : 256 ^ (r.take k.toNat).length ≤ 256 ^ 8 := Nat.pow_le_pow_right (by decide) (by simp; omega)
    simp only [numV]
    have h3 : (256 : Nat) ^ 8 = 18446744073709551616 := by decide
    omega
set_option maxRecDepth 100000 in
theorem num_yes (e E : Nat) (N : Nat → Prop) (most : Nat) (l : List B8) (w : World) (h : Eye0 w e E N l) (hx : eNum most l = 0) :
    Calls Try.prog 70 #[.pointer (some ⟨e, 0, none⟩), .int .u64 (most : Int)] w fun r w' => r = .returned (.int .u64 (numV l : Int)) ∧ Eye0 w' e E N (numR l) ∧ Turn (fun i => i = e) w w' := by
  unfold eNum at hx
  by_cases h1 : numE l ≠ 0
  · rw [if_pos h1] at hx; exact absurd hx h1
  rw [if_neg h1] at hx
  have h2 : ¬ most < numV l := by intro h; rw [if_pos h] at hx; cases hx
  have T := Lib.hid (number_yes e E N l w h (by omega))
  have h3 : ¬ ((most : Int) < (numV l : Int)) := by omega
  clear h hx h1 h2
  generalize numV l = v at *
  go_enter Try.func70, Try.ntmps70
  go_wp2_with (go_at_call 76; refine T.out.mono ?_; rintro q w1 ⟨rfl, he1, ht1⟩; have HE1 := Lib.hid he1; have HT1 := Lib.hid ht1; clear he1 ht1)
  go_ret
  exact ⟨rfl, HE1.out, HT1.out⟩
set_option maxRecDepth 100000 in
theorem num_no (e E : Nat) (N : Nat → Prop) (most : Nat) (l : List B8) (w : World) (h : Eye0 w e E N l) (hx : eNum most l ≠ 0) :
    Calls Try.prog 70 #[.pointer (some ⟨e, 0, none⟩), .int .u64 (most : Int)] w fun r w' => r = pan E ∧ EyeX w' e E (eNum most l) ∧ Turn (fun i => i = e ∨ i = E) w w' := by
  unfold eNum at hx ⊢
  by_cases h1 : numE l ≠ 0
  · rw [if_pos h1]
    have T := Lib.hid (number_no e E N l w h h1)
    clear h hx h1
    go_enter Try.func70, Try.ntmps70
    go_wp2_with (go_at_call 76; refine T.out.mono ?_; rintro q w1 ⟨rfl, he1, ht1⟩; dsimp only [pan]; have HE1 := Lib.hid he1; have HT1 := Lib.hid ht1; clear he1 ht1)
    exact ⟨rfl, rfl, HE1.out, HT1.out⟩
  rw [if_neg h1] at hx ⊢
  by_cases h2 : most < numV l
  · rw [if_pos h2]
    have T := Lib.hid (number_yes e E N l w h (by omega))
    have T2 := Lib.hid (fun w h => fail0 e E N 5 (numR l) w h (by decide))
    have h3 : ((most : Int) < (numV l : Int)) := by omega
    clear h hx h1 h2
    generalize numV l = v at *
    go_enter Try.func70, Try.ntmps70
    go_wp2_with (first
      | (go_at_call 76; refine T.out.mono ?_; rintro q w1 ⟨rfl, he1, ht1⟩; have HE1 := Lib.hid he1; have HT1 := Lib.hid ht1; clear he1 ht1)
      | (go_at_call 77; refine (T2.out _ HE1.out).mono ?_; rintro q w2 ⟨rfl, he2, ht2⟩; dsimp only [pan]; have HE2 := Lib.hid he2; have HT2 := Lib.hid ht2; clear he2 ht2))
    exact ⟨rfl, rfl, HE2.out, HT1.out.trans' HT2.out⟩
  · rw [if_neg h2] at hx; exact absurd rfl hx
set_option maxRecDepth 100000 in
theorem clone_at (A : Option Addr) (c n : Nat) (N : Nat → Prop) (xs : List B8) (w : World) (hx : SlN w N A (xs.map bv)) (hn : xs.length = n) (hA : A = none → c = 0) (hc : n ≤ c) (hlen : n ≤ 1099511627776) :
    Calls Try.prog 59 #[.slice A n c] w fun e w' => ∃ v, e = .returned v ∧ w'.ownsRow w.heap.size 5 1 v n (xs.map bv) ∧ Turn (fun _ => False) w w' := by
  subst hn; exact clone_any A c _ xs w hx.sl hA hc hlen
set_option maxRecDepth 100000 in
theorem Eye0.lt {w : World} {e E : Nat} {N : Nat → Prop} {l : List B8} (h : Eye0 w e E N l) : e < w.heap.size ∧ E < w.heap.size ∧ e ≠ E ∧ N e ∧ N E ∧ l.length ≤ 1099511627776 := by
  obtain ⟨A, c, he, hs, hc, hA, hB, hB', hl⟩ := h
  exact ⟨he.lt.1, he.lt.2, he.ne, hB, hB', hl⟩
set_option maxRecDepth 100000 in
set_option maxHeartbeats 1000000 in
theorem text_yes (e E : Nat) (N : Nat → Prop) (most : Int) (l : List B8) (w : World) (h : Eye0 w e E N l) (hx : eText most l = 0) (hm : most < 9223372036854775808) :
    Calls Try.prog 72 #[.pointer (some ⟨e, 0, none⟩), .int .i64 most] w fun r w' => ∃ v, r = .returned v ∧ w'.ownsRow w.heap.size 5 1 v (numV l) (((numR l).take (numV l)).map bv) ∧ Eye0 w' e E N ((numR l).drop (numV l)) ∧ Turn (fun i => i = e) w w' := by
  unfold eText at hx
  by_cases h1 : numE l ≠ 0
  · rw [if_pos h1] at hx; exact absurd hx h1
  rw [if_neg h1] at hx
  by_cases h2 : most < 0 ∨ most < (numV l : Int)
  · rw [if_pos h2] at hx; cases hx
  rw [if_neg h2] at hx
  by_cases h4 : (numR l).length < numV l
  · rw [if_pos h4] at hx; cases hx
  have T := Lib.hid (number_yes e E N l w h (by omega))
  obtain ⟨m, rfl⟩ : ∃ m : Nat, most = (m : Int) := ⟨most.toNat, by omega⟩
  have h3 : ¬ ((m : Int) < (numV l : Int)) := by omega
  have T2 := Lib.hid (fun w h => take0_yes e E N (numV l) (numR l) w h (by omega))
  have h5 : m < 9223372036854775808 := by omega
  have HL := Lib.hid (show ((numR l).take (numV l)).length = numV l by simp; omega)
  have hlt := h.lt
  clear h hx h1 h2 h4 hm
  generalize numV l = v at *
  generalize numR l = r at *
  go_enter Try.func72, Try.ntmps72
  go_wp2_with (first
    | (go_at_call 76; refine T.out.mono ?_; rintro q w1 ⟨rfl, he1, ht1⟩; have HE1 := Lib.hid he1; have HT1 := Lib.hid ht1; clear he1 ht1)
    | (go_at_call 78; refine (T2.out _ HE1.out).mono ?_; rintro q w2 ⟨A2, c2, rfl, hs2, hA2, hc2, he2, ht2⟩; have V2 := Lib.hid (clone_at A2 c2 v N _ w2 hs2 HL.out hA2 hc2 (by have := HE1.out.lt; have := congrArg List.length (List.take_append_drop v r); have := HL.out; simp at *; omega)); have HE2 := Lib.hid he2; have HT2 := Lib.hid ht2; clear hs2 hA2 hc2 he2 ht2)
    | (go_at_call 59; refine V2.out.mono ?_; rintro q w3 ⟨v3, rfl, ho3, ht3⟩; have HO3 := Lib.hid ho3; have HT3 := Lib.hid ht3; clear ho3 ht3))
  go_ret
  have s1 := HT1.out.size
  have s2 := HT2.out.size
  have l2 := HE2.out.lt
  exact ⟨v3, rfl, own_more HO3.out (by omega), HE2.out.turn HT3.out (fun h => h) (fun h => h) (fun _ h => h.elim), (HT1.out.trans HT2.out (fun _ _ h => h)).trans HT3.out (fun _ _ h => h.elim)⟩
set_option maxRecDepth 100000 in
set_option maxHeartbeats 1000000 in
theorem text_no (e E : Nat) (N : Nat → Prop) (most : Int) (l : List B8) (w : World) (h : Eye0 w e E N l) (hx : eText most l ≠ 0) (hm : most < 9223372036854775808) (hm2 : -9223372036854775808 ≤ most) :
    Calls Try.prog 72 #[.pointer (some ⟨e, 0, none⟩), .int .i64 most] w fun r w' => r = pan E ∧ EyeX w' e E (eText most l) ∧ Turn (fun i => i = e ∨ i = E) w w' := by
  unfold eText at hx ⊢
  by_cases h1 : numE l ≠ 0
  · rw [if_pos h1]
    have T := Lib.hid (number_no e E N l w h h1)
    clear h hx h1
    go_enter Try.func72, Try.ntmps72
    go_wp2_with (go_at_call 76; refine T.out.mono ?_; rintro q w1 ⟨rfl, he1, ht1⟩; dsimp only [pan]; have HE1 := Lib.hid he1; have HT1 := Lib.hid ht1; clear he1 ht1)
    exact ⟨rfl, rfl, HE1.out, HT1.out⟩
  rw [if_neg h1] at hx ⊢
  have T := Lib.hid (number_yes e E N l w h (by omega))
  by_cases h2 : most < 0 ∨ most < (numV l : Int)
  · rw [if_pos h2]
    have T2 := Lib.hid (fun w h => fail0 e E N 5 (numR l) w h (by decide))
    by_cases h3 : most < 0
    · clear h hx h1 h2
      generalize numV l = v at *
      go_enter Try.func72, Try.ntmps72
      go_wp2_with (first
        | (go_at_call 76; refine T.out.mono ?_; rintro q w1 ⟨rfl, he1, ht1⟩; have HE1 := Lib.hid he1; have HT1 := Lib.hid ht1; clear he1 ht1)
        | (go_at_call 77; refine (T2.out _ HE1.out).mono ?_; rintro q w2 ⟨rfl, he2, ht2⟩; dsimp only [pan]; have HE2 := Lib.hid he2; have HT2 := Lib.hid ht2; clear he2 ht2))
      exact ⟨rfl, rfl, HE2.out, HT1.out.trans' HT2.out⟩
    · obtain ⟨m, rfl⟩ : ∃ m : Nat, most = (m : Int) := ⟨most.toNat, by omega⟩
      have h3 : ((m : Int) < (numV l : Int)) := by omega
      have h5 : m < 9223372036854775808 := by omega
      clear h hx h1 h2 hm hm2
      generalize numV l = v at *
      go_enter Try.func72, Try.ntmps72
      go_wp2_with (first
        | (go_at_call 76; refine T.out.mono ?_; rintro q w1 ⟨rfl, he1, ht1⟩; have HE1 := Lib.hid he1; have HT1 := Lib.hid ht1; clear he1 ht1)
        | (go_at_call 77; refine (T2.out _ HE1.out).mono ?_; rintro q w2 ⟨rfl, he2, ht2⟩; dsimp only [pan]; have HE2 := Lib.hid he2; have HT2 := Lib.hid ht2; clear he2 ht2))
      exact ⟨rfl, rfl, HE2.out, HT1.out.trans' HT2.out⟩
  rw [if_neg h2] at hx ⊢
  by_cases h4 : (numR l).length < numV l
  · rw [if_pos h4]
    obtain ⟨m, rfl⟩ : ∃ m : Nat, most = (m : Int) := ⟨most.toNat, by omega⟩
    have h3 : ¬ ((m : Int) < (numV l : Int)) := by omega
    have T2 := Lib.hid (fun w h => take0_no e E N (numV l) (numR l) w h h4)
    have h5 : m < 9223372036854775808 := by omega
    clear h hx h1 h2 h4 hm hm2
    generalize numV l = v at *
    go_enter Try.func72, Try.ntmps72
    go_wp2_with (first
      | (go_at_call 76; refine T.out.mono ?_; rintro q w1 ⟨rfl, he1, ht1⟩; have HE1 := Lib.hid he1; have HT1 := Lib.hid ht1; clear he1 ht1)
      | (go_at_call 78; refine (T2.out _ HE1.out).mono ?_; rintro q w2 ⟨rfl, he2, ht2⟩; dsimp only [pan]; have HE2 := Lib.hid he2; have HT2 := Lib.hid ht2; clear he2 ht2))
    exact ⟨rfl, rfl, HE2.out, HT1.out.trans' HT2.out⟩
  · rw [if_neg h4] at hx; exact absurd rfl hx

end
section
set_option linter.unusedVariables false

open Go.RowKit
set_option maxRecDepth 100000 in
theorem step_enter {P : Program} {ops : Array Oper} {o : Oper} {a : Act} {w : World} {K : Act → World → Prop} {Q : Exit → Act → World → Prop} {E : Prop} (hgd : o.guard = none) (f : FuncId) (vs : Array Value) (hrun : (execOp a.eval o).run P w = .ok (.enter f vs) w)
    (h : Calls P f vs w fun
      | .returned v, w'' => K (a.put o.dst v) w''
      | .panicked chain, w'' => Q (.panic chain) a w''
      | .outgrown, _ => LetsOut Q) :
    if Region.wanted o (yielded ops a.tmps) = true then Oper.wp P o a w K Q else E := by
  have hw : Region.wanted o (yielded ops a.tmps) = true := by simp [Region.wanted, hgd]
  rw [if_pos hw]
  unfold Oper.wp
  rw [hrun]
  exact h
set_option maxRecDepth 100000 in
theorem slice_idz (b : Nat) (w : World) : (Instr.sliceAt 90 (.pointer (some ⟨b, 0, none⟩)) none none none).run Try.prog w = .ok (.slice (some ⟨b, 0, none⟩) 32 32) w := by
  have e : Try.prog.arrayLen 90 = 32 := by kernel_rfl
  rw [run_sliceAt_array_all (P := Try.prog) w 90 ⟨b, 0, none⟩ (by kernel_rfl)]
  rw [show Try.prog.elem 90 = 5 by kernel_rfl, size_u8, e]
  simp [Result.andThen, slicedAt, Addr.add]
set_option maxRecDepth 100000 in
theorem Eye0.alloc {w : World} {e E : Nat} {N : Nat → Prop} {l : List B8} (h : Eye0 w e E N l) (o : Obj) : Eye0 (w.alloc o) e E N l := h.turn ((Turn.refl (fun _ => False) w).alloc o) (fun h => h) (fun h => h) (fun _ h => h.elim)
set_option maxRecDepth 100000 in
theorem Eye0.drew {w : World} {e E : Nat} {N : Nat → Prop} {l : List B8} (h : Eye0 w e E N l) : Eye0 w.drew e E N l := h.turn ((Turn.refl (fun _ => False) w).drew) (fun h => h) (fun h => h) (fun _ h => h.elim)
def zero32 : Array Value := ((zeros 32).map bv).toArray
set_option maxRecDepth 100000 in
theorem id_cells (l : List B8) (w : World) (b : Nat) (h : Hid (w.heap[b]? = some (.cells (splice ((zeros 32).map bv) 0 ((l.take 32).map bv)).toArray 90 (0, 0)))) (hl : 32 ≤ l.length) : w.heap[b]? = some (.cells ((l.take 32).map bv).toArray 90 (0, 0)) := by
  rw [h.out]
  congr 3
  unfold splice
  have : (((l.take 32).map bv)).length = 32 := by simp; omega
  simp [zeros]; omega

end
section
set_option linter.unusedVariables false

open Go.RowKit
set_option maxRecDepth 100000 in
theorem wpList_append_any_at {P : Program} {w : World} {ops : Array Oper} {rest : List Oper} {o : Oper} {a : Act} {Q : Exit → Act → World → Prop} (hgd : o.guard = none) (s x : Operand) (t : TypeId)
    (ho : o.op = .call { callee := .builtin .append, args := #[s, x], argTypes := #[t, t] })
    (base : Nat) (e : TypeId) (i : TypeInfo) (z : Value) (bytes : Nat) (ht : P.underlying t = some (.slice e)) (hi : P.info? e = some i) (hz : i.zero = some z)
    (hsize : i.size = 1) (hby : i.bytes = bytes) (hzs : z.cells.size = 1)
    (v : Value) (n : Nat) (xs : List Value) (hs : a.eval s = v) (hown : w.ownsRow base e 1 v n xs)
    (A : Option Addr) (m c : Nat) (news : List Value) (hx : a.eval x = .slice A m c) (hA : A = none → c = 0) (hl : news.length = m) (hnews : ∀ (j : Nat) (u : Value), news[j]? = some u → ∃ ad, A = some ad ∧ w.cell? (ad.add j) = some u) (h1 : ∀ u ∈ news, u.oneCell' = true)
    (h63 : n + m ≤ maxLen) (hbytes : (n + m) * bytes ≤ 140737488355328) (hbase : base ≤ w.heap.size)
    (h : ∀ v' w', w'.ownsRow base e 1 v' (n + m) (xs ++ news) → w.grownBy w' v.ownBlock → (v'.ownBlock = v.ownBlock ∨ v'.ownBlock = some w.heap.size) → wpList P ops Q rest (a.put o.dst v') w') : wpList P ops Q (o :: rest) a w := by
  cases A with
  | none =>
    obtain rfl := hA rfl
    have hn : news = [] := by
      cases news with
      | nil => rfl
      | cons u l => obtain ⟨ad, e, _⟩ := hnews 0 u rfl; cases e
    subst hn
    obtain rfl : m = 0 := by simpa using hl.symm
    refine wpList_append_own_none hgd s x t ho base e i 1 ht hi v n xs hs hown hx ?_
    exact h v w (by simpa using hown) ⟨rfl, rfl, rfl, Nat.le_refl _, fun _ _ _ => rfl⟩ (.inl rfl)
  | some ad =>
    refine wpList_append_own_at w hgd s x t ho base e i z 1 bytes ht hi hz hsize hby hzs (by decide) v n xs hs hown ad m c news hx (by omega) (fun j u hu => ?_) h1 h63 hbytes hbase (fun v' w' h2 h3 _ h5 => h v' w' h2 h3 h5)
    obtain ⟨ad', e, hc⟩ := hnews j u hu
    injection e with e; subst e; exact hc
/-- A pen in block p that has written xs: they lie in a row of its own, v, from block B on. -/
def PenAt (w : World) (p B : Nat) (v : Value) (xs : List B8) : Prop := w.heap[p]? = some (.cells #[v] 78 (0, 0)) ∧ w.ownsRow B 5 1 v xs.length (xs.map bv) ∧ p < B ∧ B ≤ w.heap.size
/-- What a pen's writing turns: the pen, and its row; its new row is the old one, or a new one. -/
def PenStep (w w' : World) (p : Nat) (v v' : Value) : Prop := Turn (fun i => i = p ∨ some i = v.ownBlock) w w' ∧ (v'.ownBlock = v.ownBlock ∨ ∃ g, v'.ownBlock = some g ∧ w.heap.size ≤ g)
set_option maxRecDepth 100000 in
theorem PenStep.refl (w : World) (p : Nat) (v : Value) : PenStep w w p v v := ⟨Turn.refl _ _, .inl rfl⟩
set_option maxRecDepth 100000 in
theorem PenStep.trans {a b c : World} {p : Nat} {v v' v'' : Value} (h : PenStep a b p v v') (k : PenStep b c p v' v'') : PenStep a c p v v'' := by
  refine ⟨h.1.trans k.1 (fun i hi hs => ?_), ?_⟩
  · rcases hs with hs | hs
    · exact .inl hs
    · rcases h.2 with e | ⟨g, e, hg⟩
      · rw [e] at hs; exact .inr hs
      · rw [e] at hs; injection hs with hs; omega
  · rcases k.2 with e | ⟨g, e, hg⟩
    · rw [e]; exact h.2
    · exact .inr ⟨g, e, by have := h.1.size; omega⟩
set_option maxRecDepth 100000 in
theorem PenAt.cell {w : World} {p B : Nat} {v : Value} {xs : List B8} (h : PenAt w p B v xs) : w.cell? ⟨p, 0, none⟩ = some v ∧ w.frozen? ⟨p, 0, none⟩ = false := ⟨by rw [cell_of_row w p 0 _ _ _ h.1]; rfl, frozen_of_row w p 0 _ _ h.1⟩
set_option maxRecDepth 100000 in
theorem PenAt.ne {w : World} {p B : Nat} {v : Value} {xs : List B8} (h : PenAt w p B v xs) : ¬ some p = v.ownBlock := by
  intro e
  have := (h.2.1.lt p e.symm).1
  have := h.2.2.1
  omega
set_option maxRecDepth 100000 in
theorem PenAt.turn {S : Nat → Prop} {w w' : World} {p B : Nat} {v : Value} {xs : List B8} (h : PenAt w p B v xs) (t : Turn S w w') (h1 : ¬ S p) (h2 : ∀ g, v.ownBlock = some g → ¬ S g) : PenAt w' p B v xs :=
  ⟨t.heap h.1 h1, t.own h.2.1 h2, h.2.2.1, Nat.le_trans h.2.2.2 t.size⟩
set_option maxRecDepth 100000 in
theorem pen_store {w wa w1 : World} {p B : Nat} {v v1 : Value} {xs ys : List B8} (h : PenAt w p B v xs) (ta : Turn (fun _ => False) w wa) (own1 : w1.ownsRow B 5 1 v1 (xs.length + ys.length) (xs.map bv ++ ys.map bv))
    (gr : wa.grownBy w1 v.ownBlock) (at1 : v1.ownBlock = v.ownBlock ∨ ∃ g, v1.ownBlock = some g ∧ w.heap.size ≤ g) : PenAt (w1.setCell ⟨p, 0, none⟩ v1) p B v1 (xs ++ ys) ∧ PenStep w (w1.setCell ⟨p, 0, none⟩ v1) p v v1 := by
  have hp1 : w1.heap[p]? = some (.cells #[v] 78 (0, 0)) := (gr.block p (Nat.lt_of_lt_of_le (lt_of_block h.1) ta.size) h.ne).trans (ta.heap h.1 (fun h => h))
  refine ⟨⟨by rw [heap_setCell_same _ p 0 _ _ _ hp1]; rfl, ?_, h.2.2.1, ?_⟩, ?_, at1⟩
  · rw [List.length_append, List.map_append]
    exact ownsRow_setCell_below own1 (by exact h.2.2.1) _
  · have := gr.size; have := ta.size; have := h.2.2.2; simp [World.setCell]; omega
  · exact ((ta.mono (S := fun i => i = p ∨ some i = v.ownBlock) (fun _ _ h => h.elim)).grown gr (fun i _ e => .inr e)).setCell _ _ (fun _ => .inl rfl)
set_option maxRecDepth 100000 in
theorem pen_cell {w wa w1 : World} {p B : Nat} {v : Value} {xs : List B8} (h : PenAt w p B v xs) (ta : Turn (fun _ => False) w wa) (gr : wa.grownBy w1 v.ownBlock) : w1.cell? ⟨p, 0, none⟩ = some v ∧ w1.frozen? ⟨p, 0, none⟩ = false := by
  have hp1 : w1.heap[p]? = some (.cells #[v] 78 (0, 0)) := (gr.block p (Nat.lt_of_lt_of_le (lt_of_block h.1) ta.size) h.ne).trans (ta.heap h.1 (fun h => h))
  exact ⟨by rw [cell_of_row w1 p 0 _ _ _ hp1]; rfl, frozen_of_row w1 p 0 _ _ hp1⟩
set_option maxRecDepth 100000 in
set_option maxHeartbeats 1000000 in
theorem pnum_any (p B : Nat) (v : Value) (xs : List B8) (n : Nat) (w : World) (h : PenAt w p B v xs) (hn : n < 18446744073709551616) (hlen : xs.length + 9 ≤ 1099511627776) :
    Calls Try.prog 51 #[.pointer (some ⟨p, 0, none⟩), .int .u64 (n : Int)] w fun r w' => r = .returned (.tuple #[]) ∧ ∃ v', PenAt w' p B v' (xs ++ numB n) ∧ PenStep w w' p v v' := by
  obtain ⟨i0, hi, hz0, hz1, hz2⟩ := info_parts info_u8
  have c0 : w.cell? ⟨p, 0, none⟩ = some v := by rw [cell_of_row w p 0 _ _ _ h.1]; rfl
  have z0 := frozen_of_row w p 0 _ _ h.1
  obtain ⟨L, hL, hL64⟩ : ∃ L, L = Lib.bitLen n ∧ L ≤ 64 := ⟨_, rfl, bitLen_le n hn⟩
  have hk := klen_bitLen n hn
  have e1 := fun w => len64_any n w hn
  rw [← hL] at hk e1
  have E1 := Lib.hid e1
  obtain ⟨k, hkk⟩ : ∃ k, k = klen n := ⟨_, rfl⟩
  have hk8 : k ≤ 8 := by rw [hkk]; exact klen_eight hn
  have hq : ((L : Int) + 7).tdiv 8 = (k : Int) := by rw [Int.tdiv_eq_ediv_of_nonneg (by omega)]; omega
  have HK := Lib.hid hkk
  have HH := Lib.hid h
  clear h hL hk e1 hkk
  go_enter Try.func51, Try.ntmps51
  go_upto_region 1 with (go_at_call 65; refine (E1.out _).mono ?_; rintro r w' ⟨rfl, rfl⟩)
  go_step
  iterate 24 go_step
  have hkb : Value.int IntKind.u8 (k : Int) = bv (BitVec.ofNat 8 k) := by unfold bv; rw [BitVec.toNat_ofNat, Nat.mod_eq_of_lt (by omega)]
  have ta : Turn (fun _ => False) w' (w'.alloc (.cells #[Value.int IntKind.u8 (k : Int)] 5)) := (Turn.refl _ _).alloc _
  refine wpList_append_any_at (o := ⟨some 18, _, _, _, _, _⟩) rfl _ _ 34 rfl B 5 i0 (.int .u8 0) 1 Try.underlying34 hi hz0 hz1 hz2 rfl v xs.length (xs.map bv) rfl (HH.out.2.1.alloc _) (some ⟨w'.heap.size, 0, none⟩) 1 1 [bv (BitVec.ofNat 8 k)] rfl (fun h => by cases h) rfl ?_ (bv_one [BitVec.ofNat 8 k]) ?_ ?_ ?_ ?_
  · intro j u hu
    rw [← hkb] at hu
    exact ⟨_, rfl, World.news_of_block (heap_alloc_new w' (.cells #[Value.int IntKind.u8 (k : Int)] 5)) j u hu⟩
  · unfold maxLen; omega
  · omega
  · have := HH.out.2.2.2; simp; omega
  intro v1 w1 own1 gr1 at1
  have hps := pen_store (ys := [BitVec.ofNat 8 k]) HH.out ta own1 gr1 (at1.imp id (fun e => ⟨_, e, by simp⟩))
  have hg1 : w1.heap[p]? = some (.cells #[v] 78 (0, 0)) := (gr1.block p (by have := lt_of_block HH.out.1; simp; omega) HH.out.ne).trans (ta.heap HH.out.1 (fun h => h))
  have c1 : w1.cell? ⟨p, 0, none⟩ = some v := by rw [cell_of_row w1 p 0 _ _ _ hg1]; rfl
  have z1 := frozen_of_row w1 p 0 _ _ hg1
  have HPS := Lib.hid hps
  obtain ⟨A1, n1, rfl, -⟩ := own_sl own1
  clear own1 gr1 at1 ta hg1 c0 z0 hps hkb
  go_wp2
  obtain ⟨w2, hw2⟩ : ∃ w2, w2 = w1.setCell ⟨p, 0, none⟩ (.slice A1 (xs.length + 1) n1) := ⟨_, rfl⟩
  change PenAt (w1.setCell ⟨p, 0, none⟩ (.slice A1 (xs.length + 1) n1)) _ _ _ _ ∧ PenStep _ (w1.setCell ⟨p, 0, none⟩ (.slice A1 (xs.length + 1) n1)) _ _ _ at HPS
  rw [← hw2] at HPS ⊢
  clear hw2 c1 z1
  have HN := Lib.hid (show numB n = BitVec.ofNat 8 k :: beN k n by rw [HK.out]; rfl)
  go_loopw [5] (fun i wr => ∃ (m : Nat) (z : Int) (u : Value) (W : List B8), i = .int .i64 z ∧ z ≤ (m : Int) - 1 ∧ (m : Int) - 1 ≤ z ∧ m ≤ k ∧ W ++ beN m n = xs ++ numB n ∧ PenAt wr p B u W ∧ PenStep w' wr p v u) (fun i _ => (intOf i + 1).toNat)
  case atStart => exact ⟨k, _, _, xs ++ [BitVec.ofNat 8 k], rfl, by omega, by omega, Nat.le_refl _, by rw [HN.out]; simp, HPS.1, HPS.2⟩
  case round =>
    clear HPS
    obtain ⟨m, z, u, W, rfl, hz1', hz2', hmk, hW, hP, hS⟩ := hrel
    have hWl : W.length + m = xs.length + 1 + k := by
      have := congrArg List.length hW
      rw [HN.out] at this
      simp [beN_len] at this; omega
    have HW := Lib.hid hW
    have HP := Lib.hid hP
    have HS := Lib.hid hS
    clear hW hP hS
    by_cases h0 : m = 0
    · subst h0
      obtain rfl : z = -1 := by omega
      have hW := HW.out
      rw [beN, List.append_nil] at hW
      subst hW
      go_wp2
      first | go_end0 | refine bodyPost_ret (results_none rfl _ _ _) rfl ?_
      exact ⟨rfl, _, HP.out, HS.out⟩
    · obtain ⟨q, rfl⟩ : ∃ q, m = q + 1 := ⟨m - 1, by omega⟩
      obtain rfl : z = (q : Int) := by omega
      have hq8 : (8 * (q : Int)).toNat = 8 * q := by omega
      obtain ⟨c0, z0⟩ := HP.out.cell
      have hwr : IntKind.i64.wrap (8 * (q : Int)) = 8 * (q : Int) := IntWalk.i64_in _ (by omega)
      obtain ⟨y, hyy⟩ : ∃ y, y = BitVec.ofNat 8 (n / 256 ^ q) := ⟨_, rfl⟩
      have hy : IntKind.u8.wrap ((n : Int) / 2 ^ (8 * q)) = (y.toNat : Int) := by
        rw [IntKind.wrap_u8, hyy, BitVec.toNat_ofNat, show (2 : Int) ^ (8 * q) = ((256 ^ q : Nat) : Int) by rw [Int.natCast_pow, Int.pow_mul]; rfl]
        omega
      have HY := Lib.hid hyy
      have hl9 : B ≤ wr.heap.size + 1 := by have := HP.out.2.2.2; omega
      have hn9 : W.length + 1 ≤ maxLen := by unfold maxLen; omega
      have HN9 := Lib.hid hn9
      have HO := Lib.hid HP.out.2.1
      have c6 : ∀ o, (wr.alloc o).cell? ⟨p, 0, none⟩ = some u := fun o => (World.cell?_of_block (w := wr) (Below.heap_alloc wr o p (lt_of_block HP.out.1))).trans c0
      clear hyy hn9
      go_wp2
      go_region_law ((refine step_append_lies _ (by rfl) _ _ _ (by rfl) B 5 i0 _ 1 1 Try.underlying34 hi hz0 hz1 hz2 rfl (by omega) u W.length (W.map bv) (by rfl) ((HO.out.alloc _).drew) ⟨wr.heap.size, 0, none⟩ 1 1 [bv y] (by rfl) (by rfl) (World.news_of_block (cs := #[bv y]) (t := 5) (fr := (0, 0)) (heap_alloc_new wr _)) (bv_one [y]) (by omega) HN9.out (by omega) (by simpa using hl9) (wr.heap.size + 1) (by simp) ?_; intro gg cap w5 hown5 hgrow5 hat5 hlt5; have HPS5 := Lib.hid (pen_store (ys := [y]) HP.out (((Turn.refl _ wr).alloc (.cells #[bv y] 5)).drew) hown5 hgrow5 (hat5.imp (fun e => e.symm) (fun e => ⟨gg, rfl, by omega⟩))); have c5 := pen_cell HP.out (((Turn.refl _ wr).alloc (.cells #[bv y] 5)).drew) hgrow5; obtain ⟨c5, z5⟩ := c5; clear hown5 hgrow5 hat5))
      all_goals
        go_wp2
        go_roundw
        case rel =>
          refine ⟨q, _, _, W ++ [y], rfl, by omega, by omega, by omega, ?_, HPS5.out.1, HS.out.trans HPS5.out.2⟩
          rw [← HW.out, HY.out]; simp [beN]
        case measure => simp [intOf]

end
section
set_option linter.unusedVariables false

open Go.RowKit
set_option maxRecDepth 100000 in
set_option maxHeartbeats 1000000 in
theorem ptext_any (p B : Nat) (v : Value) (xs b : List B8) (A : Option Addr) (c : Nat) (w : World) (h : PenAt w p B v xs) (hs : SlN w (fun i => i = p ∨ some i = v.ownBlock) A (b.map bv)) (hA : A = none → c = 0) (hc : b.length ≤ c) (hlen : xs.length + 9 + b.length ≤ 1099511627776) :
    Calls Try.prog 52 #[.pointer (some ⟨p, 0, none⟩), .slice A b.length c] w fun r w' => r = .returned (.tuple #[]) ∧ ∃ v', PenAt w' p B v' (xs ++ (numB b.length ++ b)) ∧ PenStep w w' p v v' := by
  obtain ⟨i0, hi, hz0, hz1, hz2⟩ := info_parts info_u8
  have T := Lib.hid (pnum_any p B v xs b.length w h (by omega) (by omega))
  have hb64 : b.length < 9223372036854775808 := by omega
  have hnl := numB_le (n := b.length) (by omega)
  have HH := Lib.hid h
  have HS := Lib.hid hs
  clear h hs
  go_enter Try.func52, Try.ntmps52
  go_upto_region 1 with (go_at_call 51; refine T.out.mono ?_; rintro r w1 ⟨rfl, v1, hp1, hst1⟩; have HP1 := Lib.hid hp1; have HS1 := Lib.hid hst1; obtain ⟨c1, z1⟩ := hp1.cell; clear hp1 hst1)
  go_step
  iterate 18 go_step
  refine wpList_append_any_at (o := ⟨some 15, _, _, _, _, _⟩) rfl _ _ 34 rfl B 5 i0 (.int .u8 0) 1 Try.underlying34 hi hz0 hz1 hz2 rfl v1 (xs ++ numB b.length).length ((xs ++ numB b.length).map bv) rfl HP1.out.2.1 A b.length c (b.map bv) rfl hA (by simp) ?_ (bv_one b) ?_ ?_ ?_ ?_
  · intro j u hu
    have hs1 := HS.out.turn HS1.out.1 (N' := fun _ => False) (fun _ h => h) (fun _ _ h => h.elim)
    obtain ⟨ad, e, -, hc⟩ := hs1 j u hu
    exact ⟨ad, e, hc⟩
  · unfold maxLen; simp; omega
  · simp; omega
  · exact HP1.out.2.2.2
  intro v2 w2 own2 gr2 at2
  have hps := pen_store (ys := b) HP1.out (Turn.refl _ _) own2 gr2 (at2.imp id (fun e => ⟨_, e, Nat.le_refl _⟩))
  obtain ⟨c2, z2⟩ := pen_cell HP1.out (Turn.refl _ _) gr2
  obtain ⟨A2, n2, rfl, -⟩ := own_sl own2
  rw [List.length_append] at hps
  have HPS := Lib.hid hps
  clear own2 gr2 at2 hps c1 z1
  go_wp2
  first | go_end0 | refine bodyPost_ret (results_none rfl _ _ _) rfl ?_
  exact ⟨rfl, _, by rw [← List.append_assoc]; exact HPS.out.1, HS1.out.trans HPS.out.2⟩
set_option maxRecDepth 100000 in
theorem pbytes_any (p B : Nat) (v : Value) (xs : List B8) (w : World) (h : PenAt w p B v xs) (hlen : xs.length ≤ 1099511627776) :
    Calls Try.prog 53 #[.pointer (some ⟨p, 0, none⟩)] w fun r w' => ∃ u, r = .returned u ∧ w'.ownsRow w.heap.size 5 1 u xs.length (xs.map bv) ∧ Turn (fun _ => False) w w' := by
  obtain ⟨c0, z0⟩ := h.cell
  obtain ⟨A, c, rfl, hs, -, hc, hA⟩ := own_sl h.2.1
  have T := Lib.hid (clone_any A c _ xs w hs hA hc hlen)
  clear h hs
  go_enter Try.func53, Try.ntmps53
  go_wp2_with (go_at_call 59; refine T.out.mono ?_; rintro r w1 ⟨u1, rfl, ho1, ht1⟩; have HO1 := Lib.hid ho1; have HT1 := Lib.hid ht1; clear ho1 ht1)
  go_ret
  exact ⟨u1, rfl, HO1.out, HT1.out⟩
set_option maxRecDepth 100000 in
theorem slice_idn (b : Nat) (w : World) : (Instr.sliceAt 90 (.pointer (some ⟨b, 0, none⟩)) none none none).run Try.prog w = .ok (.slice (some ⟨b, 0, none⟩) 32 32) w := by
  have e : Try.prog.arrayLen 90 = 32 := by kernel_rfl
  rw [run_sliceAt_array_all (P := Try.prog) w 90 ⟨b, 0, none⟩ (by kernel_rfl)]
  rw [show Try.prog.elem 90 = 5 by kernel_rfl, size_u8, e]
  simp [Result.andThen, slicedAt, Addr.add]

end
section
set_option linter.unusedVariables false

open Go.RowKit
set_option maxRecDepth 100000 in
theorem threw_any (e E : Nat) (A : Option Addr) (n c y : Nat) (w : World) (h : EyeAt w e E A n c y) :
    Calls Try.prog 75 #[.pointer (some ⟨e, 0, none⟩), .iface 103 (.pointer (some ⟨E, 0, none⟩))] w fun r w' => r = .returned (.bool true) ∧ w' = w := by
  obtain ⟨c0, c1, c2, z0, z1, z2⟩ := h.cells
  have hta : ∀ w, (Instr.typeAssert (.iface 103 (.pointer (some ⟨E, 0, none⟩))) 20 103 true).run Try.prog w = .ok (.tuple #[.pointer (some ⟨E, 0, none⟩), .bool true]) w := fun w => by kernel_rfl
  have heq : ∀ w, (binOp .eql 103 (.pointer (some ⟨E, 0, none⟩)) (.pointer (some ⟨E, 0, none⟩))).run Try.prog w = .ok (.bool true) w := fun w => by
    obtain ⟨j, hj⟩ : ∃ j, Try.prog.info? 105 = some j := Option.isSome_iff_exists.1 (by kernel_rfl)
    exact run_eql_ptr_same w _ (by kernel_rfl) hj
  go_enter Try.func75, Try.ntmps75
  go_wp2
  go_ret
  exact ⟨rfl, rfl⟩
set_option maxRecDepth 100000 in
theorem catch_idle (q : Addr) (w : World) :
    CallsD Try.prog 74 #[.pointer (some q)] .returning w fun r u' w' => r = .returned (.tuple #[]) ∧ u' = .returning ∧ w' = w := by
  refine callsD_of_wpS Try.func74 rfl fun c₀ cs hu => ?_
  apply wpS_seq
  apply wpS_region
  simp [wpOpsS, go_sem, recoverD, hu, Try.ntmps74, Exit.thenS]
  refine wpS_of_wp ?_
  change Code.wp _ _ _ { tmps := #[.pointer (some q), .nilIface, .nilIface, undef, undef, undef, undef, undef, undef, undef, undef, undef], defers := [] } w
  go_wp2
  refine ⟨rfl, .returning, ?_, .tuple #[], ?_, rfl, rfl, rfl⟩
  · rw [← hu]
  · simp [results, Try.results74]
set_option maxRecDepth 100000 in
theorem catch_pan (q : Addr) (e E : Nat) (A : Option Addr) (n c y : Nat) (w : World) (hq : w.cell? q = some (.pointer (some ⟨e, 0, none⟩))) (h : EyeAt w e E A n c y) :
    CallsD Try.prog 74 #[.pointer (some q)] (.panicking [{ v := .iface 103 (.pointer (some ⟨E, 0, none⟩)), recovered := false }]) w fun r u' w' =>
      r = .returned (.tuple #[]) ∧ u' = .panicking [{ v := .iface 103 (.pointer (some ⟨E, 0, none⟩)), recovered := true }] ∧ w' = w := by
  have T := Lib.hid (threw_any e E A n c y w h)
  have hne : ∀ w, (binOp .neq 20 (.iface 103 (.pointer (some ⟨E, 0, none⟩))) .nilIface).run Try.prog w = .ok (.bool true) w := fun w => by kernel_rfl
  refine callsD_of_wpS Try.func74 rfl fun c₀ cs hu => ?_
  apply wpS_seq
  apply wpS_region
  simp [wpOpsS, go_sem, recoverD, hu, Try.ntmps74, Exit.thenS]
  refine wpS_of_wp ?_
  change Code.wp _ _ _ { tmps := #[.pointer (some q), .iface 103 (.pointer (some ⟨E, 0, none⟩)), .iface 103 (.pointer (some ⟨E, 0, none⟩)), undef, undef, undef, undef, undef, undef, undef, undef, undef], defers := [] } w
  clear h
  go_wp2_with (go_at_call 75; refine T.out.mono ?_; rintro r w' ⟨rfl, rfl⟩)
  refine ⟨rfl, _, rfl, .tuple #[], ?_, rfl, rfl, rfl⟩
  simp [results, Try.results74]
set_option maxRecDepth 100000 in
theorem look_any (e E : Nat) (G : FuncId) (x : Value) (w : World) (Rok Rno : World → Prop) (hG : ∀ (args : Array Value) (w : World), (callFunc G args).run Try.prog w = .ok (.enter G args) w)
    (hdo : Calls Try.prog G #[x, .pointer (some ⟨e, 0, none⟩)] (w.alloc (.cells #[.pointer (some ⟨e, 0, none⟩)] 83)) fun r w' =>
      (r = .returned (.tuple #[]) ∧ Rok w') ∨ (r = pan E ∧ Rno w' ∧ (∃ A n c y, EyeAt w' e E A n c y) ∧ w'.cell? ⟨w.heap.size, 0, none⟩ = some (.pointer (some ⟨e, 0, none⟩)))) :
    Calls Try.prog 67 #[.pointer (some ⟨e, 0, none⟩), .func (.func G) #[x] #[]] w fun r w' => r = .returned (.tuple #[]) ∧ (Rok w' ∨ Rno w') := by
  have hmf : ∀ (fn : Fn) (first cap : Array Value) (w : World), (Instr.makeFunc fn first cap).run Try.prog w = .ok (.func fn first cap) w := fun _ _ _ _ => rfl
  have hnf : ∀ w, (binOp .neq 85 (.func (.func G) #[x] #[]) .nilFunc).run Try.prog w = .ok (.bool true) w := fun w => by kernel_rfl
  have HD := Lib.hid hdo
  clear hdo
  go_enter_defers Try.func67, Try.ntmps67
  go_wp2_with fail
  refine HD.out.mono ?_
  rintro r w1 (⟨rfl, h1⟩ | ⟨rfl, h1, ⟨A, n, c, y, he⟩, hc⟩)
  · go_wp2_with fail
    refine leaves_cons (f := 74) (args := #[.pointer (some ⟨w.heap.size, 0, none⟩)]) (by simp) (by simp [go_sem]) ?_
    refine (catch_idle _ _).mono ?_
    rintro r u' w2 ⟨rfl, rfl, rfl⟩
    exact ⟨_, results_none rfl _ _ _, rfl, .inl h1⟩
  · dsimp only [pan]
    refine leaves_cons (f := 74) (args := #[.pointer (some ⟨w.heap.size, 0, none⟩)]) (by simp) (by simp [go_sem]) ?_
    refine (catch_pan _ e E A n c y w1 hc he).mono ?_
    rintro r u' w2 ⟨rfl, rfl, rfl⟩
    simp [Leaves, settle, results, Try.results67, go_sem]
    exact .inr h1
set_option maxRecDepth 100000 in
theorem shut_any (q e E : Nat) (A : Option Addr) (n c y : Nat) (u : FrameMode) (w : World) (hq : w.cell? ⟨q, 0, none⟩ = some (.pointer (some ⟨e, 0, none⟩))) (he : EyeAt w e E A n c y) :
    CallsD Try.prog 66 #[.pointer (some ⟨q, 0, none⟩)] u w fun r u' w' => u' = u ∧ r = .returned (.tuple #[]) ∧ Turn (fun i => i = e) w w' := by
  obtain ⟨c0, c1, c2, z0, z1, z2⟩ := he.cells
  go_enter_d Try.func66, Try.ntmps66
  go_wp2
  go_end0
  exact ⟨rfl, ((Turn.refl (fun i => i = e) w).setCell ⟨e, 0, none⟩ _ (fun _ => rfl)).setCell ⟨e, 1, none⟩ _ (fun _ => rfl)⟩

end
section
set_option linter.unusedVariables false

open Go.RowKit
set_option maxRecDepth 100000 in
theorem read_any (G : FuncId) (x : Value) (A : Option Addr) (c : Nat) (bs : List B8) (w : World) (N M : Nat → Prop) (R : List B8 → World → Prop) (F : Nat → World → Prop)
    (hG : ∀ (args : Array Value) (w : World), (callFunc G args).run Try.prog w = .ok (.enter G args) w)
    (hs : SlN w M A (bs.map bv)) (hA : A = none → c = 0) (hc : bs.length ≤ c) (hlen : bs.length ≤ 1099511627776) (hN : ¬ N (w.heap.size + 2) ∧ ¬ N (w.heap.size + 3))
    (hdo : ∀ w1, Turn (fun _ => False) w w1 → w1.heap.size = w.heap.size + 4 → Eye0 w1 (w.heap.size + 1) w.heap.size (fun i => M i ∨ w.heap.size ≤ i) bs → Calls Try.prog G #[x, .pointer (some ⟨w.heap.size + 1, 0, none⟩)] w1 fun r w2 => Turn N w1 w2 ∧
      ((r = .returned (.tuple #[]) ∧ ∃ l, Eye0 w2 (w.heap.size + 1) w.heap.size (fun i => M i ∨ w.heap.size ≤ i) l ∧ R l w2) ∨ (r = pan w.heap.size ∧ ∃ k, k ≠ 0 ∧ EyeX w2 (w.heap.size + 1) w.heap.size k ∧ F k w2))) :
    Calls Try.prog 54 #[.slice A bs.length c, .func (.func G) #[x] #[]] w fun r w' => ∃ w2, Turn (fun i => i = w.heap.size + 1) w2 w' ∧
      ((∃ l, R l w2 ∧ r = .returned (.int .i64 (if l = [] then 0 else 3))) ∨ (∃ k : Nat, k ≠ 0 ∧ F k w2 ∧ r = .returned (.int .i64 (k : Int)))) := by
  have hmf : ∀ (fn : Fn) (first cap : Array Value) (w : World), (Instr.makeFunc fn first cap).run Try.prog w = .ok (.func fn first cap) w := fun _ _ _ _ => rfl
  go_enter_defers Try.func54, Try.ntmps54
  go_wp2_with fail
  obtain ⟨W3, hW3⟩ : ∃ W3, W3 = ((w.alloc (.cells #[Value.int IntKind.i64 0] 105)).alloc (.cells #[Value.slice A bs.length c, Value.pointer (some { block := w.heap.size, off := 0 })] 107)).alloc (.cells #[Value.pointer (some { block := w.heap.size + 1, off := 0 })] 83) := ⟨_, rfl⟩
  have t3 : Turn (fun _ => False) w W3 := by rw [hW3]; exact (((Turn.refl _ w).alloc _).alloc _).alloc _
  have s3 : W3.heap.size = w.heap.size + 3 := by rw [hW3]; simp
  have q3 : W3.cell? ⟨w.heap.size + 1 + 1, 0, none⟩ = some (.pointer (some ⟨w.heap.size + 1, 0, none⟩)) := by
    have := heap_alloc_new ((w.alloc (.cells #[Value.int IntKind.i64 0] 105)).alloc (.cells #[Value.slice A bs.length c, Value.pointer (some { block := w.heap.size, off := 0 })] 107)) (.cells #[Value.pointer (some { block := w.heap.size + 1, off := 0 })] 83)
    rw [← hW3] at this
    simp only [World.size_alloc] at this
    rw [cell_of_row W3 _ 0 _ _ _ this]; rfl
  have e3 : Eye0 W3 (w.heap.size + 1) w.heap.size (fun i => M i ∨ w.heap.size ≤ i) bs := by
    refine Eye0.weak (N := fun i => M i ∨ w.heap.size ≤ i) ⟨A, c, ⟨?_, ?_⟩, fun j u hu => ?_, hc, hA, .inr (by omega), .inr (Nat.le_refl _), hlen⟩ (fun _ h => h) (.inr (by omega)) (.inr (Nat.le_refl _))
    · rw [hW3, Below.heap_alloc _ _ _ (by simp)]; exact heap_alloc2_new w _ _
    · rw [hW3, Below.heap_alloc _ _ _ (by simp; omega)]; exact heap_alloc2_old w _ _
    · obtain ⟨ad, e1, hb, hcl⟩ := hs j u hu
      have hlt := World.block_lt_of_cell? w _ hcl
      rw [add_block] at hlt
      exact ⟨ad, e1, fun h => h.elim hb (fun h => by omega), t3.cell hcl (fun h => h)⟩
  have HL := Lib.hid (look_any (w.heap.size + 1) w.heap.size G x W3
    (fun w2 => ∃ l, Eye0 w2 (w.heap.size + 1) w.heap.size (fun i => M i ∨ w.heap.size ≤ i) l ∧ R l w2 ∧ w2.cell? ⟨w.heap.size + 1 + 1, 0, none⟩ = some (.pointer (some ⟨w.heap.size + 1, 0, none⟩)))
    (fun w2 => ∃ k, k ≠ 0 ∧ EyeX w2 (w.heap.size + 1) w.heap.size k ∧ F k w2 ∧ w2.cell? ⟨w.heap.size + 1 + 1, 0, none⟩ = some (.pointer (some ⟨w.heap.size + 1, 0, none⟩))) hG
    (by
      refine (hdo _ (t3.alloc _) (by simp [s3]) (e3.alloc _)).mono ?_
      rintro r w2 ⟨tN, (⟨rfl, l, hl, hr⟩ | ⟨rfl, k, hk, hx, hf⟩)⟩
      · exact .inl ⟨rfl, l, hl, hr, tN.cell (((Turn.refl (fun _ => False) W3).alloc _).cell q3 (fun h => h)) hN.1⟩
      · refine .inr ⟨rfl, ⟨k, hk, hx, hf, tN.cell (((Turn.refl (fun _ => False) W3).alloc _).cell q3 (fun h => h)) hN.1⟩, ?_, ?_⟩
        · obtain ⟨A', n', c', h'⟩ := hx
          exact ⟨A', n', c', k, h'⟩
        · refine tN.cell ?_ (by rw [s3]; exact hN.2)
          rw [cell_of_row _ _ 0 _ _ _ (heap_alloc_new W3 _)]; rfl))
  rw [← hW3]
  clear hW3 t3 s3 q3 e3 hdo hs hlen
  refine HL.out.mono ?_
  rintro r w2 ⟨rfl, (⟨l, hl, hr, hq⟩ | ⟨k, hk, hx, hf, hq⟩)⟩
  · obtain ⟨A2, c2, he, -⟩ := id hl
    obtain ⟨c0, c1, c2', z0, z1, z2⟩ := he.cells
    have HE := Lib.hid (fun w => ended_any (w.heap.size + 1) w.heap.size A2 l.length c2 0 w)
    have E1 := Lib.hid (ended_any _ _ _ _ _ _ _ he)
    have L1 := Lib.hid (left_any _ _ _ _ _ _ _ he)
    have HHE := Lib.hid he
    have HR := Lib.hid hr
    clear hl he hr HL HE
    by_cases h0 : l = []
    · subst h0
      go_wp2_with (first
        | (go_at_call 68; refine E1.out.mono ?_; rintro r w' ⟨rfl, rfl⟩)
        | (go_at_call 69; refine L1.out.mono ?_; rintro r w' ⟨rfl, rfl⟩))
      refine leaves_cons (f := 66) (args := #[.pointer (some ⟨w.heap.size + 1 + 1, 0, none⟩)]) (by simp) (by simp [go_sem]) ?_
      refine (shut_any _ _ _ _ _ _ _ _ _ hq HHE.out).mono ?_
      rintro r u' w3 ⟨rfl, rfl, ht⟩
      exact ⟨_, results_tmp rfl _ _ _, _, ht, .inl ⟨[], HR.out, rfl⟩⟩
    · have hl0 : (0 : Int) < (l.length : Int) := by have := List.length_pos_iff.2 h0; omega
      have hi : (if l = [] then (0 : Int) else 3) = 3 := by rw [if_neg h0]
      have HI := Lib.hid hi
      clear hi
      go_wp2_with (first
        | (go_at_call 68; refine E1.out.mono ?_; rintro r w' ⟨rfl, rfl⟩)
        | (go_at_call 69; refine L1.out.mono ?_; rintro r w' ⟨rfl, rfl⟩))
      refine leaves_cons (f := 66) (args := #[.pointer (some ⟨w.heap.size + 1 + 1, 0, none⟩)]) (by simp) (by simp [go_sem]) ?_
      refine (shut_any _ _ _ _ _ _ _ _ _ hq HHE.out).mono ?_
      rintro r u' w3 ⟨rfl, rfl, ht⟩
      exact ⟨_, results_tmp rfl _ _ _, _, ht, .inl ⟨l, HR.out, by rw [HI.out]; rfl⟩⟩
  · obtain ⟨A2, n2, c2, he⟩ := hx
    obtain ⟨c0, c1, c2', z0, z1, z2⟩ := he.cells
    have E1 := Lib.hid (ended_any _ _ _ _ _ _ _ he)
    have hkd : decide (k ≠ 0) = true := decide_eq_true hk
    have HHE := Lib.hid he
    have HF := Lib.hid hf
    have HK := Lib.hid hk
    rw [hkd] at E1
    clear he hf HL hk hkd
    go_wp2_with (first
      | (go_at_call 68; refine E1.out.mono ?_; rintro r w' ⟨rfl, rfl⟩))
    refine leaves_cons (f := 66) (args := #[.pointer (some ⟨w.heap.size + 1 + 1, 0, none⟩)]) (by simp) (by simp [go_sem]) ?_
    refine (shut_any _ _ _ _ _ _ _ _ _ hq HHE.out).mono ?_
    rintro r u' w3 ⟨rfl, rfl, ht⟩
    exact ⟨_, results_tmp rfl _ _ _, _, ht, .inr ⟨k, HK.out, HF.out, rfl⟩⟩

end
section
set_option linter.unusedVariables false

open Go.RowKit
set_option maxRecDepth 100000 in
theorem eNum_top (l : List B8) : eNum 18446744073709551615 l = numE l := by
  unfold eNum
  by_cases h : numE l ≠ 0
  · rw [if_pos h]
  · rw [if_neg h, if_neg (by have := numV_lt l (by omega); omega)]; omega
set_option maxRecDepth 100000 in
theorem numB_300 : numB 300 = [2, 1, 44] := numB_valB [1, 44] (by rintro x r ⟨⟩; decide) (by decide)
set_option maxRecDepth 100000 in
theorem numB_0 : numB 0 = [0] := by simp [numB, klen_zero, beN]
set_option maxRecDepth 100000 in
theorem rbytes_at (A A' : Option Addr) (c c' n n' : Nat) (B B' : Nat) (xs ys : List B8) (w : World) (hx : Sl w B A (xs.map bv)) (hy : Sl w B' A' (ys.map bv)) (hn : xs.length = n) (hn' : ys.length = n') (hlx : n ≤ maxLen) (hly : n' ≤ maxLen) :
    Calls Try.prog 27 #[.slice A n c, .slice A' n' c'] w fun e w' => e = .returned (.bool (decide (xs = ys))) ∧ ∃ n, w' = w.drewN n := by
  subst hn hn'; exact rbytes_any A A' c c' B B' xs ys w hx hy hlx hly
set_option maxRecDepth 100000 in
theorem sl_block {w : World} {b : Nat} {cs : List Value} {t : TypeId} (h : w.heap[b]? = some (.cells cs.toArray t (0, 0))) : Sl w w.heap.size (some ⟨b, 0, none⟩) cs := fun j u hu => by
  refine ⟨_, rfl, lt_of_block h, ?_⟩
  rw [show (⟨b, 0, none⟩ : Addr).add j = ⟨b, j, none⟩ by unfold Addr.add; by_cases hj : j = 0 <;> simp [hj], cell_of_row w b j _ _ _ h, List.getElem?_toArray]; exact hu

end
end Go.Proofs.Ytgjplbanfnomkaa
