/- Merged: 'Read' with a reader that holds two variables of its caller; bytes.Equal; a record held against its form. -/
import Derived.Test.YtajdcekkmikbcaaDoorM35
import Derived.Test.YtajdcekkmikbcaaDoorM10
import Derived.Test.YtajdcekkmikbcaaDoorM11
import Derived.Test.YtajdcekkmikbcaaDoorM12
import Derived.Test.YtajdcekkmikbcaaDoorM01
import Derived.Stop.BytesEq
import Derived.Test.YtajdcekkmikbcaaDoorM05
import Derived.Test.YtajdcekkmikbcaaDoorM03
import Derived.Test.YtajdcekkmikbcaaDoorM00
import Derived.LoopTactic
import Derived.Below
import Derived.Deep.QuietTactic
import Derived.BigQuiet
import Derived.OwnWalk
import Derived.Deep.MidRow
import Derived.Deep.WholeRow
import Derived.Outline
import Derived.Laws.IdiomStrings
import Derived.Laws.BytesArg
namespace Go.Proofs.YtajdcekkmikbcaaDoor
section
set_option linter.unusedVariables false
open Go.RowKit
set_option maxRecDepth 100000 in
theorem look_cap2 (e E : Nat) (G : FuncId) (x x' : Value) (w : World) (Rok Rno : World → Prop) (hG : ∀ (args : Array Value) (w : World), (callFunc G args).run Tryd.prog w = .ok (.enter G args) w)
    (hdo : Calls Tryd.prog G #[.pointer (some ⟨e, 0, none⟩), x, x'] (w.alloc (.cells #[.pointer (some ⟨e, 0, none⟩)] 146)) fun r w' =>
      (r = .returned (.tuple #[]) ∧ Rok w') ∨ (r = pan E ∧ Rno w' ∧ (∃ A n c y, EyeAt w' e E A n c y) ∧ w'.cell? ⟨w.heap.size, 0, none⟩ = some (.pointer (some ⟨e, 0, none⟩)))) :
    Calls Tryd.prog 95 #[.pointer (some ⟨e, 0, none⟩), .func (.func G) #[] #[x, x']] w fun r w' => r = .returned (.tuple #[]) ∧ (Rok w' ∨ Rno w') := by
  have hmf : ∀ (fn : Fn) (first cap : Array Value) (w : World), (Instr.makeFunc fn first cap).run Tryd.prog w = .ok (.func fn first cap) w := fun _ _ _ _ => rfl
  have hnf : ∀ w, (binOp .neq 149 (.func (.func G) #[] #[x, x']) .nilFunc).run Tryd.prog w = .ok (.bool true) w := fun w => by kernel_rfl
  have HD := Lib.hid hdo
  clear hdo
  go_enter_defers Tryd.func95, Tryd.ntmps95
  go_wp2_with fail
  refine HD.out.mono ?_
  rintro r w1 (⟨rfl, h1⟩ | ⟨rfl, h1, ⟨A, n, c, y, he⟩, hc⟩)
  · go_wp2_with fail
    refine leaves_cons (f := 104) (args := #[.pointer (some ⟨w.heap.size, 0, none⟩)]) (by simp) (by simp [go_sem]) ?_
    refine (catch_idle _ _).mono ?_
    rintro r u' w2 ⟨rfl, rfl, rfl⟩
    exact ⟨_, results_none rfl _ _ _, rfl, .inl h1⟩
  · dsimp only [pan]
    refine leaves_cons (f := 104) (args := #[.pointer (some ⟨w.heap.size, 0, none⟩)]) (by simp) (by simp [go_sem]) ?_
    refine (catch_pan _ e E A n c y w1 hc he).mono ?_
    rintro r u' w2 ⟨rfl, rfl, rfl⟩
    simp [Leaves, settle, results, Tryd.results95, go_sem]
    exact .inr h1
set_option maxRecDepth 100000 in
theorem read_cap2 (G : FuncId) (x x' : Value) (A : Option Addr) (c : Nat) (bs : List B8) (w : World) (N M : Nat → Prop) (R : List B8 → World → Prop) (F : Nat → World → Prop)
    (hG : ∀ (args : Array Value) (w : World), (callFunc G args).run Tryd.prog w = .ok (.enter G args) w)
    (hs : SlN w M A (bs.map bv)) (hA : A = none → c = 0) (hc : bs.length ≤ c) (hlen : bs.length ≤ 1099511627776) (hN : ¬ N (w.heap.size + 2) ∧ ¬ N (w.heap.size + 3))
    (hdo : ∀ w1, Turn (fun _ => False) w w1 → w1.heap.size = w.heap.size + 4 → Eye0 w1 (w.heap.size + 1) w.heap.size (fun i => M i ∨ w.heap.size ≤ i) bs → Calls Tryd.prog G #[.pointer (some ⟨w.heap.size + 1, 0, none⟩), x, x'] w1 fun r w2 => Turn N w1 w2 ∧
      ((r = .returned (.tuple #[]) ∧ ∃ l, Eye0 w2 (w.heap.size + 1) w.heap.size (fun i => M i ∨ w.heap.size ≤ i) l ∧ R l w2) ∨ (r = pan w.heap.size ∧ ∃ k, k ≠ 0 ∧ EyeX w2 (w.heap.size + 1) w.heap.size k ∧ F k w2))) :
    Calls Tryd.prog 84 #[.slice A bs.length c, .func (.func G) #[] #[x, x']] w fun r w' => ∃ w2, Turn (fun i => i = w.heap.size + 1) w2 w' ∧
      ((∃ l, R l w2 ∧ r = .returned (.int .i64 (if l = [] then 0 else 3))) ∨ (∃ k : Nat, k ≠ 0 ∧ F k w2 ∧ r = .returned (.int .i64 (k : Int)))) := by
  have hmf : ∀ (fn : Fn) (first cap : Array Value) (w : World), (Instr.makeFunc fn first cap).run Tryd.prog w = .ok (.func fn first cap) w := fun _ _ _ _ => rfl
  go_enter_defers Tryd.func84, Tryd.ntmps84
  go_wp2_with fail
  obtain ⟨W3, hW3⟩ : ∃ W3, W3 = ((w.alloc (.cells #[Value.int IntKind.i64 0] 157)).alloc (.cells #[Value.slice A bs.length c, Value.pointer (some { block := w.heap.size, off := 0 })] 159)).alloc (.cells #[Value.pointer (some { block := w.heap.size + 1, off := 0 })] 146) := ⟨_, rfl⟩
  have t3 : Turn (fun _ => False) w W3 := by rw [hW3]; exact (((Turn.refl _ w).alloc _).alloc _).alloc _
  have s3 : W3.heap.size = w.heap.size + 3 := by rw [hW3]; simp
  have q3 : W3.cell? ⟨w.heap.size + 1 + 1, 0, none⟩ = some (.pointer (some ⟨w.heap.size + 1, 0, none⟩)) := by
    have := heap_alloc_new ((w.alloc (.cells #[Value.int IntKind.i64 0] 157)).alloc (.cells #[Value.slice A bs.length c, Value.pointer (some { block := w.heap.size, off := 0 })] 159)) (.cells #[Value.pointer (some { block := w.heap.size + 1, off := 0 })] 146)
    rw [← hW3] at this
    simp only [World.size_alloc] at this
    rw [cell_of_row W3 _ 0 _ _ _ this]; rfl
  have e3 : Eye0 W3 (w.heap.size + 1) w.heap.size (fun i => M i ∨ w.heap.size ≤ i) bs := by
    refine Eye0.weak (N := fun i => M i ∨ w.heap.size ≤ i) ⟨A, c, ⟨?_, ?_⟩, fun j u hu => ?_, hc, hA, .inr (by omega), .inr (Nat.le_refl _), hlen⟩ (fun _ h => h) (.inr (by omega)) (.inr (Nat.le_refl _))
    · rw [hW3, Below.heap_alloc _ _ _ (by simp)]; exact heap_alloc2_new w _ _
    · rw [hW3, Below.heap_alloc _ _ _ (by simp; omega)]; exact heap_alloc2_old w _ _
    · obtain ⟨ad, e1, hb, hcl⟩ := hs j u hu
      have hlt := World.block_lt_of_cell? w _ hcl
      rw [add_block] at hlt
      exact ⟨ad, e1, fun h => h.elim hb (fun h => by omega), t3.cell hcl (fun h => h)⟩
  have HL := Lib.hid (look_cap2 (w.heap.size + 1) w.heap.size G x x' W3
    (fun w2 => ∃ l, Eye0 w2 (w.heap.size + 1) w.heap.size (fun i => M i ∨ w.heap.size ≤ i) l ∧ R l w2 ∧ w2.cell? ⟨w.heap.size + 1 + 1, 0, none⟩ = some (.pointer (some ⟨w.heap.size + 1, 0, none⟩)))
    (fun w2 => ∃ k, k ≠ 0 ∧ EyeX w2 (w.heap.size + 1) w.heap.size k ∧ F k w2 ∧ w2.cell? ⟨w.heap.size + 1 + 1, 0, none⟩ = some (.pointer (some ⟨w.heap.size + 1, 0, none⟩))) hG
    (by
      refine (hdo _ (t3.alloc _) (by simp [s3]) (e3.alloc _)).mono ?_
      rintro r w2 ⟨tN, (⟨rfl, l, hl, hr⟩ | ⟨rfl, k, hk, hx, hf⟩)⟩
      · exact .inl ⟨rfl, l, hl, hr, tN.cell (((Turn.refl (fun _ => False) W3).alloc _).cell q3 (fun h => h)) hN.1⟩
      · refine .inr ⟨rfl, ⟨k, hk, hx, hf, tN.cell (((Turn.refl (fun _ => False) W3).alloc _).cell q3 (fun h => h)) hN.1⟩, ?_, ?_⟩
        · obtain ⟨A', n', c', h'⟩ := hx
          exact ⟨A', n', c', k, h'⟩
        · refine tN.cell ?_ (by rw [s3]; exact hN.2)
          rw [cell_of_row _ _ 0 _ _ _ (heap_alloc_new W3 _)]; rfl))
  rw [← hW3]
  clear hW3 t3 s3 q3 e3 hdo hs hlen
  refine HL.out.mono ?_
  rintro r w2 ⟨rfl, (⟨l, hl, hr, hq⟩ | ⟨k, hk, hx, hf, hq⟩)⟩
  · obtain ⟨A2, c2, he, -⟩ := id hl
    obtain ⟨c0, c1, c2', z0, z1, z2⟩ := he.cells
    have HE := Lib.hid (fun w => ended_any (w.heap.size + 1) w.heap.size A2 l.length c2 0 w)
    have E1 := Lib.hid (ended_any _ _ _ _ _ _ _ he)
    have L1 := Lib.hid (left_any _ _ _ _ _ _ _ he)
    have HHE := Lib.hid he
    have HR := Lib.hid hr
    clear hl he hr HL HE
    by_cases h0 : l = []
    · subst h0
      go_wp2_with (first
        | (go_at_call 96; refine E1.out.mono ?_; rintro r w' ⟨rfl, rfl⟩)
        | (go_at_call 97; refine L1.out.mono ?_; rintro r w' ⟨rfl, rfl⟩))
      refine leaves_cons (f := 94) (args := #[.pointer (some ⟨w.heap.size + 1 + 1, 0, none⟩)]) (by simp) (by simp [go_sem]) ?_
      refine (shut_any _ _ _ _ _ _ _ _ _ hq HHE.out).mono ?_
      rintro r u' w3 ⟨rfl, rfl, ht⟩
      exact ⟨_, results_tmp rfl _ _ _, _, ht, .inl ⟨[], HR.out, rfl⟩⟩
    · have hl0 : (0 : Int) < (l.length : Int) := by have := List.length_pos_iff.2 h0; omega
      have hi : (if l = [] then (0 : Int) else 3) = 3 := by rw [if_neg h0]
      have HI := Lib.hid hi
      clear hi
      go_wp2_with (first
        | (go_at_call 96; refine E1.out.mono ?_; rintro r w' ⟨rfl, rfl⟩)
        | (go_at_call 97; refine L1.out.mono ?_; rintro r w' ⟨rfl, rfl⟩))
      refine leaves_cons (f := 94) (args := #[.pointer (some ⟨w.heap.size + 1 + 1, 0, none⟩)]) (by simp) (by simp [go_sem]) ?_
      refine (shut_any _ _ _ _ _ _ _ _ _ hq HHE.out).mono ?_
      rintro r u' w3 ⟨rfl, rfl, ht⟩
      exact ⟨_, results_tmp rfl _ _ _, _, ht, .inl ⟨l, HR.out, by rw [HI.out]; rfl⟩⟩
  · obtain ⟨A2, n2, c2, he⟩ := hx
    obtain ⟨c0, c1, c2', z0, z1, z2⟩ := he.cells
    have E1 := Lib.hid (ended_any _ _ _ _ _ _ _ he)
    have hkd : decide (k ≠ 0) = true := decide_eq_true hk
    have HHE := Lib.hid he
    have HF := Lib.hid hf
    have HK := Lib.hid hk
    rw [hkd] at E1
    clear he hf HL hk hkd
    go_wp2_with (first
      | (go_at_call 96; refine E1.out.mono ?_; rintro r w' ⟨rfl, rfl⟩))
    refine leaves_cons (f := 94) (args := #[.pointer (some ⟨w.heap.size + 1 + 1, 0, none⟩)]) (by simp) (by simp [go_sem]) ?_
    refine (shut_any _ _ _ _ _ _ _ _ _ hq HHE.out).mono ?_
    rintro r u' w3 ⟨rfl, rfl, ht⟩
    exact ⟨_, results_tmp rfl _ _ _, _, ht, .inr ⟨k, HK.out, HF.out, rfl⟩⟩
set_option maxRecDepth 100000 in
theorem u8s_len (b : List B8) : (u8s b).length = b.length := by simp [u8s]
set_option maxRecDepth 100000 in
theorem str_any (A : Option Addr) (c B : Nat) (b : List B8) (w : World) (hs : Sl w B A (b.map bv)) (hA : A = none → c = 0) (hc : b.length ≤ c) :
    (convert 36 9 (.slice A b.length c)).run Tryd.prog w = .ok (.string ⟨(u8s b).toArray⟩) w := by
  cases A with
  | none =>
    have hb : b = [] := by
      have := hA rfl
      exact List.eq_nil_of_length_eq_zero (by omega)
    subst hb
    exact run_convert_bytes_nil w 36 5 Tryd.underlying36 Tryd.underlying5 _ _ _ Tryd.underlying9
  | some ad =>
    have h := run_convert_bytes_back (P := Tryd.prog) w 36 9 5 ad c (u8s b) Tryd.underlying36 Tryd.underlying5 Tryd.underlying9 (fun j hj => by
      rw [u8s_len] at hj
      obtain ⟨ad', e, -, hcell⟩ := hs j _ (bvs_at b j hj)
      injection e with e; subst e
      rw [hcell]
      simp [u8s, bv])
    rw [u8s_len] at h
    exact h
set_option maxRecDepth 100000 in
theorem bequal_any (A A' : Option Addr) (c c' B B' : Nat) (a b : List B8) (w : World) (hs : Sl w B A (a.map bv)) (hA : A = none → c = 0) (hc : a.length ≤ c) (hs' : Sl w B' A' (b.map bv)) (hA' : A' = none → c' = 0) (hc' : b.length ≤ c') :
    Calls Tryd.prog 88 #[.slice A a.length c, .slice A' b.length c'] w fun e w' => e = .returned (.bool (decide (a = b))) ∧ w = w' := by
  have h1 := str_any A c B a w hs hA hc
  have h2 := str_any A' c' B' b w hs' hA' hc'
  have h3 := Lib.hid (show ((ByteArray.mk (u8s a).toArray).toList == (ByteArray.mk (u8s b).toArray).toList) = decide (a = b) by
    rw [← u8s_inj]
    simp [ByteArray.toList_eq])
  generalize decide (a = b) = r at *
  generalize a.length = n at *
  generalize b.length = m at *
  generalize (ByteArray.mk (u8s a).toArray) = sa at *
  generalize (ByteArray.mk (u8s b).toArray) = sb at *
  clear hs hs' hA hA' hc hc'
  go_enter Tryd.func88, Tryd.ntmps88
  go_wp2
  go_ret
  exact ⟨ret_bool h3.out, rfl⟩

/-- A record read: what its fields make, held against its bytes. -/
theorem first_yes {l x : List B8} (h1 : ¬ (l.length < 12 ∨ 65524 < lenS l ∨ l.length < endS l)) (hf : fldE (bodyS l) = 0) (hx : (fldT (bodyS l)).take (fldK (bodyS l)) = x) (hd : (fldT (bodyS l)).drop (fldK (bodyS l)) = [])
    (e : formS (numV (bodyS l)) (numV (numR (bodyS l))) x = l.take (endS l)) : readS l = some ⟨numV (bodyS l), numV (numR (bodyS l)), endS l / 64, x⟩ := by
  obtain ⟨hb, h2, h3⟩ := fld_back hf hd
  rw [hx] at hb
  have hlen : (fldS (numV (bodyS l)) (numV (numR (bodyS l))) x).length ≤ 65524 := by
    rw [← hb]; unfold bodyS; rw [List.length_take]; omega
  have h := form_read (numV (bodyS l)) (numV (numR (bodyS l))) x (l.drop (endS l)) h2 h3 hlen
  rw [e, List.take_append_drop, List.length_take, Nat.min_eq_left (by omega)] at h
  exact h
theorem first_no {l x : List B8} (hx : (fldT (bodyS l)).take (fldK (bodyS l)) = x)
    (e : formS (numV (bodyS l)) (numV (numR (bodyS l))) x ≠ l.take (endS l)) : readS l = none := by
  cases hr : readS l with
  | none => rfl
  | some r =>
    exfalso
    obtain ⟨h1, h2, h3⟩ := readS_size hr
    obtain ⟨h4, -, -, -⟩ := read_back hr
    unfold readS at hr
    split at hr
    · cases hr
    · split at hr
      · cases hr
      · split at hr
        · cases hr
        · split at hr
          · cases hr
          · injection hr with hr
            rw [h1] at h4
            apply e
            rw [h4, ← hr, ← hx]
theorem whole_end (l : List B8) : 64 * ((12 + lenS l + 63) / 64) = endS l := sec_count (lenS l)
theorem lenS_lt (l : List B8) : lenS l < 4294967296 := by
  have h := valB_lt (l.take 4)
  have h2 : (l.take 4).length ≤ 4 := by rw [List.length_take]; omega
  have h3 : 256 ^ (l.take 4).length ≤ 256 ^ 4 := Nat.pow_le_pow_right (by omega) h2
  have h4 : (256 : Nat) ^ 4 = 4294967296 := rfl
  unfold lenS; omega
theorem or_low64 (n x : Nat) (hx : x < 256) (hn : n < 16777216) : bits .or .i64 ((n : Int) * 256) (x : Int) = ((n * 256 + x : Nat) : Int) := by
  have f1 : BitVec.ofInt IntKind.i64.bits ((n : Int) * 256) = BitVec.ofNat IntKind.i64.bits (n * 256) := by rw [show (n : Int) * 256 = ((n * 256 : Nat) : Int) by omega, BitVec.ofInt_natCast]
  have f2 : BitVec.ofInt IntKind.i64.bits (x : Int) = BitVec.ofNat IntKind.i64.bits x := BitVec.ofInt_natCast ..
  have e1 : (BitVec.ofNat IntKind.i64.bits (n * 256)).toNat = n * 256 := by rw [BitVec.toNat_ofNat]; exact Nat.mod_eq_of_lt (by simp [IntKind.bits]; omega)
  have e2 : (BitVec.ofNat IntKind.i64.bits x).toNat = x := by rw [BitVec.toNat_ofNat]; exact Nat.mod_eq_of_lt (by simp [IntKind.bits]; omega)
  have e3 : (BitVec.ofNat IntKind.i64.bits (n * 256) ||| BitVec.ofNat IntKind.i64.bits x).toNat = n * 256 + x := by
    rw [BitVec.toNat_or, e1, e2, Nat.mul_comm, show (256 : Nat) = 2 ^ 8 from rfl, ← Nat.two_pow_add_eq_or_of_lt (by simpa using hx)]
  simp only [bits, f1, f2, e3]
  exact IntWalk.i64_in _ (by omega)
end
end Go.Proofs.YtajdcekkmikbcaaDoor
