/- 'Read' with a reader that holds a variable of its caller. -/
import Derived.Test.YtgjplbanfnomkaaTxBase
set_option linter.unusedVariables false
namespace Go.Proofs.Ytgjplbanfnomkaa
open Go.RowKit
set_option maxRecDepth 100000 in
theorem look_cap (e E : Nat) (G : FuncId) (x : Value) (w : World) (Rok Rno : World → Prop) (hG : ∀ (args : Array Value) (w : World), (callFunc G args).run Try.prog w = .ok (.enter G args) w)
    (hdo : Calls Try.prog G #[.pointer (some ⟨e, 0, none⟩), x] (w.alloc (.cells #[.pointer (some ⟨e, 0, none⟩)] 83)) fun r w' =>
      (r = .returned (.tuple #[]) ∧ Rok w') ∨ (r = pan E ∧ Rno w' ∧ (∃ A n c y, EyeAt w' e E A n c y) ∧ w'.cell? ⟨w.heap.size, 0, none⟩ = some (.pointer (some ⟨e, 0, none⟩)))) :
    Calls Try.prog 67 #[.pointer (some ⟨e, 0, none⟩), .func (.func G) #[] #[x]] w fun r w' => r = .returned (.tuple #[]) ∧ (Rok w' ∨ Rno w') := by
  have hmf : ∀ (fn : Fn) (first cap : Array Value) (w : World), (Instr.makeFunc fn first cap).run Try.prog w = .ok (.func fn first cap) w := fun _ _ _ _ => rfl
  have hnf : ∀ w, (binOp .neq 85 (.func (.func G) #[] #[x]) .nilFunc).run Try.prog w = .ok (.bool true) w := fun w => by kernel_rfl
  have HD := Lib.hid hdo
  clear hdo
  go_enter_defers Try.func67, Try.ntmps67
  go_wp2_with fail
  refine HD.out.mono ?_
  rintro r w1 (⟨rfl, h1⟩ | ⟨rfl, h1, ⟨A, n, c, y, he⟩, hc⟩)
  · go_wp2_with fail
    refine leaves_cons (f := 74) (args := #[.pointer (some ⟨w.heap.size, 0, none⟩)]) (by simp) (by simp [go_sem]) ?_
    refine (catch_idle _ _).mono ?_
    rintro r u' w2 ⟨rfl, rfl, rfl⟩
    exact ⟨_, results_none rfl _ _ _, rfl, .inl h1⟩
  · dsimp only [pan]
    refine leaves_cons (f := 74) (args := #[.pointer (some ⟨w.heap.size, 0, none⟩)]) (by simp) (by simp [go_sem]) ?_
    refine (catch_pan _ e E A n c y w1 hc he).mono ?_
    rintro r u' w2 ⟨rfl, rfl, rfl⟩
    simp [Leaves, settle, results, Try.results67, go_sem]
    exact .inr h1
set_option maxRecDepth 100000 in
theorem read_cap (G : FuncId) (x : Value) (A : Option Addr) (c : Nat) (bs : List B8) (w : World) (N M : Nat → Prop) (R : List B8 → World → Prop) (F : Nat → World → Prop)
    (hG : ∀ (args : Array Value) (w : World), (callFunc G args).run Try.prog w = .ok (.enter G args) w)
    (hs : SlN w M A (bs.map bv)) (hA : A = none → c = 0) (hc : bs.length ≤ c) (hlen : bs.length ≤ 1099511627776) (hN : ¬ N (w.heap.size + 2) ∧ ¬ N (w.heap.size + 3))
    (hdo : ∀ w1, Turn (fun _ => False) w w1 → w1.heap.size = w.heap.size + 4 → Eye0 w1 (w.heap.size + 1) w.heap.size (fun i => M i ∨ w.heap.size ≤ i) bs → Calls Try.prog G #[.pointer (some ⟨w.heap.size + 1, 0, none⟩), x] w1 fun r w2 => Turn N w1 w2 ∧
      ((r = .returned (.tuple #[]) ∧ ∃ l, Eye0 w2 (w.heap.size + 1) w.heap.size (fun i => M i ∨ w.heap.size ≤ i) l ∧ R l w2) ∨ (r = pan w.heap.size ∧ ∃ k, k ≠ 0 ∧ EyeX w2 (w.heap.size + 1) w.heap.size k ∧ F k w2))) :
    Calls Try.prog 54 #[.slice A bs.length c, .func (.func G) #[] #[x]] w fun r w' => ∃ w2, Turn (fun i => i = w.heap.size + 1) w2 w' ∧
      ((∃ l, R l w2 ∧ r = .returned (.int .i64 (if l = [] then 0 else 3))) ∨ (∃ k : Nat, k ≠ 0 ∧ F k w2 ∧ r = .returned (.int .i64 (k : Int)))) := by
  have hmf : ∀ (fn : Fn) (first cap : Array Value) (w : World), (Instr.makeFunc fn first cap).run Try.prog w = .ok (.func fn first cap) w := fun _ _ _ _ => rfl
  go_enter_defers Try.func54, Try.ntmps54
  go_wp2_with fail
  obtain ⟨W3, hW3⟩ : ∃ W3, W3 = ((w.alloc (.cells #[Value.int IntKind.i64 0] 105)).alloc (.cells #[Value.slice A bs.length c, Value.pointer (some { block := w.heap.size, off := 0 })] 107)).alloc (.cells #[Value.pointer (some { block := w.heap.size + 1, off := 0 })] 83) := ⟨_, rfl⟩
  have t3 : Turn (fun _ => False) w W3 := by rw [hW3]; exact (((Turn.refl _ w).alloc _).alloc _).alloc _
  have s3 : W3.heap.size = w.heap.size + 3 := by rw [hW3]; simp
  have q3 : W3.cell? ⟨w.heap.size + 1 + 1, 0, none⟩ = some (.pointer (some ⟨w.heap.size + 1, 0, none⟩)) := by
    have := heap_alloc_new ((w.alloc (.cells #[Value.int IntKind.i64 0] 105)).alloc (.cells #[Value.slice A bs.length c, Value.pointer (some { block := w.heap.size, off := 0 })] 107)) (.cells #[Value.pointer (some { block := w.heap.size + 1, off := 0 })] 83)
    rw [← hW3] at this
    simp only [World.size_alloc] at this
    rw [cell_of_row W3 _ 0 _ _ _ this]; rfl
  have e3 : Eye0 W3 (w.heap.size + 1) w.heap.size (fun i => M i ∨ w.heap.size ≤ i) bs := by
    refine Eye0.weak (N := fun i => M i ∨ w.heap.size ≤ i) ⟨A, c, ⟨?_, ?_⟩, fun j u hu => ?_, hc, hA, .inr (by omega), .inr (Nat.le_refl _), hlen⟩ (fun _ h => h) (.inr (by omega)) (.inr (Nat.le_refl _))
    · rw [hW3, Below.heap_alloc _ _ _ (by simp)]; exact heap_alloc2_new w _ _
    · rw [hW3, Below.heap_alloc _ _ _ (by simp; omega)]; exact heap_alloc2_old w _ _
    · obtain ⟨ad, e1, hb, hcl⟩ := hs j u hu
      have hlt := World.block_lt_of_cell? w _ hcl
      rw [add_block] at hlt
      exact ⟨ad, e1, fun h => h.elim hb (fun h => by omega), t3.cell hcl (fun h => h)⟩
  have HL := Lib.hid (look_cap (w.heap.size + 1) w.heap.size G x W3
    (fun w2 => ∃ l, Eye0 w2 (w.heap.size + 1) w.heap.size (fun i => M i ∨ w.heap.size ≤ i) l ∧ R l w2 ∧ w2.cell? ⟨w.heap.size + 1 + 1, 0, none⟩ = some (.pointer (some ⟨w.heap.size + 1, 0, none⟩)))
    (fun w2 => ∃ k, k ≠ 0 ∧ EyeX w2 (w.heap.size + 1) w.heap.size k ∧ F k w2 ∧ w2.cell? ⟨w.heap.size + 1 + 1, 0, none⟩ = some (.pointer (some ⟨w.heap.size + 1, 0, none⟩))) hG
    (by
      refine (hdo _ (t3.alloc _) (by simp [s3]) (e3.alloc _)).mono ?_
      rintro r w2 ⟨tN, (⟨rfl, l, hl, hr⟩ | ⟨rfl, k, hk, hx, hf⟩)⟩
      · exact .inl ⟨rfl, l, hl, hr, tN.cell (((Turn.refl (fun _ => False) W3).alloc _).cell q3 (fun h => h)) hN.1⟩
      · refine .inr ⟨rfl, ⟨k, hk, hx, hf, tN.cell (((Turn.refl (fun _ => False) W3).alloc _).cell q3 (fun h => h)) hN.1⟩, ?_, ?_⟩
        · obtain ⟨A', n', c', h'⟩ := hx
          exact ⟨A', n', c', k, h'⟩
        · refine tN.cell ?_ (by rw [s3]; exact hN.2)
          rw [cell_of_row _ _ 0 _ _ _ (heap_alloc_new W3 _)]; rfl))
  rw [← hW3]
  clear hW3 t3 s3 q3 e3 hdo hs hlen
  refine HL.out.mono ?_
  rintro r w2 ⟨rfl, (⟨l, hl, hr, hq⟩ | ⟨k, hk, hx, hf, hq⟩)⟩
  · obtain ⟨A2, c2, he, -⟩ := id hl
    obtain ⟨c0, c1, c2', z0, z1, z2⟩ := he.cells
    have HE := Lib.hid (fun w => ended_any (w.heap.size + 1) w.heap.size A2 l.length c2 0 w)
    have E1 := Lib.hid (ended_any _ _ _ _ _ _ _ he)
    have L1 := Lib.hid (left_any _ _ _ _ _ _ _ he)
    have HHE := Lib.hid he
    have HR := Lib.hid hr
    clear hl he hr HL HE
    by_cases h0 : l = []
    · subst h0
      go_wp2_with (first
        | (go_at_call 68; refine E1.out.mono ?_; rintro r w' ⟨rfl, rfl⟩)
        | (go_at_call 69; refine L1.out.mono ?_; rintro r w' ⟨rfl, rfl⟩))
      refine leaves_cons (f := 66) (args := #[.pointer (some ⟨w.heap.size + 1 + 1, 0, none⟩)]) (by simp) (by simp [go_sem]) ?_
      refine (shut_any _ _ _ _ _ _ _ _ _ hq HHE.out).mono ?_
      rintro r u' w3 ⟨rfl, rfl, ht⟩
      exact ⟨_, results_tmp rfl _ _ _, _, ht, .inl ⟨[], HR.out, rfl⟩⟩
    · have hl0 : (0 : Int) < (l.length : Int) := by have := List.length_pos_iff.2 h0; omega
      have hi : (if l = [] then (0 : Int) else 3) = 3 := by rw [if_neg h0]
      have HI := Lib.hid hi
      clear hi
      go_wp2_with (first
        | (go_at_call 68; refine E1.out.mono ?_; rintro r w' ⟨rfl, rfl⟩)
        | (go_at_call 69; refine L1.out.mono ?_; rintro r w' ⟨rfl, rfl⟩))
      refine leaves_cons (f := 66) (args := #[.pointer (some ⟨w.heap.size + 1 + 1, 0, none⟩)]) (by simp) (by simp [go_sem]) ?_
      refine (shut_any _ _ _ _ _ _ _ _ _ hq HHE.out).mono ?_
      rintro r u' w3 ⟨rfl, rfl, ht⟩
      exact ⟨_, results_tmp rfl _ _ _, _, ht, .inl ⟨l, HR.out, by rw [HI.out]; rfl⟩⟩
  · obtain ⟨A2, n2, c2, he⟩ := hx
    obtain ⟨c0, c1, c2', z0, z1, z2⟩ := he.cells
    have E1 := Lib.hid (ended_any _ _ _ _ _ _ _ he)
    have hkd : decide (k ≠ 0) = true := decide_eq_true hk
    have HHE := Lib.hid he
    have HF := Lib.hid hf
    have HK := Lib.hid hk
    rw [hkd] at E1
    clear he hf HL hk hkd
    go_wp2_with (first
      | (go_at_call 68; refine E1.out.mono ?_; rintro r w' ⟨rfl, rfl⟩))
    refine leaves_cons (f := 66) (args := #[.pointer (some ⟨w.heap.size + 1 + 1, 0, none⟩)]) (by simp) (by simp [go_sem]) ?_
    refine (shut_any _ _ _ _ _ _ _ _ _ hq HHE.out).mono ?_
    rintro r u' w3 ⟨rfl, rfl, ht⟩
    exact ⟨_, results_tmp rfl _ _ _, _, ht, .inr ⟨k, HK.out, HF.out, rfl⟩⟩
end Go.Proofs.Ytgjplbanfnomkaa
