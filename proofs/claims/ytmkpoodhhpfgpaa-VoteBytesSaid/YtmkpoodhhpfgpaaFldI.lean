/- The contracts of 'look' and 'Read': what is done with an eye, and how its panic is caught. -/
import Derived.Test.YtmkpoodhhpfgpaaFldF
import Derived.Defers
import Derived.Recover
import Derived.LaidEqlPtr
set_option linter.unusedVariables false
namespace Go.Proofs.Ytmkpoodhhpfgpaa
open Go.RowKit
set_option maxRecDepth 100000 in
theorem threw_any (e E : Nat) (A : Option Addr) (n c y : Nat) (w : World) (h : EyeAt w e E A n c y) :
    Calls Try.prog 52 #[.pointer (some ⟨e, 0, none⟩), .iface 84 (.pointer (some ⟨E, 0, none⟩))] w fun r w' => r = .returned (.bool true) ∧ w' = w := by
  obtain ⟨c0, c1, c2, z0, z1, z2⟩ := h.cells
  have hta : ∀ w, (Instr.typeAssert (.iface 84 (.pointer (some ⟨E, 0, none⟩))) 20 84 true).run Try.prog w = .ok (.tuple #[.pointer (some ⟨E, 0, none⟩), .bool true]) w := fun w => by kernel_rfl
  have heq : ∀ w, (binOp .eql 84 (.pointer (some ⟨E, 0, none⟩)) (.pointer (some ⟨E, 0, none⟩))).run Try.prog w = .ok (.bool true) w := fun w => by
    obtain ⟨j, hj⟩ : ∃ j, Try.prog.info? 86 = some j := Option.isSome_iff_exists.1 (by kernel_rfl)
    exact run_eql_ptr_same w _ (by kernel_rfl) hj
  go_enter Try.func52, Try.ntmps52
  go_wp2
  go_ret
  exact ⟨rfl, rfl⟩
set_option maxRecDepth 100000 in
theorem catch_idle (q : Addr) (w : World) :
    CallsD Try.prog 51 #[.pointer (some q)] .returning w fun r u' w' => r = .returned (.tuple #[]) ∧ u' = .returning ∧ w' = w := by
  refine callsD_of_wpS Try.func51 rfl fun c₀ cs hu => ?_
  apply wpS_seq
  apply wpS_region
  simp [wpOpsS, go_sem, recoverD, hu, Try.ntmps51, Exit.thenS]
  refine wpS_of_wp ?_
  change Code.wp _ _ _ { tmps := #[.pointer (some q), .nilIface, .nilIface, undef, undef, undef, undef, undef, undef, undef, undef, undef], defers := [] } w
  go_wp2
  refine ⟨rfl, .returning, ?_, .tuple #[], ?_, rfl, rfl, rfl⟩
  · rw [← hu]
  · simp [results, Try.results51]
set_option maxRecDepth 100000 in
theorem catch_pan (q : Addr) (e E : Nat) (A : Option Addr) (n c y : Nat) (w : World) (hq : w.cell? q = some (.pointer (some ⟨e, 0, none⟩))) (h : EyeAt w e E A n c y) :
    CallsD Try.prog 51 #[.pointer (some q)] (.panicking [{ v := .iface 84 (.pointer (some ⟨E, 0, none⟩)), recovered := false }]) w fun r u' w' =>
      r = .returned (.tuple #[]) ∧ u' = .panicking [{ v := .iface 84 (.pointer (some ⟨E, 0, none⟩)), recovered := true }] ∧ w' = w := by
  have T := Lib.hid (threw_any e E A n c y w h)
  have hne : ∀ w, (binOp .neq 20 (.iface 84 (.pointer (some ⟨E, 0, none⟩))) .nilIface).run Try.prog w = .ok (.bool true) w := fun w => by kernel_rfl
  refine callsD_of_wpS Try.func51 rfl fun c₀ cs hu => ?_
  apply wpS_seq
  apply wpS_region
  simp [wpOpsS, go_sem, recoverD, hu, Try.ntmps51, Exit.thenS]
  refine wpS_of_wp ?_
  change Code.wp _ _ _ { tmps := #[.pointer (some q), .iface 84 (.pointer (some ⟨E, 0, none⟩)), .iface 84 (.pointer (some ⟨E, 0, none⟩)), undef, undef, undef, undef, undef, undef, undef, undef, undef], defers := [] } w
  clear h
  go_wp2_with (go_at_call 52; refine T.out.mono ?_; rintro r w' ⟨rfl, rfl⟩)
  refine ⟨rfl, _, rfl, .tuple #[], ?_, rfl, rfl, rfl⟩
  simp [results, Try.results51]
set_option maxRecDepth 100000 in
theorem look_any (e E : Nat) (G : FuncId) (x : Value) (w : World) (Rok Rno : World → Prop) (hG : ∀ (args : Array Value) (w : World), (callFunc G args).run Try.prog w = .ok (.enter G args) w)
    (hdo : Calls Try.prog G #[x, .pointer (some ⟨e, 0, none⟩)] (w.alloc (.cells #[.pointer (some ⟨e, 0, none⟩)] 67)) fun r w' =>
      (r = .returned (.tuple #[]) ∧ Rok w') ∨ (r = pan E ∧ Rno w' ∧ (∃ A n c y, EyeAt w' e E A n c y) ∧ w'.cell? ⟨w.heap.size, 0, none⟩ = some (.pointer (some ⟨e, 0, none⟩)))) :
    Calls Try.prog 44 #[.pointer (some ⟨e, 0, none⟩), .func (.func G) #[x] #[]] w fun r w' => r = .returned (.tuple #[]) ∧ (Rok w' ∨ Rno w') := by
  have hmf : ∀ (fn : Fn) (first cap : Array Value) (w : World), (Instr.makeFunc fn first cap).run Try.prog w = .ok (.func fn first cap) w := fun _ _ _ _ => rfl
  have hnf : ∀ w, (binOp .neq 69 (.func (.func G) #[x] #[]) .nilFunc).run Try.prog w = .ok (.bool true) w := fun w => by kernel_rfl
  have HD := Lib.hid hdo
  clear hdo
  go_enter_defers Try.func44, Try.ntmps44
  go_wp2_with fail
  refine HD.out.mono ?_
  rintro r w1 (⟨rfl, h1⟩ | ⟨rfl, h1, ⟨A, n, c, y, he⟩, hc⟩)
  · go_wp2_with fail
    refine leaves_cons (f := 51) (args := #[.pointer (some ⟨w.heap.size, 0, none⟩)]) (by simp) (by simp [go_sem]) ?_
    refine (catch_idle _ _).mono ?_
    rintro r u' w2 ⟨rfl, rfl, rfl⟩
    exact ⟨_, results_none rfl _ _ _, rfl, .inl h1⟩
  · dsimp only [pan]
    refine leaves_cons (f := 51) (args := #[.pointer (some ⟨w.heap.size, 0, none⟩)]) (by simp) (by simp [go_sem]) ?_
    refine (catch_pan _ e E A n c y w1 hc he).mono ?_
    rintro r u' w2 ⟨rfl, rfl, rfl⟩
    simp [Leaves, settle, results, Try.results44, go_sem]
    exact .inr h1
set_option maxRecDepth 100000 in
theorem shut_any (q e E : Nat) (A : Option Addr) (n c y : Nat) (u : FrameMode) (w : World) (hq : w.cell? ⟨q, 0, none⟩ = some (.pointer (some ⟨e, 0, none⟩))) (he : EyeAt w e E A n c y) :
    CallsD Try.prog 43 #[.pointer (some ⟨q, 0, none⟩)] u w fun r u' w' => u' = u ∧ r = .returned (.tuple #[]) ∧ Turn (fun i => i = e) w w' := by
  obtain ⟨c0, c1, c2, z0, z1, z2⟩ := he.cells
  go_enter_d Try.func43, Try.ntmps43
  go_wp2
  go_end0
  exact ⟨rfl, ((Turn.refl (fun i => i = e) w).setCell ⟨e, 0, none⟩ _ (fun _ => rfl)).setCell ⟨e, 1, none⟩ _ (fun _ => rfl)⟩
end Go.Proofs.Ytmkpoodhhpfgpaa
