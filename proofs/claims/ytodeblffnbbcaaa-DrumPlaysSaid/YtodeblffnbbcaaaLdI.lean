/- The landed drum: Read. -/
import Derived.Test.YtodeblffnbbcaaaLdH
set_option linter.unusedVariables false
namespace Go.Proofs.Ytodeblffnbbcaaa
open Go.RowKit
attribute [local go_sem ↓] loadAt_sec loadAt_wr
attribute [local go_sem] zero_sec zero_wr ZSec_size ZWr_size run_secLoad run_wrLoad rowOf_drew rowOf_drewN
/-- What Read answers: none, or a copy of the sector. -/
def RdV (w w' : World) (d : Dr) (a : Int) (v : Value) : Prop :=
  (d.readE a ≠ 0 ∧ v = .slice none 0 0) ∨ (d.readE a = 0 ∧ ∃ g0, v = .slice (some ⟨g0, 0, none⟩) 64 64 ∧ w.heap.size ≤ g0 ∧ w'.heap[g0]? = some (.cells ((d.now a.toNat).map bv).toArray 60 (0, 0)))
theorem RdV.turn {S : Nat → Prop} {w w' w2 : World} {d : Dr} {a : Int} {v : Value} (h : RdV w w' d a v) (t : Turn S w' w2) (hS : ∀ k, w.heap.size ≤ k → k < w'.heap.size → ¬ S k) : RdV w w2 d a v := by
  rcases h with h | ⟨h1, g0, h2, h3, h4⟩
  · exact .inl h
  · exact .inr ⟨h1, g0, h2, h3, t.heap h4 (hS g0 h3 (lt_of_block h4))⟩
/-- As a slice: its bytes, in no block that was there. -/
theorem RdV.sl {w w' : World} {d : Dr} {a : Int} {v : Value} {n : Nat} (ok : d.Ok n) (h : RdV w w' d a v) : ∃ A c, v = .slice A (d.readV a).length c ∧ SlN w' (fun k => k < w.heap.size) A ((d.readV a).map bv) ∧ (d.readV a).length ≤ maxLen := by
  rcases h with ⟨h1, rfl⟩ | ⟨h1, g0, rfl, h3, h4⟩
  · have e : d.readV a = [] := by unfold Dr.readV; rw [if_neg h1]
    rw [e]; exact ⟨none, 0, rfl, fun j u hu => by simp at hu, by unfold maxLen; simp⟩
  · have e : d.readV a = d.now a.toNat := by unfold Dr.readV; rw [if_pos h1]
    have hl := Dr.now_len ok a.toNat (Dr.readE_ok ok h1).2.2
    rw [e, hl]
    refine ⟨_, 64, rfl, fun j u hu => ⟨_, rfl, by simpa using h3, ?_⟩, by unfold maxLen; simp⟩
    have e : (⟨g0, 0, none⟩ : Addr).add j = ⟨g0, j, none⟩ := by unfold Addr.add; by_cases hj : j = 0 <;> simp [hj]
    rw [e, cell_of_row _ _ _ _ _ _ h4, List.getElem?_toArray]; exact hu
set_option maxRecDepth 100000 in
set_option maxHeartbeats 1000000 in
theorem lread_any (g n : Nat) (Sv Wv : Value) (d : Dr) (D : Nat → Prop) (a : Int) (w : World) (h : LMem w g Sv Wv d n D) :
    Calls Try.prog 18 #[.pointer (some ⟨g, 0, none⟩), .int .i64 a] w fun r w' => ∃ v, r = .returned (.tuple #[v, .int .i64 (d.readE a : Int)]) ∧ RdV w w' d a v ∧ Turn (fun _ => False) w w' := by
  have HR := Lib.hid (lreach_any g n Sv Wv d D a w h)
  by_cases hr : d.readE a = 0
  case neg =>
    have e : ∀ w', RdV w w' d a (.slice none 0 0) := fun w' => .inl ⟨hr, rfl⟩
    have HE := Lib.hid e
    clear h e
    generalize d.readE a = E at HR hr ⊢
    have hE : ((E : Int) == 0) = false := by rw [beq_eq_false_iff_ne]; omega
    go_enter Try.func18, Try.ntmps18
    go_wp2_with (go_at_call 25; refine HR.out.mono ?_; rintro r w1 ⟨rfl, hw1⟩; rw [hw1]; clear hw1 w1)
    refine bodyPost_ret (results_tmp2 rfl _ _ _) rfl ?_
    exact ⟨_, rfl, HE.out _, Turn.refl _ _⟩
  obtain ⟨hoff, ha0, hka⟩ := Dr.readE_ok h.ok hr
  obtain ⟨k, rfl⟩ : ∃ k : Nat, a = (k : Int) := ⟨a.toNat, by omega⟩
  have hk : k < n := hka
  have HN := Lib.hid (now_any g n Sv Wv d D k hk w h)
  have hl := Dr.now_len h.ok k hk
  rw [hr] at HR
  obtain ⟨C, hC⟩ : ∃ C, C = ((d.now k).map bv).toArray := ⟨_, rfl⟩
  rw [← hC] at HN
  have hCs : C.size = 64 := by rw [hC]; simp [hl]
  have hC1 : C.all (·.oneCell') = true := by rw [hC, Array.all_eq_true_iff_forall_mem]; intro u hu; exact bv_one _ u (by simpa using hu)
  have HC := Lib.hid hC
  have HST := Lib.hid (fun w1 : World => show (storeCells ⟨w1.heap.size, 0, none⟩ C.toList).run Try.prog (w1.alloc (.cells (List.toArray (Value.int .u8 0 :: Value.int .u8 0 :: Value.int .u8 0 :: Value.int .u8 0 :: Value.int .u8 0 :: Value.int .u8 0 :: Value.int .u8 0 :: Value.int .u8 0 :: Value.int .u8 0 :: Value.int .u8 0 :: Value.int .u8 0 :: Value.int .u8 0 :: Value.int .u8 0 :: Value.int .u8 0 :: Value.int .u8 0 :: Value.int .u8 0 :: Value.int .u8 0 :: Value.int .u8 0 :: Value.int .u8 0 :: Value.int .u8 0 :: Value.int .u8 0 :: Value.int .u8 0 :: Value.int .u8 0 :: Value.int .u8 0 :: Value.int .u8 0 :: Value.int .u8 0 :: Value.int .u8 0 :: Value.int .u8 0 :: Value.int .u8 0 :: Value.int .u8 0 :: Value.int .u8 0 :: Value.int .u8 0 :: Value.int .u8 0 :: Value.int .u8 0 :: Value.int .u8 0 :: Value.int .u8 0 :: Value.int .u8 0 :: Value.int .u8 0 :: Value.int .u8 0 :: Value.int .u8 0 :: Value.int .u8 0 :: Value.int .u8 0 :: Value.int .u8 0 :: Value.int .u8 0 :: Value.int .u8 0 :: Value.int .u8 0 :: Value.int .u8 0 :: Value.int .u8 0 :: Value.int .u8 0 :: Value.int .u8 0 :: Value.int .u8 0 :: Value.int .u8 0 :: Value.int .u8 0 :: Value.int .u8 0 :: Value.int .u8 0 :: Value.int .u8 0 :: Value.int .u8 0 :: Value.int .u8 0 :: Value.int .u8 0 :: Value.int .u8 0 :: Value.int .u8 0 :: Value.int .u8 0 :: Value.int .u8 0 :: Value.int .u8 0 :: [])) 60)) = .ok () (w1.alloc (.cells C 60)) from run_store_new w1 C ZSec 60 (by rw [hCs, ZSec_size]) hC1)
  have HR0 := Lib.hid hr
  rw [hr]
  clear h hC ha0 hka hl hr
  go_enter Try.func18, Try.ntmps18
  go_wp2_with (first | (go_at_call 25; refine HR.out.mono ?_; rintro r w1 ⟨rfl, hw1⟩; rw [hw1]; clear hw1 w1) | (go_at_call 29; refine HN.out.mono ?_; rintro r w2 ⟨rfl, hb2⟩; have HB2 := Lib.hid hb2; clear hb2; have hst := HST.out w2))
  refine bodyPost_ret (results_tmp2 rfl _ _ _) rfl ?_
  refine ⟨_, rfl, .inr ⟨HR0.out, w2.heap.size, rfl, HB2.out.size, ?_⟩, (Turn.of_below HB2.out).trans ((Turn.refl (fun _ => False) w2).alloc _) (fun _ _ h => h)⟩
  rw [show (k : Int).toNat = k from rfl, ← HC.out]
  exact heap_alloc_new w2 _
end Go.Proofs.Ytodeblffnbbcaaa
