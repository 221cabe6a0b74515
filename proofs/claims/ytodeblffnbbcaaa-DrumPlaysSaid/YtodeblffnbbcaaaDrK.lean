/- A sector of one byte: 'full' of the laws. -/
import Derived.Test.YtodeblffnbbcaaaDrJ
set_option linter.unusedVariables false
namespace Go.Proofs.Ytodeblffnbbcaaa
open Go.RowKit
set_option maxRecDepth 100000 in
theorem full_any (x : B8) (w : World) : Calls Try.prog 23 #[.int .u8 (x.toNat : Int)] w fun r w' => ∃ v, r = .returned v ∧ w'.ownsRow w.heap.size 5 1 v 64 ((fullS x).map bv) ∧ Turn (fun _ => False) w w' := by
  have hmk := make64
  have hz : (zeros 64).length = 64 := by simp [zeros]
  have hf : (fullS x).length = 64 := by simp [fullS]
  obtain ⟨C, hC⟩ : ∃ C, C = ((zeros 64).map bv).toArray := ⟨_, rfl⟩
  rw [← hC] at hmk
  have HC := Lib.hid hC
  clear hC
  go_enter Try.func23, Try.ntmps23
  go_upto_region 3 with fail
  go_loopw [4] (fun i wr => ∃ m : Nat, m ≤ 64 ∧ i = .int .i64 m ∧ wr.ownsRow w.heap.size 5 1 (.slice (some ⟨w.heap.size, 0, none⟩) 64 64) 64 (((fullS x).take m ++ (zeros 64).drop m).map bv) ∧ Turn (fun _ => False) w wr) (fun i _ => 64 - (intOf i).toNat)
  case atStart =>
    refine ⟨0, Nat.zero_le _, rfl, ?_, (Turn.refl _ _).alloc _⟩
    have := own_new w w.heap.size 5 ((zeros 64).map bv) 64 (by simp [zeros]) (Nat.le_refl _) (by unfold maxLen; omega)
    rw [HC.out]
    simpa using this
  case round =>
    obtain ⟨m, hm, rfl, ho, ht⟩ := hrel
    have HO := Lib.hid ho
    have HT := Lib.hid ht
    by_cases hm6 : m < 64
    · obtain ⟨v8, hv8⟩ : ∃ v8, (((fullS x).take m ++ (zeros 64).drop m).map bv)[m]? = some v8 := ⟨_, List.getElem?_eq_getElem (by simp [hf, hz]; omega)⟩
      obtain ⟨A8, C8, e8, k8⟩ := own_cells ho
      obtain ⟨g8, hA8, eo8, eo⟩ := k8 _ _ hv8
      injection e8 with e8a e8b e8c
      subst e8a; subst e8c
      injection hA8 with hA8; injection hA8 with hA8
      subst hA8
      have ez := own_frozen ho (g := w.heap.size) rfl m
      have HY := Lib.hid (mix_yes (fullS x) (zeros 64) m hf hz hm6 x (by simp only [fullS, List.getElem?_replicate]; rw [if_pos hm6]))
      clear k8 hv8 eo8 ho ht
      go_wp2
      go_roundw
      case rel =>
        refine ⟨m + 1, by omega, by go_num, ?_, ?_⟩
        · rw [← HY.out]
          exact own_set HO.out m hm6 _
        · exact HT.out.trans ((Turn.refl (fun i => i = w.heap.size) wr).setCell ⟨w.heap.size, m, none⟩ _ (fun _ => rfl)) (fun i hi e => by have e : i = w.heap.size := e; omega)
      case measure => simp [intOf]; omega
    · have h64 : ((fullS x).take m ++ (zeros 64).drop m) = fullS x := by
        rw [List.take_of_length_le (by omega), List.drop_of_length_le (by omega), List.append_nil]
      rw [h64] at HO
      clear ho ht h64
      go_wp2
      go_ret
      exact ⟨_, rfl, HO.out, HT.out⟩
end Go.Proofs.Ytodeblffnbbcaaa
