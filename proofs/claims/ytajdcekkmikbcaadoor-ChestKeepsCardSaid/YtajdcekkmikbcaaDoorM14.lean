/- Merged: What a number written is read as. -/
import Derived.Test.YtajdcekkmikbcaaDoorM10
import Derived.Test.YtajdcekkmikbcaaDoorM11
import Derived.Test.YtajdcekkmikbcaaDoorM12
import Derived.Test.YtajdcekkmikbcaaDoorM01
import Derived.Stop.BytesEq
import Derived.Test.YtajdcekkmikbcaaDoorM05
import Derived.Test.YtajdcekkmikbcaaDoorM03
import Derived.Test.YtajdcekkmikbcaaDoorM00
import Derived.LoopTactic
import Derived.Below
import Derived.Deep.QuietTactic
import Derived.BigQuiet
import Derived.OwnWalk
import Derived.Deep.MidRow
import Derived.Deep.WholeRow
import Derived.Outline
import Derived.Test.YtajdcekkmikbcaaDoorM13
import Derived.Test.YtajdcekkmikbcaaDoorM07
namespace Go.Proofs.YtajdcekkmikbcaaDoor
section
set_option linter.unusedVariables false
set_option maxRecDepth 100000
theorem read_numB (n : Nat) (r : List B8) (hn : n < 18446744073709551616) : numE (numB n ++ r) = 0 ∧ numV (numB n ++ r) = n ∧ numR (numB n ++ r) = r := by
  have h8 := klen_eight hn
  have hk : (BitVec.ofNat 8 (klen n)).toNat = klen n := by rw [BitVec.toNat_ofNat]; exact Nat.mod_eq_of_lt (by omega)
  have ht : (beN (klen n) n ++ r).take (klen n) = beN (klen n) n := List.take_left' (beN_len _ _)
  have hd : (beN (klen n) n ++ r).drop (klen n) = r := List.drop_left' (beN_len _ _)
  rw [numB, List.cons_append]
  simp only [numE, numV, numR, hk, ht, hd]
  refine ⟨?_, valB_numB, trivial⟩
  rw [if_neg (by omega), if_neg (by simp [beN_len]), if_neg]
  by_cases h0 : n = 0
  · subst h0; simp [klen_zero, beN]
  · obtain ⟨x, s, e, hx⟩ := beN_head h0
    rw [e]; simpa using hx
theorem eNum_numB (m n : Nat) (r : List B8) (hn : n ≤ m) (hm : n < 18446744073709551616) : eNum m (numB n ++ r) = 0 := by
  obtain ⟨h1, h2, h3⟩ := read_numB n r hm
  unfold eNum
  rw [h1, h2, if_neg (by omega), if_neg (by omega)]
theorem num_split (l : List B8) (h : numE l = 0) : l = numB (numV l) ++ numR l := by
  cases l with
  | nil => simp [numE] at h
  | cons k r =>
    simp only [numE] at h
    split at h
    · omega
    · rename_i h1
      split at h
      · omega
      · rename_i h2
        split at h
        · omega
        · rename_i h3
          have hl : (r.take k.toNat).length = k.toNat := by rw [List.length_take]; omega
          have hb := numB_valB (r.take k.toNat) (by
            rintro x s hx h0
            subst h0
            apply h3
            rw [hx]; rfl) (by omega)
          show k :: r = numB (valB (r.take k.toNat)) ++ r.drop k.toNat
          rw [hb, hl, List.cons_append, List.take_append_drop]
          congr 1
          rw [BitVec.ofNat_toNat]; simp
end
end Go.Proofs.YtajdcekkmikbcaaDoor
