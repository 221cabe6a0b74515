/- An entry's form is read as the entry, and what is read has this form. -/
import Derived.Test.YtomflniknnenaaaEnH
set_option linter.unusedVariables false
set_option linter.unusedSimpArgs false
namespace Go.Proofs.Ytomflniknnenaaa
open Go.RowKit
set_option maxRecDepth 100000 in
theorem read_numB (n : Nat) (r : List B8) (hn : n < 18446744073709551616) : numE (numB n ++ r) = 0 ∧ numV (numB n ++ r) = n ∧ numR (numB n ++ r) = r := by
  have h8 := klen_eight hn
  have hk : (BitVec.ofNat 8 (klen n)).toNat = klen n := by rw [BitVec.toNat_ofNat]; exact Nat.mod_eq_of_lt (by omega)
  have ht : (beN (klen n) n ++ r).take (klen n) = beN (klen n) n := List.take_left' (beN_len _ _)
  have hd : (beN (klen n) n ++ r).drop (klen n) = r := List.drop_left' (beN_len _ _)
  rw [numB, List.cons_append]
  simp only [numE, numV, numR, hk, ht, hd]
  refine ⟨?_, valB_numB, trivial⟩
  rw [if_neg (by omega), if_neg (by simp [beN_len]), if_neg]
  by_cases h0 : n = 0
  · subst h0; simp [klen_zero, beN]
  · obtain ⟨x, s, e, hx⟩ := beN_head h0
    rw [e]; simpa using hx
set_option maxRecDepth 100000 in
theorem eNum_numB (m n : Nat) (r : List B8) (hn : n ≤ m) (hm : n < 18446744073709551616) : eNum m (numB n ++ r) = 0 := by
  obtain ⟨h1, h2, h3⟩ := read_numB n r hm
  unfold eNum
  rw [h1, h2, if_neg (by omega), if_neg (by omega)]
theorem num_split (l : List B8) (h : numE l = 0) : l = numB (numV l) ++ numR l := by
  cases l with
  | nil => simp [numE] at h
  | cons k r =>
    simp only [numE] at h
    split at h
    · omega
    · rename_i h1
      split at h
      · omega
      · rename_i h2
        split at h
        · omega
        · rename_i h3
          have hl : (r.take k.toNat).length = k.toNat := by rw [List.length_take]; omega
          have hb := numB_valB (r.take k.toNat) (by
            rintro x s hx h0
            subst h0
            apply h3
            rw [hx]; rfl) (by omega)
          show k :: r = numB (valB (r.take k.toNat)) ++ r.drop k.toNat
          rw [hb, hl, List.cons_append, List.take_append_drop]
          congr 1
          rw [BitVec.ofNat_toNat]; simp
theorem eNum_zero {m : Nat} {l : List B8} (h : eNum m l = 0) : numE l = 0 := by
  unfold eNum at h
  split at h <;> omega
set_option maxRecDepth 100000 in
/-- What is read has just these bytes. -/
theorem read_form {b : List B8} (h : f6 b = 0) (hl : l6 b = []) : formE (bodV b) = b := by
  obtain ⟨-, -, -, -, -, -, -, -, -, -, -, n1, n2, n3, n4, n5, n6⟩ := f_bounds h
  have a1 := num_split b (eNum_zero n1)
  have a2 := num_split (l1 b) (eNum_zero n2)
  have a4 := num_split (l3 b) (eNum_zero n4)
  have a5 := num_split (l4 b) (eNum_zero n5)
  have a6 := num_split (l5 b) (eNum_zero n6)
  have a3 : l2 b = (l2 b).take 32 ++ l3 b := (List.take_append_drop 32 (l2 b)).symm
  change l1 b = numB (numV (l1 b)) ++ l2 b at a2
  change l3 b = numB (numV (l3 b)) ++ l4 b at a4
  change l4 b = numB (numV (l4 b)) ++ l5 b at a5
  change l5 b = numB (numV (l5 b)) ++ l6 b at a6
  change b = numB (numV b) ++ l1 b at a1
  rw [hl, List.append_nil] at a6
  unfold bodV formE eN
  simp only [Int.toNat_natCast]
  rw [← a6, ← a5, ← a4, ← a3, ← a2, ← a1]
set_option maxRecDepth 100000 in
theorem fE_read (k s : Nat) (d : List B8) (a y p : Nat) (hd : d.length = 32) (hk1 : 1 ≤ k) (hk : k ≤ 3) (hs : s ≤ 63) (ha : a ≤ 4611686018427387904) (hy : y ≤ 63) (hp : p ≤ 1099511627776) : readE (fE k s d a y p) = 0 ∧ readV (fE k s d a y p) = eN k s d a y p := by
  obtain ⟨b, hb⟩ : ∃ b, b = fE k s d a y p := ⟨_, rfl⟩
  rw [← hb]
  have hb' : b = numB k ++ (numB s ++ (d ++ (numB a ++ (numB y ++ (numB p ++ []))))) := by rw [hb, fE]; simp
  obtain ⟨x1, x2, x3⟩ := read_numB k (numB s ++ (d ++ (numB a ++ (numB y ++ (numB p ++ []))))) (by omega)
  have n1 := eNum_numB 3 k (numB s ++ (d ++ (numB a ++ (numB y ++ (numB p ++ []))))) hk (by omega)
  rw [← hb'] at x1 x2 x3 n1
  obtain ⟨y1, y2, y3⟩ := read_numB s (d ++ (numB a ++ (numB y ++ (numB p ++ [])))) (by omega)
  have n2 := eNum_numB 63 s (d ++ (numB a ++ (numB y ++ (numB p ++ [])))) hs (by omega)
  have e1 : l1 b = numB s ++ (d ++ (numB a ++ (numB y ++ (numB p ++ [])))) := x3
  rw [← e1] at y1 y2 y3 n2
  have e2 : l2 b = d ++ (numB a ++ (numB y ++ (numB p ++ []))) := y3
  have t2 : (l2 b).take 32 = d := by rw [e2]; exact List.take_left' hd
  have e3 : l3 b = numB a ++ (numB y ++ (numB p ++ [])) := by unfold l3; rw [e2]; exact List.drop_left' hd
  obtain ⟨z1, z2, z3⟩ := read_numB a (numB y ++ (numB p ++ [])) (by omega)
  have n4 := eNum_numB 4611686018427387904 a (numB y ++ (numB p ++ [])) ha (by omega)
  rw [← e3] at z1 z2 z3 n4
  have e4 : l4 b = numB y ++ (numB p ++ []) := z3
  obtain ⟨u1, u2, u3⟩ := read_numB y (numB p ++ []) (by omega)
  have n5 := eNum_numB 63 y (numB p ++ []) hy (by omega)
  rw [← e4] at u1 u2 u3 n5
  have e5 : l5 b = numB p ++ [] := u3
  obtain ⟨v1, v2, v3⟩ := read_numB p [] (by omega)
  have n6 := eNum_numB 1099511627776 p [] hp (by omega)
  rw [← e5] at v1 v2 v3 n6
  have e6 : l6 b = [] := v3
  have g1 : f1 b = 0 := n1
  have g2 : f2 b = 0 := by unfold f2; rw [if_neg (by omega)]; exact n2
  have g3 : f3 b = 0 := by unfold f3; rw [if_neg (by omega), if_neg (by rw [e2, List.length_append]; omega)]
  have g4 : f4 b = 0 := by unfold f4; rw [if_neg (by omega)]; exact n4
  have g5 : f5 b = 0 := by unfold f5; rw [if_neg (by omega)]; exact n5
  have g6 : f6 b = 0 := by unfold f6; rw [if_neg (by omega)]; exact n6
  have hv : bodV b = eN k s d a y p := by unfold bodV; rw [x2, y2, t2, z2, u2, v2]
  have hx : xE b = 0 := by unfold xE; rw [if_neg (by omega), if_pos (by rw [hv]; unfold okB eN; simp only; omega)]
  have hr : readE b = 0 := by unfold readE; rw [if_neg (by omega), if_pos e6]
  exact ⟨hr, by unfold readV; rw [if_neg (by omega), hv]⟩
theorem form_read (e : Ent) (hd : e.d.length = 32) (h : okB e) : readE (formE e) = 0 ∧ readV (formE e) = e := by
  obtain ⟨k, s, y, p, he, h1, h2, h3, h4, h5, h6⟩ := eN_of h
  have := fE_read k s e.d e.a y p hd h1 h2 h3 h4 h5 h6
  rw [fE_eq, ← he] at this
  exact this
theorem formE_le (e : Ent) (hd : e.d.length = 32) (h : okB e) : (formE e).length ≤ 100 := by
  unfold okB at h
  unfold formE
  have n1 := numB_le (n := e.k.toNat) (by omega)
  have n2 := numB_le (n := e.s.toNat) (by omega)
  have n3 := numB_le (n := e.a) (by omega)
  have n4 := numB_le (n := e.y.toNat) (by omega)
  have n5 := numB_le (n := e.p.toNat) (by omega)
  simp only [List.length_append]
  omega
theorem form_inj {x y : Ent} (hx : x.d.length = 32) (hy : y.d.length = 32) (ox : okB x) (oy : okB y) : decide (formE x = formE y) = decide (x = y) := by
  rw [decide_eq_decide]
  constructor
  · intro h
    rw [← (form_read x hx ox).2, h, (form_read y hy oy).2]
  · intro h; rw [h]
end Go.Proofs.Ytomflniknnenaaa
