/- Merged: The letter's form is read as the letter. What is read has this form. -/
import Derived.Test.YtgjplbanfnomkaaLtX
namespace Go.Proofs.Ytgjplbanfnomkaa
section
set_option linter.unusedVariables false
set_option linter.unusedSimpArgs false

open Go.RowKit
set_option maxRecDepth 100000 in
theorem read_numB (n : Nat) (r : List B8) (hn : n < 18446744073709551616) : numE (numB n ++ r) = 0 ∧ numV (numB n ++ r) = n ∧ numR (numB n ++ r) = r := by
  have h8 := klen_eight hn
  have hk : (BitVec.ofNat 8 (klen n)).toNat = klen n := by rw [BitVec.toNat_ofNat]; exact Nat.mod_eq_of_lt (by omega)
  have ht : (beN (klen n) n ++ r).take (klen n) = beN (klen n) n := List.take_left' (beN_len _ _)
  have hd : (beN (klen n) n ++ r).drop (klen n) = r := List.drop_left' (beN_len _ _)
  rw [numB, List.cons_append]
  simp only [numE, numV, numR, hk, ht, hd]
  refine ⟨?_, valB_numB, trivial⟩
  rw [if_neg (by omega), if_neg (by simp [beN_len]), if_neg]
  by_cases h0 : n = 0
  · subst h0; simp [klen_zero, beN]
  · obtain ⟨x, s, e, hx⟩ := beN_head h0
    rw [e]; simpa using hx
set_option maxRecDepth 100000 in
theorem eNum_numB (m n : Nat) (r : List B8) (hn : n ≤ m) (hm : n < 18446744073709551616) : eNum m (numB n ++ r) = 0 := by
  obtain ⟨h1, h2, h3⟩ := read_numB n r hm
  unfold eNum
  rw [h1, h2, if_neg (by omega), if_neg (by omega)]
set_option maxRecDepth 100000 in
theorem num_split (l : List B8) (h : numE l = 0) : l = numB (numV l) ++ numR l := by
  cases l with
  | nil => simp [numE] at h
  | cons k r =>
    simp only [numE] at h
    split at h
    · omega
    · rename_i h1
      split at h
      · omega
      · rename_i h2
        split at h
        · omega
        · rename_i h3
          have hl : (r.take k.toNat).length = k.toNat := by rw [List.length_take]; omega
          have hb := numB_valB (r.take k.toNat) (by
            rintro x s hx h0
            subst h0
            apply h3
            rw [hx]; rfl) (by omega)
          show k :: r = numB (valB (r.take k.toNat)) ++ r.drop k.toNat
          rw [hb, hl, List.cons_append, List.take_append_drop]
          congr 1
          rw [BitVec.ofNat_toNat]; simp
set_option maxRecDepth 100000 in
theorem eNum_zero {m : Nat} {l : List B8} (h : eNum m l = 0) : numE l = 0 := by
  unfold eNum at h
  split at h <;> omega
set_option maxRecDepth 100000 in
/-- What is read has just these bytes. -/
theorem rd_num (m n : Nat) (r : List B8) (hn : n ≤ m) (hm : n < 18446744073709551616) : (Rs.mk 0 (numB n ++ r)).num m = ⟨0, r⟩ ∧ (Rs.mk 0 (numB n ++ r)).nv m = n := by
  obtain ⟨h1, h2, h3⟩ := read_numB n r hm
  have e : nE 0 m (numB n ++ r) = 0 := by unfold nE; rw [if_neg (by omega)]; exact eNum_numB m n r hn hm
  constructor
  · show Rs.mk (nE 0 m (numB n ++ r)) (numR (numB n ++ r)) = _
    rw [e, h3]
  · show (if nE 0 m (numB n ++ r) ≠ 0 then 0 else numV (numB n ++ r)) = n
    rw [e, if_neg (by omega), h2]
set_option maxRecDepth 100000 in
theorem rd_text (m : Nat) (b r : List B8) (hb : b.length ≤ m) (hm : b.length < 18446744073709551616) : (Rs.mk 0 (numB b.length ++ (b ++ r))).text m = ⟨0, r⟩ ∧ (Rs.mk 0 (numB b.length ++ (b ++ r))).tv m = b := by
  obtain ⟨h1, h2, h3⟩ := read_numB b.length (b ++ r) hm
  have e : tE 0 m (numB b.length ++ (b ++ r)) = 0 := by
    unfold tE; rw [if_neg (by omega)]; unfold eText
    rw [h1, h2, h3, if_neg (by omega), if_neg (by omega), if_neg (by rw [List.length_append]; omega)]
  constructor
  · show Rs.mk (tE 0 m (numB b.length ++ (b ++ r))) ((numR (numB b.length ++ (b ++ r))).drop (numV (numB b.length ++ (b ++ r)))) = _
    rw [e, h2, h3, List.drop_left' rfl]
  · show (if tE 0 m (numB b.length ++ (b ++ r)) ≠ 0 then [] else (numR (numB b.length ++ (b ++ r))).take (numV (numB b.length ++ (b ++ r)))) = b
    rw [e, if_neg (by omega), h2, h3, List.take_left' rfl]
set_option maxRecDepth 100000 in
theorem itsF_drop {l : List Itm} {k : Nat} (h : k < l.length) : itsF (l.drop k) = itF l[k] ++ itsF (l.drop (k + 1)) := by
  unfold itsF; rw [List.drop_eq_getElem_cons h]; rfl
set_option maxRecDepth 100000 in
theorem rd_its (l : List Itm) (r : List B8) (hp : ∀ p ∈ l, inP p.t ∧ p.b.length ≤ 8192) : ∀ k, k ≤ l.length → itsS k ⟨0, itsF l ++ r⟩ = ⟨0, itsF (l.drop k) ++ r⟩ ∧ itsVs k ⟨0, itsF l ++ r⟩ = l.take k
  | 0, _ => ⟨rfl, rfl⟩
  | k + 1, hk => by
    obtain ⟨h1, h2⟩ := rd_its l r hp k (by omega)
    obtain ⟨e1, e2⟩ := itsS_next (k := k) (s := ⟨0, itsF l ++ r⟩) (by rw [h1])
    obtain ⟨⟨o0, o1⟩, ob⟩ := hp l[k] (List.getElem_mem (by omega))
    rw [e1, e2, h1, h2]
    have hd := itsF_drop (l := l) (k := k) (by omega)
    have hf : itsF (l.drop k) ++ r = numB (l[k]).t.toNat ++ (numB (l[k]).b.length ++ ((l[k]).b ++ (itsF (l.drop (k + 1)) ++ r))) := by
      rw [hd]; unfold itF; simp only [List.append_assoc]
    rw [hf]
    obtain ⟨a1, a2⟩ := rd_num MX (l[k]).t.toNat (numB (l[k]).b.length ++ ((l[k]).b ++ (itsF (l.drop (k + 1)) ++ r))) (by unfold MX; omega) (by omega)
    obtain ⟨b1, b2⟩ := rd_text 8192 (l[k]).b (itsF (l.drop (k + 1)) ++ r) ob (by omega)
    rw [a1, a2, b1, b2]
    refine ⟨rfl, ?_⟩
    rw [List.take_succ_eq_append_getElem (by omega)]
    congr 2
    exact Itm.ext (by show (((l[k]).t.toNat : Nat) : Int) = _; omega) rfl

end
section
set_option linter.unusedVariables false
set_option linter.unusedSimpArgs false

open Go.RowKit
set_option maxRecDepth 100000 in
theorem num_zero {s : Rs} {m : Nat} (h : (s.num m).e = 0) : s.e = 0 := by
  by_cases h0 : s.e = 0
  · exact h0
  · rw [(num_err (m := m) h0).1] at h; exact h
set_option maxRecDepth 100000 in
theorem text_zero {s : Rs} {m : Nat} (h : (s.text m).e = 0) : s.e = 0 := by
  by_cases h0 : s.e = 0
  · exact h0
  · rw [text_err (m := m) h0] at h; exact h
set_option maxRecDepth 100000 in
theorem num_back {s : Rs} {m : Nat} (h : (s.num m).e = 0) : s.l = numB (s.nv m) ++ (s.num m).l := by
  have hs := num_zero h
  have h1 := num_at m hs
  rw [h] at h1
  have h2 := num_split s.l (eNum_zero h1.symm)
  rw [nv_at h]; exact h2
set_option maxRecDepth 100000 in
theorem text_back {s : Rs} {m : Nat} (h : (s.text m).e = 0) : s.l = numB (s.tv m).length ++ (s.tv m ++ (s.text m).l) := by
  have hs := text_zero h
  have h1 := text_at m hs
  rw [h] at h1
  have hx : eText (m : Int) s.l = 0 := h1.symm
  have hn : numE s.l = 0 ∧ numV s.l ≤ (numR s.l).length := by
    unfold eText at hx
    split at hx
    · omega
    · split at hx
      · omega
      · split at hx <;> omega
  have h2 := num_split s.l hn.1
  rw [tv_at h]
  show s.l = numB ((numR s.l).take (numV s.l)).length ++ ((numR s.l).take (numV s.l) ++ (numR s.l).drop (numV s.l))
  rw [List.take_append_drop, List.length_take, Nat.min_eq_left hn.2]; exact h2
set_option maxRecDepth 100000 in
theorem its_back {s : Rs} : ∀ k, (itsS k s).e = 0 → s.l = itsF (itsVs k s) ++ (itsS k s).l ∧ ∀ p ∈ itsVs k s, inP p.t ∧ p.b.length ≤ 8192
  | 0, _ => ⟨rfl, fun p hp => by cases hp⟩
  | k + 1, h => by
    have h0 := itsS_zero h (Nat.le_succ k)
    obtain ⟨e1, e2⟩ := itsS_next h0
    obtain ⟨i1, i2⟩ := its_back k h0
    rw [e1] at h
    have t1 := text_back h
    have t2 := num_back (text_zero h)
    rw [e1, e2]
    constructor
    · have hf : itsF (itsVs k s ++ [⟨((itsS k s).nv MX : Int), ((itsS k s).num MX).tv 8192⟩]) = itsF (itsVs k s) ++ itF ⟨((itsS k s).nv MX : Int), ((itsS k s).num MX).tv 8192⟩ := by
        unfold itsF; rw [List.map_append, List.flatten_append]; simp
      rw [hf]
      unfold itF
      rw [i1, List.append_assoc, t2, t1]
      simp only [List.append_assoc, Int.toNat_natCast]
    · intro p hp
      rw [List.mem_append] at hp
      rcases hp with hp | hp
      · exact i2 p hp
      · obtain rfl := List.mem_singleton.1 hp
        have := nv_le (itsS k s) MX
        unfold MX at this
        exact ⟨⟨by show (0 : Int) ≤ ((itsS k s).nv MX : Int); omega, by show (((itsS k s).nv MX : Nat) : Int) ≤ 1099511627776; unfold MX; omega⟩, tvm_le _ _⟩

end
end Go.Proofs.Ytgjplbanfnomkaa
