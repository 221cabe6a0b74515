/- Merged: The letter's form is read as the letter. A right letter's form is read as the letter. What is read has this form. What is read is right, and has this form. -/
import Derived.Test.YtaicpclkdpbacaaLtbX
namespace Go.Proofs.Ytaicpclkdpbacaa
section
set_option linter.unusedVariables false
set_option linter.unusedSimpArgs false

open Go.RowKit
set_option maxRecDepth 100000 in
theorem read_numB (n : Nat) (r : List B8) (hn : n < 18446744073709551616) : numE (numB n ++ r) = 0 ∧ numV (numB n ++ r) = n ∧ numR (numB n ++ r) = r := by
  have h8 := klen_eight hn
  have hk : (BitVec.ofNat 8 (klen n)).toNat = klen n := by rw [BitVec.toNat_ofNat]; exact Nat.mod_eq_of_lt (by omega)
  have ht : (beN (klen n) n ++ r).take (klen n) = beN (klen n) n := List.take_left' (beN_len _ _)
  have hd : (beN (klen n) n ++ r).drop (klen n) = r := List.drop_left' (beN_len _ _)
  rw [numB, List.cons_append]
  simp only [numE, numV, numR, hk, ht, hd]
  refine ⟨?_, valB_numB, trivial⟩
  rw [if_neg (by omega), if_neg (by simp [beN_len]), if_neg]
  by_cases h0 : n = 0
  · subst h0; simp [klen_zero, beN]
  · obtain ⟨x, s, e, hx⟩ := beN_head h0
    rw [e]; simpa using hx
set_option maxRecDepth 100000 in
theorem eNum_numB (m n : Nat) (r : List B8) (hn : n ≤ m) (hm : n < 18446744073709551616) : eNum m (numB n ++ r) = 0 := by
  obtain ⟨h1, h2, h3⟩ := read_numB n r hm
  unfold eNum
  rw [h1, h2, if_neg (by omega), if_neg (by omega)]
theorem num_split (l : List B8) (h : numE l = 0) : l = numB (numV l) ++ numR l := by
  cases l with
  | nil => simp [numE] at h
  | cons k r =>
    simp only [numE] at h
    split at h
    · omega
    · rename_i h1
      split at h
      · omega
      · rename_i h2
        split at h
        · omega
        · rename_i h3
          have hl : (r.take k.toNat).length = k.toNat := by rw [List.length_take]; omega
          have hb := numB_valB (r.take k.toNat) (by
            rintro x s hx h0
            subst h0
            apply h3
            rw [hx]; rfl) (by omega)
          show k :: r = numB (valB (r.take k.toNat)) ++ r.drop k.toNat
          rw [hb, hl, List.cons_append, List.take_append_drop]
          congr 1
          rw [BitVec.ofNat_toNat]; simp
theorem eNum_zero {m : Nat} {l : List B8} (h : eNum m l = 0) : numE l = 0 := by
  unfold eNum at h
  split at h <;> omega
set_option maxRecDepth 100000 in
/-- What is read has just these bytes. -/
theorem rd_num (m n : Nat) (r : List B8) (hn : n ≤ m) (hm : n < 18446744073709551616) : (Rs.mk 0 (numB n ++ r)).num m = ⟨0, r⟩ ∧ (Rs.mk 0 (numB n ++ r)).nv m = n := by
  obtain ⟨h1, h2, h3⟩ := read_numB n r hm
  have e : nE 0 m (numB n ++ r) = 0 := by unfold nE; rw [if_neg (by omega)]; exact eNum_numB m n r hn hm
  constructor
  · show Rs.mk (nE 0 m (numB n ++ r)) (numR (numB n ++ r)) = _
    rw [e, h3]
  · show (if nE 0 m (numB n ++ r) ≠ 0 then 0 else numV (numB n ++ r)) = n
    rw [e, if_neg (by omega), h2]
theorem rd_text (m : Nat) (b r : List B8) (hb : b.length ≤ m) (hm : b.length < 18446744073709551616) : (Rs.mk 0 (numB b.length ++ (b ++ r))).text m = ⟨0, r⟩ ∧ (Rs.mk 0 (numB b.length ++ (b ++ r))).tv m = b := by
  obtain ⟨h1, h2, h3⟩ := read_numB b.length (b ++ r) hm
  have e : tE 0 m (numB b.length ++ (b ++ r)) = 0 := by
    unfold tE; rw [if_neg (by omega)]; unfold eText
    rw [h1, h2, h3, if_neg (by omega), if_neg (by omega), if_neg (by rw [List.length_append]; omega)]
  constructor
  · show Rs.mk (tE 0 m (numB b.length ++ (b ++ r))) ((numR (numB b.length ++ (b ++ r))).drop (numV (numB b.length ++ (b ++ r)))) = _
    rw [e, h2, h3, List.drop_left' rfl]
  · show (if tE 0 m (numB b.length ++ (b ++ r)) ≠ 0 then [] else (numR (numB b.length ++ (b ++ r))).take (numV (numB b.length ++ (b ++ r)))) = b
    rw [e, if_neg (by omega), h2, h3, List.take_left' rfl]
theorem itsF_drop {l : List Itm} {k : Nat} (h : k < l.length) : itsF (l.drop k) = itF l[k] ++ itsF (l.drop (k + 1)) := by
  unfold itsF; rw [List.drop_eq_getElem_cons h]; rfl
theorem rd_its (l : List Itm) (r : List B8) (hp : ∀ p ∈ l, inP p.t ∧ p.b.length ≤ 8192) : ∀ k, k ≤ l.length → itsS k ⟨0, itsF l ++ r⟩ = ⟨0, itsF (l.drop k) ++ r⟩ ∧ itsVs k ⟨0, itsF l ++ r⟩ = l.take k
  | 0, _ => ⟨rfl, rfl⟩
  | k + 1, hk => by
    obtain ⟨h1, h2⟩ := rd_its l r hp k (by omega)
    obtain ⟨e1, e2⟩ := itsS_next (k := k) (s := ⟨0, itsF l ++ r⟩) (by rw [h1])
    obtain ⟨⟨o0, o1⟩, ob⟩ := hp l[k] (List.getElem_mem (by omega))
    rw [e1, e2, h1, h2]
    have hd := itsF_drop (l := l) (k := k) (by omega)
    have hf : itsF (l.drop k) ++ r = numB (l[k]).t.toNat ++ (numB (l[k]).b.length ++ ((l[k]).b ++ (itsF (l.drop (k + 1)) ++ r))) := by
      rw [hd]; unfold itF; simp only [List.append_assoc]
    rw [hf]
    obtain ⟨a1, a2⟩ := rd_num MX (l[k]).t.toNat (numB (l[k]).b.length ++ ((l[k]).b ++ (itsF (l.drop (k + 1)) ++ r))) (by unfold MX; omega) (by omega)
    obtain ⟨b1, b2⟩ := rd_text 8192 (l[k]).b (itsF (l.drop (k + 1)) ++ r) ob (by omega)
    rw [a1, a2, b1, b2]
    refine ⟨rfl, ?_⟩
    rw [List.take_succ_eq_append_getElem (by omega)]
    congr 2
    exact Itm.ext (by show (((l[k]).t.toNat : Nat) : Int) = _; omega) rfl

end
section
set_option linter.unusedVariables false
set_option linter.unusedSimpArgs false

open Go.RowKit
theorem head_read {b : List B8} {K t : Nat} {R : List B8} (hb : b = numB K ++ (numB t ++ R)) (hK : 1 ≤ K ∧ K ≤ 5) (ht : t ≤ 1099511627776) : s1 b = ⟨0, numB t ++ R⟩ ∧ k1 b = K ∧ s2 b = ⟨0, R⟩ ∧ (s1 b).nv MX = t := by
  obtain ⟨a1, a2⟩ := rd_num 5 K (numB t ++ R) hK.2 (by omega)
  obtain ⟨b1, b2⟩ := rd_num MX t R (by unfold MX; omega) (by omega)
  have e1 : s1 b = ⟨0, numB t ++ R⟩ := by rw [hb]; exact a1
  refine ⟨e1, by rw [hb]; exact a2, ?_, by rw [e1]; exact b2⟩
  show (s1 b).num MX = _
  rw [e1]; exact b1
theorem body_read {b : List B8} {K t : Nat} {R : List B8} {l : Ltr} (hb : b = numB K ++ (numB t ++ R)) (hK : 1 ≤ K ∧ K ≤ 5) (ht : t ≤ 1099511627776) (hS : bodS K ⟨0, R⟩ = ⟨0, []⟩) (hV : bodV K t ⟨0, R⟩ = l) : rdE b = 0 ∧ rdV b = l := by
  obtain ⟨e1, e2, e3, e4⟩ := head_read hb hK ht
  have hS' : rdS b = ⟨0, []⟩ := by unfold rdS; rw [e2, e3, hS]
  have hE : rdE b = 0 := by
    unfold rdE
    rw [e1, if_neg (by simp), e2, if_neg (by omega), hS', if_neg (by simp), if_neg (by simp)]
  refine ⟨hE, ?_⟩
  unfold rdV
  rw [hE, if_neg (by simp), e2, e4, e3, hV]
theorem yes_read (s : Bool) : yesB (yesN s) = s ∧ yesN s ≤ 1 := by cases s <;> decide
theorem form_read15 (l : Ltr) (h : okL l = true) : rdE (formL l) = 0 ∧ rdV (formL l) = l := by
  obtain ⟨⟨q1, q5, pt, px, py, pz, n16, nb⟩, hits, u1, u2, u3, u4, u5, u6⟩ := okL_parts h
  unfold inP at pt px py pz
  obtain ⟨k, t, x, y, z, s, its, b⟩ := l
  dsimp only at q1 q5 pt px py pz n16 nb hits u1 u2 u3 u4 u5 u6
  obtain ⟨t, rfl⟩ : ∃ n : Nat, t = (n : Int) := ⟨t.toNat, by omega⟩
  obtain ⟨x, rfl⟩ : ∃ n : Nat, x = (n : Int) := ⟨x.toNat, by omega⟩
  obtain ⟨y, rfl⟩ : ∃ n : Nat, y = (n : Int) := ⟨y.toNat, by omega⟩
  obtain ⟨z, rfl⟩ : ∃ n : Nat, z = (n : Int) := ⟨z.toNat, by omega⟩
  have ht : t ≤ 1099511627776 := by omega
  have hx : x ≤ MX := by unfold MX; omega
  have hy : y ≤ MX := by unfold MX; omega
  have hz : z ≤ MX := by unfold MX; omega
  have vx : x < 18446744073709551616 := by omega
  have vy : y < 18446744073709551616 := by omega
  have vz : z < 18446744073709551616 := by omega
  have hk : k = 1 ∨ k = 2 ∨ k = 3 ∨ k = 4 ∨ k = 5 := by omega
  rcases hk with rfl | rfl | rfl | rfl | rfl
  · have z0 : (z : Int) = 0 := u3 ⟨by decide, by decide⟩
    have s0 : s = false := u4 ⟨by decide, by decide⟩
    have i0 : its = [] := List.eq_nil_of_length_eq_zero (u5 (by decide))
    have b0 : b = [] := List.eq_nil_of_length_eq_zero (u6 (by decide))
    subst s0 i0 b0
    refine body_read (K := 1) (t := t) (R := numB x ++ (numB y ++ [])) (by simp [formL, headF]) (by omega) ht ?_ ?_
    · show ((Rs.mk 0 _).num MX).num MX = _
      rw [(rd_num MX x _ hx vx).1, (rd_num MX y _ hy vy).1]
    · show Ltr.mk 1 _ _ _ 0 false [] [] = _
      rw [(rd_num MX x _ hx vx).1, (rd_num MX x _ hx vx).2, (rd_num MX y _ hy vy).2, z0]
  · have x0 : (x : Int) = 0 := u1 rfl
    have y0 : (y : Int) = 0 := u2 (.inl rfl)
    have z0 : (z : Int) = 0 := u3 ⟨by decide, by decide⟩
    have i0 : its = [] := List.eq_nil_of_length_eq_zero (u5 (by decide))
    have b0 : b = [] := List.eq_nil_of_length_eq_zero (u6 (by decide))
    subst i0 b0
    have hs := yes_read s
    refine body_read (K := 2) (t := t) (R := numB (yesN s) ++ []) (by simp [formL, headF]) (by omega) ht ?_ ?_
    · show (Rs.mk 0 _).num 1 = _
      rw [(rd_num 1 (yesN s) _ hs.2 (by omega)).1]
    · show Ltr.mk 2 _ 0 0 0 _ [] [] = _
      rw [(rd_num 1 (yesN s) _ hs.2 (by omega)).2, hs.1, x0, y0, z0]
  · have s0 : s = false := u4 ⟨by decide, by decide⟩
    have b0 : b = [] := List.eq_nil_of_length_eq_zero (u6 (by decide))
    subst s0 b0
    have hI := rd_its its [] hits its.length (Nat.le_refl _)
    rw [List.drop_length, List.take_length] at hI
    refine body_read (K := 3) (t := t) (R := numB x ++ (numB y ++ (numB z ++ (numB its.length ++ (itsF its ++ []))))) (by simp [formL, headF]) (by omega) ht ?_ ?_
    · show itsS ((((Rs.mk 0 _).num MX).num MX).num MX |>.nv 16) ((((Rs.mk 0 _).num MX).num MX).num MX |>.num 16) = _
      rw [(rd_num MX x _ hx vx).1, (rd_num MX y _ hy vy).1, (rd_num MX z _ hz vz).1, (rd_num 16 its.length _ n16 (by omega)).1, (rd_num 16 its.length _ n16 (by omega)).2, hI.1]
      rfl
    · show Ltr.mk 3 _ _ _ _ false (itsVs ((((Rs.mk 0 _).num MX).num MX).num MX |>.nv 16) ((((Rs.mk 0 _).num MX).num MX).num MX |>.num 16)) [] = _
      rw [(rd_num MX x _ hx vx).1, (rd_num MX x _ hx vx).2, (rd_num MX y _ hy vy).1, (rd_num MX y _ hy vy).2, (rd_num MX z _ hz vz).1, (rd_num MX z _ hz vz).2, (rd_num 16 its.length _ n16 (by omega)).1, (rd_num 16 its.length _ n16 (by omega)).2, hI.2]
  · have y0 : (y : Int) = 0 := u2 (.inr rfl)
    have i0 : its = [] := List.eq_nil_of_length_eq_zero (u5 (by decide))
    have b0 : b = [] := List.eq_nil_of_length_eq_zero (u6 (by decide))
    subst i0 b0
    have hs := yes_read s
    refine body_read (K := 4) (t := t) (R := numB (yesN s) ++ (numB x ++ (numB z ++ []))) (by simp [formL, headF]) (by omega) ht ?_ ?_
    · show (((Rs.mk 0 _).num 1).num MX).num MX = _
      rw [(rd_num 1 (yesN s) _ hs.2 (by omega)).1, (rd_num MX x _ hx vx).1, (rd_num MX z _ hz vz).1]
    · show Ltr.mk 4 _ _ 0 _ _ [] [] = _
      rw [(rd_num 1 (yesN s) _ hs.2 (by omega)).1, (rd_num 1 (yesN s) _ hs.2 (by omega)).2, (rd_num MX x _ hx vx).1, (rd_num MX x _ hx vx).2, (rd_num MX z _ hz vz).2, hs.1, y0]
  · have z0 : (z : Int) = 0 := u3 ⟨by decide, by decide⟩
    have s0 : s = false := u4 ⟨by decide, by decide⟩
    have i0 : its = [] := List.eq_nil_of_length_eq_zero (u5 (by decide))
    subst s0 i0
    refine body_read (K := 5) (t := t) (R := numB x ++ (numB y ++ (numB b.length ++ (b ++ [])))) (by simp [formL, headF]) (by omega) ht ?_ ?_
    · show (((Rs.mk 0 _).num MX).num MX).text 65536 = _
      rw [(rd_num MX x _ hx vx).1, (rd_num MX y _ hy vy).1, (rd_text 65536 b [] nb (by omega)).1]
    · show Ltr.mk 5 _ _ _ 0 false [] _ = _
      rw [(rd_num MX x _ hx vx).1, (rd_num MX x _ hx vx).2, (rd_num MX y _ hy vy).1, (rd_num MX y _ hy vy).2, (rd_text 65536 b [] nb (by omega)).2, z0]

end
section
set_option linter.unusedVariables false
set_option linter.unusedSimpArgs false

open Go.RowKit
theorem num_zero {s : Rs} {m : Nat} (h : (s.num m).e = 0) : s.e = 0 := by
  by_cases h0 : s.e = 0
  · exact h0
  · rw [(num_err (m := m) h0).1] at h; exact h
theorem text_zero {s : Rs} {m : Nat} (h : (s.text m).e = 0) : s.e = 0 := by
  by_cases h0 : s.e = 0
  · exact h0
  · rw [text_err (m := m) h0] at h; exact h
theorem num_back {s : Rs} {m : Nat} (h : (s.num m).e = 0) : s.l = numB (s.nv m) ++ (s.num m).l := by
  have hs := num_zero h
  have h1 := num_at m hs
  rw [h] at h1
  have h2 := num_split s.l (eNum_zero h1.symm)
  rw [nv_at h]; exact h2
theorem text_back {s : Rs} {m : Nat} (h : (s.text m).e = 0) : s.l = numB (s.tv m).length ++ (s.tv m ++ (s.text m).l) := by
  have hs := text_zero h
  have h1 := text_at m hs
  rw [h] at h1
  have hx : eText (m : Int) s.l = 0 := h1.symm
  have hn : numE s.l = 0 ∧ numV s.l ≤ (numR s.l).length := by
    unfold eText at hx
    split at hx
    · omega
    · split at hx
      · omega
      · split at hx <;> omega
  have h2 := num_split s.l hn.1
  rw [tv_at h]
  show s.l = numB ((numR s.l).take (numV s.l)).length ++ ((numR s.l).take (numV s.l) ++ (numR s.l).drop (numV s.l))
  rw [List.take_append_drop, List.length_take, Nat.min_eq_left hn.2]; exact h2
theorem its_back {s : Rs} : ∀ k, (itsS k s).e = 0 → s.l = itsF (itsVs k s) ++ (itsS k s).l ∧ ∀ p ∈ itsVs k s, inP p.t ∧ p.b.length ≤ 8192
  | 0, _ => ⟨rfl, fun p hp => by cases hp⟩
  | k + 1, h => by
    have h0 := itsS_zero h (Nat.le_succ k)
    obtain ⟨e1, e2⟩ := itsS_next h0
    obtain ⟨i1, i2⟩ := its_back k h0
    rw [e1] at h
    have t1 := text_back h
    have t2 := num_back (text_zero h)
    rw [e1, e2]
    constructor
    · have hf : itsF (itsVs k s ++ [⟨((itsS k s).nv MX : Int), ((itsS k s).num MX).tv 8192⟩]) = itsF (itsVs k s) ++ itF ⟨((itsS k s).nv MX : Int), ((itsS k s).num MX).tv 8192⟩ := by
        unfold itsF; rw [List.map_append, List.flatten_append]; simp
      rw [hf]
      unfold itF
      rw [i1, List.append_assoc, t2, t1]
      simp only [List.append_assoc, Int.toNat_natCast]
    · intro p hp
      rw [List.mem_append] at hp
      rcases hp with hp | hp
      · exact i2 p hp
      · obtain rfl := List.mem_singleton.1 hp
        have := nv_le (itsS k s) MX
        unfold MX at this
        exact ⟨⟨by show (0 : Int) ≤ ((itsS k s).nv MX : Int); omega, by show (((itsS k s).nv MX : Nat) : Int) ≤ 1099511627776; unfold MX; omega⟩, tvm_le _ _⟩

end
section
set_option linter.unusedVariables false
set_option linter.unusedSimpArgs false

open Go.RowKit
theorem okL_of {l : Ltr} (h1 : 1 ≤ l.k ∧ l.k ≤ 5 ∧ inP l.t ∧ inP l.x ∧ inP l.y ∧ inP l.z ∧ l.its.length ≤ 16 ∧ l.b.length ≤ 65536) (h2 : ∀ p ∈ l.its, inP p.t ∧ p.b.length ≤ 8192)
    (h3 : (l.k = 2 → l.x = 0) ∧ (l.k = 2 ∨ l.k = 4 → l.y = 0) ∧ (l.k ≠ 3 ∧ l.k ≠ 4 → l.z = 0) ∧ (l.k ≠ 2 ∧ l.k ≠ 4 → l.s = false) ∧ (l.k ≠ 3 → l.its.length = 0) ∧ (l.k ≠ 5 → l.b.length = 0)) : okL l = true := by
  unfold okL hdB usB
  simp only [Bool.and_eq_true, decide_eq_true_eq, List.all_eq_true]
  refine ⟨h1, fun p hp => ?_, h3⟩
  unfold okI
  simpa only [Bool.and_eq_true, decide_eq_true_eq] using h2 p hp
theorem yes_back (n : Nat) (h : n ≤ 1) : yesN (yesB n) = n := by
  have : n = 0 ∨ n = 1 := by omega
  rcases this with rfl | rfl <;> decide
theorem in_nv (s : Rs) : inP (s.nv MX : Int) := by
  have := nv_le s MX
  unfold MX at this
  exact ⟨by omega, by unfold MX; omega⟩
theorem in_zero : inP 0 := ⟨by decide, by decide⟩
theorem read_form15 {b : List B8} (h : rdE b = 0) : okL (rdV b) = true ∧ formL (rdV b) = b := by
  have hv : rdV b = bodV (k1 b) ((s1 b).nv MX) (s2 b) := by unfold rdV; rw [if_neg (by omega)]
  rw [hv]
  unfold rdE at h
  by_cases h1 : (s1 b).e ≠ 0
  · rw [if_pos h1] at h; exact absurd h h1
  rw [if_neg h1] at h
  by_cases h2 : k1 b = 0
  · rw [if_pos h2] at h; cases h
  rw [if_neg h2] at h
  by_cases h3 : (rdS b).e ≠ 0
  · rw [if_pos h3] at h; exact absurd h h3
  rw [if_neg h3] at h
  by_cases h4 : (rdS b).l = []
  case neg => rw [if_pos h4] at h; cases h
  have e1 : ((s0 b).num 5).e = 0 := by have : (s1 b).e = 0 := by omega
                                       exact this
  have e3 : (bodS (k1 b) (s2 b)).e = 0 := by have : (rdS b).e = 0 := by omega
                                             exact this
  have e2 : ((s1 b).num MX).e = 0 := by
    by_cases e : (s2 b).e = 0
    · exact e
    · rw [bodS_err e] at e3; exact e3
  have b1 : b = numB (k1 b) ++ (s1 b).l := num_back e1
  have b2 : (s1 b).l = numB ((s1 b).nv MX) ++ (s2 b).l := num_back e2
  have hk5 : k1 b ≤ 5 := nv_le _ _
  have it := in_nv (s1 b)
  rw [b2] at b1
  have h4' : (bodS (k1 b) (s2 b)).l = [] := h4
  have hf : ∀ (l : Ltr) (R : List B8), formL l = numB (k1 b) ++ (numB ((s1 b).nv MX) ++ R) → (s2 b).l = R → formL l = b := fun l R h1 h2 => by rw [h1, ← h2, ← b1]
  generalize (s1 b).nv MX = t at *
  generalize s2 b = s at *
  clear hv h h1 h3 h4 e1 e2 b1 b2
  generalize k1 b = k at *
  have hk : k = 1 ∨ k = 2 ∨ k = 3 ∨ k = 4 ∨ k = 5 := by omega
  rcases hk with rfl | rfl | rfl | rfl | rfl
  · have e3 : ((s.num MX).num MX).e = 0 := e3
    have h4 : ((s.num MX).num MX).l = [] := h4'
    have c1 := num_back (num_zero e3)
    have c2 := num_back e3
    rw [h4] at c2
    refine ⟨okL_of ⟨(show (1 : Int) ≤ 1 by decide), (show (1 : Int) ≤ 5 by decide), it, in_nv _, in_nv _, in_zero, Nat.zero_le _, Nat.zero_le _⟩ (fun p hp => by cases hp) (by unfold bodV; simp), hf _ (numB (s.nv MX) ++ numB ((s.num MX).nv MX)) (by simp [formL, headF, bodV]) (by rw [c1, c2]; simp)⟩
  · have e3 : (s.num 1).e = 0 := e3
    have h4 : (s.num 1).l = [] := h4'
    have c1 := num_back e3
    rw [h4] at c1
    have hy := yes_back _ (nv_le s 1)
    refine ⟨okL_of ⟨(show (1 : Int) ≤ 2 by decide), (show (2 : Int) ≤ 5 by decide), it, in_zero, in_zero, in_zero, Nat.zero_le _, Nat.zero_le _⟩ (fun p hp => by cases hp) (by unfold bodV; simp), hf _ (numB (s.nv 1)) (by simp [formL, headF, bodV, hy]) (by rw [c1]; simp)⟩
  · have e3 : (sI (((s.num MX).num MX).num MX)).e = 0 := e3
    have h4 : (sI (((s.num MX).num MX).num MX)).l = [] := h4'
    obtain ⟨z, hz⟩ : ∃ z, z = ((s.num MX).num MX).num MX := ⟨_, rfl⟩
    rw [← hz] at e3 h4
    have ez : (z.num 16).e = 0 := itsS_zero (k := 0) e3 (Nat.zero_le _)
    obtain ⟨i1, i2⟩ := its_back (z.nv 16) e3
    have il : (vI z).length = z.nv 16 := itsVs_full e3
    have h4 : (itsS (z.nv 16) (z.num 16)).l = [] := h4
    rw [h4, List.append_nil] at i1
    have cz := num_back ez
    rw [i1] at cz
    have ez0 := num_zero ez
    rw [hz] at ez0
    have c3 := num_back ez0
    have c2 := num_back (num_zero ez0)
    have c1 := num_back (num_zero (num_zero ez0))
    rw [← hz] at c3
    have hn := nv_le z 16
    have hV : bodV 3 t s = ⟨3, t, s.nv MX, (s.num MX).nv MX, ((s.num MX).num MX).nv MX, false, vI z, []⟩ := by rw [hz]; rfl
    rw [hV]
    refine ⟨okL_of ⟨(show (1 : Int) ≤ 3 by decide), (show (3 : Int) ≤ 5 by decide), it, in_nv _, in_nv _, in_nv _, by show (vI z).length ≤ 16; omega, Nat.zero_le _⟩ i2 (by simp), hf _ (numB (s.nv MX) ++ (numB ((s.num MX).nv MX) ++ (numB (((s.num MX).num MX).nv MX) ++ (numB (vI z).length ++ itsF (vI z))))) (by simp [formL, headF]) (by rw [c1, c2, c3, cz, il]; rfl)⟩
  · have e3 : (((s.num 1).num MX).num MX).e = 0 := e3
    have h4 : (((s.num 1).num MX).num MX).l = [] := h4'
    have c1 := num_back (num_zero (num_zero e3))
    have c2 := num_back (num_zero e3)
    have c3 := num_back e3
    rw [h4] at c3
    have hy := yes_back _ (nv_le s 1)
    refine ⟨okL_of ⟨(show (1 : Int) ≤ 4 by decide), (show (4 : Int) ≤ 5 by decide), it, in_nv _, in_zero, in_nv _, Nat.zero_le _, Nat.zero_le _⟩ (fun p hp => by cases hp) (by unfold bodV; simp), hf _ (numB (s.nv 1) ++ (numB ((s.num 1).nv MX) ++ numB (((s.num 1).num MX).nv MX))) (by simp [formL, headF, bodV, hy]) (by rw [c1, c2, c3]; simp)⟩
  · have e3 : (((s.num MX).num MX).text 65536).e = 0 := e3
    have h4 : (((s.num MX).num MX).text 65536).l = [] := h4'
    have ez := text_zero e3
    have c1 := num_back (num_zero ez)
    have c2 := num_back ez
    have c3 := text_back e3
    rw [h4, List.append_nil] at c3
    refine ⟨okL_of ⟨(show (1 : Int) ≤ 5 by decide), (show (5 : Int) ≤ 5 by decide), it, in_nv _, in_nv _, in_zero, Nat.zero_le _, tvm_le _ _⟩ (fun p hp => by cases hp) (by unfold bodV; simp), hf _ (numB (s.nv MX) ++ (numB ((s.num MX).nv MX) ++ (numB (((s.num MX).num MX).tv 65536).length ++ ((s.num MX).num MX).tv 65536))) (by simp [formL, headF, bodV]) (by rw [c1, c2, c3])⟩

end
end Go.Proofs.Ytaicpclkdpbacaa
