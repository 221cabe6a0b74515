/- What was put is read as it was; forms tell. -/
import Derived.Test.YtpoddemokeppmaaDoorTxD4
set_option linter.unusedVariables false
set_option linter.unusedSimpArgs false
namespace Go.Proofs.YtpoddemokeppmaaDoor
open Go.RowKit
set_option maxRecDepth 100000 in
theorem read_numB (n : Nat) (r : List B8) (hn : n < 18446744073709551616) : numE (numB n ++ r) = 0 ∧ numV (numB n ++ r) = n ∧ numR (numB n ++ r) = r := by
  have h8 := klen_eight hn
  have hk : (BitVec.ofNat 8 (klen n)).toNat = klen n := by rw [BitVec.toNat_ofNat]; exact Nat.mod_eq_of_lt (by omega)
  have ht : (beN (klen n) n ++ r).take (klen n) = beN (klen n) n := List.take_left' (beN_len _ _)
  have hd : (beN (klen n) n ++ r).drop (klen n) = r := List.drop_left' (beN_len _ _)
  rw [numB, List.cons_append]
  simp only [numE, numV, numR, hk, ht, hd]
  refine ⟨?_, valB_numB, trivial⟩
  rw [if_neg (by omega), if_neg (by simp [beN_len]), if_neg]
  by_cases h0 : n = 0
  · subst h0; simp [klen_zero, beN]
  · obtain ⟨x, s, e, hx⟩ := beN_head h0
    rw [e]; simpa using hx
set_option maxRecDepth 100000 in
theorem eNum_numB (m n : Nat) (r : List B8) (hn : n ≤ m) (hm : n < 18446744073709551616) : eNum m (numB n ++ r) = 0 := by
  obtain ⟨h1, h2, h3⟩ := read_numB n r hm
  unfold eNum
  rw [h1, h2, if_neg (by omega), if_neg (by omega)]
set_option maxRecDepth 100000 in
theorem inF_read (p : Pin) (r : List B8) (hp : p.ok) (ho : outB p = false) : inE (inF p ++ r) = 0 ∧ inV (inF p ++ r) = p ∧ inR (inF p ++ r) = r := by
  obtain ⟨hb, hx0, hx1⟩ := outB_false ho
  have hn := hp.n
  have e0 : inF p ++ r = p.d ++ (numB p.x.toNat ++ (numB p.n ++ (numB p.b.length ++ (p.b ++ r)))) := by unfold inF; simp only [List.append_assoc]
  have hd : (p.d ++ (numB p.x.toNat ++ (numB p.n ++ (numB p.b.length ++ (p.b ++ r))))).drop 32 = numB p.x.toNat ++ (numB p.n ++ (numB p.b.length ++ (p.b ++ r))) := List.drop_left' hp.d
  have htk : (p.d ++ (numB p.x.toNat ++ (numB p.n ++ (numB p.b.length ++ (p.b ++ r))))).take 32 = p.d := List.take_left' hp.d
  obtain ⟨x1, x2, x3⟩ := read_numB p.x.toNat (numB p.n ++ (numB p.b.length ++ (p.b ++ r))) (by omega)
  obtain ⟨y1, y2, y3⟩ := read_numB p.n (numB p.b.length ++ (p.b ++ r)) hn
  obtain ⟨z1, z2, z3⟩ := read_numB p.b.length (p.b ++ r) (by omega)
  have ex := eNum_numB 15 p.x.toNat (numB p.n ++ (numB p.b.length ++ (p.b ++ r))) (by omega) (by omega)
  have ey := eNum_numB topN p.n (numB p.b.length ++ (p.b ++ r)) (by unfold topN; omega) hn
  have hlen : ¬ (p.d ++ (numB p.x.toNat ++ (numB p.n ++ (numB p.b.length ++ (p.b ++ r))))).length < 32 := by
    rw [List.length_append, hp.d]; omega
  rw [e0]
  refine ⟨?_, ?_, ?_⟩
  · unfold inE
    rw [if_neg hlen, hd, ex, if_neg (by omega), x3, ey, if_neg (by omega), y3]
    unfold eText
    rw [z1, z2, z3, if_neg (by omega), if_neg (by omega), if_neg (by simp)]
  · unfold inV
    rw [hd, htk, x2, x3, y2, y3, z2, z3, List.take_left' rfl]
    have : ((p.x.toNat : Nat) : Int) = p.x := by omega
    rw [this]
  · unfold inR
    rw [hd, x3, y3, z2, z3, List.drop_left' rfl]
set_option maxRecDepth 100000 in
theorem outF_read (p : Pout) (r : List B8) (hp : p.ok) : ouE (outF p ++ r) = 0 ∧ ouV (outF p ++ r) = p ∧ ouR (outF p ++ r) = r := by
  have hn := hp.n
  have e0 : outF p ++ r = p.d ++ (numB p.n ++ r) := by unfold outF; simp only [List.append_assoc]
  have hd : (p.d ++ (numB p.n ++ r)).drop 32 = numB p.n ++ r := List.drop_left' hp.d
  have htk : (p.d ++ (numB p.n ++ r)).take 32 = p.d := List.take_left' hp.d
  obtain ⟨y1, y2, y3⟩ := read_numB p.n r hn
  have ey := eNum_numB topN p.n r (by unfold topN; omega) hn
  have hlen : ¬ (p.d ++ (numB p.n ++ r)).length < 32 := by rw [List.length_append, hp.d]; omega
  rw [e0]
  refine ⟨?_, ?_, ?_⟩
  · unfold ouE; rw [if_neg hlen, hd, ey]
  · unfold ouV; rw [hd, htk, y2]
  · unfold ouR; rw [hd, y3]
set_option maxRecDepth 100000 in
theorem insF_drop {l : List Pin} {k : Nat} (h : k < l.length) : insF (l.drop k) = inF l[k] ++ insF (l.drop (k + 1)) := by
  rw [List.drop_eq_getElem_cons h]; rfl
set_option maxRecDepth 100000 in
theorem outsF_drop {l : List Pout} {k : Nat} (h : k < l.length) : outsF (l.drop k) = outF l[k] ++ outsF (l.drop (k + 1)) := by
  rw [List.drop_eq_getElem_cons h]; rfl
set_option maxRecDepth 100000 in
theorem insF_read (l : List Pin) (r : List B8) (hp : ∀ p ∈ l, p.ok) (ho : ∀ p ∈ l, outB p = false) : ∀ k, k ≤ l.length → insE k (insF l ++ r) = 0 ∧ insV k (insF l ++ r) = l.take k ∧ insR k (insF l ++ r) = insF (l.drop k) ++ r
  | 0, _ => ⟨rfl, rfl, rfl⟩
  | k + 1, hk => by
    obtain ⟨h1, h2, h3⟩ := insF_read l r hp ho k (by omega)
    have hlt : k < l.length := by omega
    obtain ⟨a1, a2, a3⟩ := inF_read l[k] (insF (l.drop (k + 1)) ++ r) (hp _ (List.getElem_mem hlt)) (ho _ (List.getElem_mem hlt))
    rw [insF_drop hlt, List.append_assoc] at h3
    refine ⟨?_, ?_, ?_⟩
    · rw [insE, h1, if_neg (by omega), h3, a1]
    · rw [insV, h2, h3, a2, List.take_succ_eq_append_getElem hlt]
    · rw [insR, h3, a3]
set_option maxRecDepth 100000 in
theorem outsF_read (l : List Pout) (r : List B8) (hp : ∀ p ∈ l, p.ok) : ∀ k, k ≤ l.length → ousE k (outsF l ++ r) = 0 ∧ ousV k (outsF l ++ r) = l.take k ∧ ousR k (outsF l ++ r) = outsF (l.drop k) ++ r
  | 0, _ => ⟨rfl, rfl, rfl⟩
  | k + 1, hk => by
    obtain ⟨h1, h2, h3⟩ := outsF_read l r hp k (by omega)
    have hlt : k < l.length := by omega
    obtain ⟨a1, a2, a3⟩ := outF_read l[k] (outsF (l.drop (k + 1)) ++ r) (hp _ (List.getElem_mem hlt))
    rw [outsF_drop hlt, List.append_assoc] at h3
    refine ⟨?_, ?_, ?_⟩
    · rw [ousE, h1, if_neg (by omega), h3, a1]
    · rw [ousV, h2, h3, a2, List.take_succ_eq_append_getElem hlt]
    · rw [ousR, h3, a3]
set_option maxRecDepth 100000 in
theorem form_read (t : Ptx) (hc : chk t = 0) (hi : ∀ p ∈ t.ins, p.ok) (ho : ∀ p ∈ t.outs, p.ok) (hf : t.fee < 18446744073709551616) : readE (formB t) = 0 ∧ readV (formB t) = t := by
  obtain ⟨h1, h2, h3, h4, h5⟩ := within_all (chk_ok hc)
  have e0 : formB t = numB t.ins.length ++ (insF t.ins ++ (numB t.outs.length ++ (outsF t.outs ++ (numB t.fee ++ (numB t.exp.toNat ++ []))))) := by
    unfold formB; simp only [List.append_assoc, List.append_nil]
  obtain ⟨a1, a2, a3⟩ := read_numB t.ins.length (insF t.ins ++ (numB t.outs.length ++ (outsF t.outs ++ (numB t.fee ++ (numB t.exp.toNat ++ []))))) (by omega)
  have a4 := eNum_numB 16 t.ins.length (insF t.ins ++ (numB t.outs.length ++ (outsF t.outs ++ (numB t.fee ++ (numB t.exp.toNat ++ []))))) h1 (by omega)
  obtain ⟨b1, b2, b3⟩ := insF_read t.ins (numB t.outs.length ++ (outsF t.outs ++ (numB t.fee ++ (numB t.exp.toNat ++ [])))) hi h5 t.ins.length (Nat.le_refl _)
  rw [List.take_length] at b2
  rw [List.drop_length] at b3
  obtain ⟨c1, c2, c3⟩ := read_numB t.outs.length (outsF t.outs ++ (numB t.fee ++ (numB t.exp.toNat ++ []))) (by omega)
  have c4 := eNum_numB 16 t.outs.length (outsF t.outs ++ (numB t.fee ++ (numB t.exp.toNat ++ []))) h2 (by omega)
  obtain ⟨d1, d2, d3⟩ := outsF_read t.outs (numB t.fee ++ (numB t.exp.toNat ++ [])) ho t.outs.length (Nat.le_refl _)
  rw [List.take_length] at d2
  rw [List.drop_length] at d3
  obtain ⟨f1, f2, f3⟩ := read_numB t.fee (numB t.exp.toNat ++ []) hf
  have f4 := eNum_numB topN t.fee (numB t.exp.toNat ++ []) (by unfold topN; omega) hf
  obtain ⟨g1, g2, g3⟩ := read_numB t.exp.toNat [] (by omega)
  have g4 := eNum_numB 1099511627776 t.exp.toNat [] (by omega) (by omega)
  have r1 : rinsE (formB t) = 0 := by unfold rinsE; rw [e0, a4, if_neg (by omega), a2, a3, b1]
  have r2 : rinsV (formB t) = t.ins := by unfold rinsV; rw [e0, a2, a3, b2]
  have r3 : rinsR (formB t) = numB t.outs.length ++ (outsF t.outs ++ (numB t.fee ++ (numB t.exp.toNat ++ []))) := by unfold rinsR; rw [e0, a2, a3, b3]; rfl
  have s1 : rousE (rinsR (formB t)) = 0 := by unfold rousE; rw [r3, c4, if_neg (by omega), c2, c3, d1]
  have s2 : rousV (rinsR (formB t)) = t.outs := by unfold rousV; rw [r3, c2, c3, d2]
  have s3 : rousR (rinsR (formB t)) = numB t.fee ++ (numB t.exp.toNat ++ []) := by unfold rousR; rw [r3, c2, c3, d3]; rfl
  have hbE : bodE (formB t) = 0 := by unfold bodE; rw [r1, if_neg (by omega), s1, if_neg (by omega), s3, f4, if_neg (by omega), f3, g4]
  have hbV : bodV (formB t) = t := by
    unfold bodV; rw [r2, s2, s3, f2, f3, g2]
    have : ((t.exp.toNat : Nat) : Int) = t.exp := by omega
    rw [this]
  have hbR : bodR (formB t) = [] := by unfold bodR; rw [s3, f3, g3]
  have hE : readE (formB t) = 0 := by unfold readE; rw [hbE, hbR, hbV, hc]; simp
  exact ⟨hE, by unfold readV; rw [hE, hbV]; simp⟩
set_option maxRecDepth 100000 in
theorem form_inj {s t : Ptx} (hs : chk s = 0) (ht : chk t = 0) (h1 : ∀ p ∈ s.ins, p.ok) (h2 : ∀ p ∈ s.outs, p.ok) (h3 : s.fee < 18446744073709551616) (k1 : ∀ p ∈ t.ins, p.ok) (k2 : ∀ p ∈ t.outs, p.ok) (k3 : t.fee < 18446744073709551616) (h : formB s = formB t) : s = t := by
  have a := (form_read s hs h1 h2 h3).2
  have b := (form_read t ht k1 k2 k3).2
  rw [← a, ← b, h]
end Go.Proofs.YtpoddemokeppmaaDoor
