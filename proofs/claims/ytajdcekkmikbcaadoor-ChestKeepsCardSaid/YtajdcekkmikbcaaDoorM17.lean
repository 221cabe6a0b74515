/- Merged: A scroll's records on a drum, plain: what is put stands behind all, what was synced stands there whatever the power does; what is read has its form. -/
import Derived.Test.YtajdcekkmikbcaaDoorM16
namespace Go.Proofs.YtajdcekkmikbcaaDoor
section
set_option linter.unusedVariables false
set_option maxRecDepth 100000 in
/-- What is read of bytes stands there in its form. -/
theorem val_wb (l : List B8) (h : l.length = 4) : wb (BitVec.ofNat 32 (valB l)) = l := by
  match l, h with
  | [a, b, c, d], _ =>
    have ha := a.isLt
    have hb := b.isLt
    have hc := c.isLt
    have hd := d.isLt
    simp only [wb, valB, List.foldl_cons, List.foldl_nil]
    have e : ∀ (x : B8) (y : W), x.toNat = y.toNat % 256 → y.setWidth 8 = x := fun x y h => by
      apply BitVec.eq_of_toNat_eq; rw [BitVec.toNat_setWidth]; exact h.symm
    rw [e a _ (by simp only [BitVec.toNat_ushiftRight, BitVec.toNat_ofNat, Nat.shiftRight_eq_div_pow]; omega),
      e b _ (by simp only [BitVec.toNat_ushiftRight, BitVec.toNat_ofNat, Nat.shiftRight_eq_div_pow]; omega),
      e c _ (by simp only [BitVec.toNat_ushiftRight, BitVec.toNat_ofNat, Nat.shiftRight_eq_div_pow]; omega),
      e d _ (by simp only [BitVec.toNat_ofNat]; omega)]
set_option maxRecDepth 100000 in
theorem eNum0 {m : Nat} {l : List B8} (h : eNum m l = 0) : numE l = 0 ∧ numV l ≤ m := by
  unfold eNum at h
  split at h
  · contradiction
  · rename_i h1
    split at h
    · cases h
    · exact ⟨by omega, by omega⟩
set_option maxRecDepth 100000 in
theorem fld_back {f : List B8} (h : fldE f = 0) (ht : (fldT f).drop (fldK f) = []) : f = fldS (numV f) (numV (numR f)) ((fldT f).take (fldK f)) ∧ numV f ≤ mostS ∧ numV (numR f) ≤ mostS := by
  unfold fldE at h
  split at h
  · contradiction
  · rename_i h1
    split at h
    · contradiction
    · rename_i h2
      obtain ⟨a1, a2⟩ := eNum0 (Decidable.not_not.1 h1)
      obtain ⟨b1, b2⟩ := eNum0 (Decidable.not_not.1 h2)
      have c1 : numE (numR (numR f)) = 0 ∧ numV (numR (numR f)) ≤ (numR (numR (numR f))).length := by
        unfold eText at h
        split at h
        · contradiction
        · split at h
          · cases h
          · split at h
            · cases h
            · exact ⟨by omega, by omega⟩
      refine ⟨?_, a2, b2⟩
      have hl : (fldT f).length = fldK f := by
        have := congrArg List.length ht
        rw [List.length_drop, List.length_nil] at this
        have c2 : fldK f ≤ (fldT f).length := c1.2
        omega
      rw [← hl, List.take_length]
      unfold fldS
      rw [hl]
      have e3 := num_split _ c1.1
      have e2 := num_split _ b1
      have e1 := num_split _ a1
      rw [show numB (fldK f) ++ fldT f = numR (numR f) from e3.symm, ← e2, ← e1]
set_option maxRecDepth 100000 in
theorem read_back {l : List B8} {r : Rc} (h : readS l = some r) : l.take (64 * r.size) = formS r.t r.n r.b ∧ (fldS r.t r.n r.b).length ≤ 65524 ∧ r.t ≤ mostS ∧ r.n ≤ mostS := by
  obtain ⟨s1, s2, s3⟩ := readS_size h
  rw [s1] at s2 ⊢
  clear s1 s3
  unfold readS at h
  split at h
  · cases h
  · rename_i g1
    split at h
    · cases h
    · rename_i g2
      split at h
      · cases h
      · rename_i g3
        split at h
        · cases h
        · rename_i g4
          injection h with h
          subst h
          have g2 := Decidable.not_not.1 g2
          have g3 := Decidable.not_not.1 g3
          have h41 : fldE (bodyS l) = 0 := by
            by_cases e : fldE (bodyS l) = 0
            · exact e
            · exact absurd (Or.inl e) g4
          have h42 : (fldT (bodyS l)).drop (fldK (bodyS l)) = [] := by
            by_cases e : (fldT (bodyS l)).drop (fldK (bodyS l)) = []
            · exact e
            · exact absurd (Or.inr e) g4
          obtain ⟨e1, e2, e3⟩ := fld_back h41 h42
          simp only
          have hbl : (bodyS l).length = lenS l := by
            unfold bodyS; rw [List.length_take, List.length_drop]; unfold endS at s2; omega
          rw [← e1]
          refine ⟨?_, by omega, e2, e3⟩
          unfold formS
          rw [← e1]
          unfold laidS headS
          rw [hbl, ← g3, ← g2, List.append_assoc]
          have hw : wb (BitVec.ofNat 32 (lenS l)) = l.take 4 := val_wb _ (by rw [List.length_take]; omega)
          rw [hw]
          unfold bodyS endS
          have p1 : l.take (12 + lenS l + secPad (12 + lenS l)) = l.take (12 + lenS l) ++ (l.drop (12 + lenS l)).take (secPad (12 + lenS l)) := List.take_add
          have p2 : l.take (12 + lenS l) = l.take 12 ++ (l.drop 12).take (lenS l) := List.take_add
          have p3 : l.take 12 = l.take 4 ++ (l.drop 4).take 8 := List.take_add (i := 4) (j := 8)
          rw [p1, p2, p3]
          simp only [List.append_assoc]
set_option maxRecDepth 100000 in
/-- The records that a scan tells stand there in their forms. -/
theorem scan_back (t : Nat) : ∀ (m : Nat) (l : List B8) (k : Nat), l.length ≤ m → l.take (64 * (scanN l t k).2) = formsS t k (scanN l t k).1 ∧ secsS t k (scanN l t k).1 = (scanN l t k).2 ∧
    (∀ i (h : i < (scanN l t k).1.length), (fldS t (k + i) (scanN l t k).1[i]).length ≤ 65524 ∧ k + i ≤ mostS) ∧ ((scanN l t k).1 ≠ [] → t ≤ mostS) := by
  intro m
  induction m with
  | zero =>
    intro l k h
    have h0 : readS l = none := by unfold readS; rw [if_pos (.inl (by omega))]
    rw [scanN_none h0]
    exact ⟨by simp [formsS], rfl, fun i h => by simp at h, fun h => absurd rfl h⟩
  | succ m ih =>
    intro l k h
    cases hr : readS l with
    | none =>
      rw [scanN_none hr]
      exact ⟨by simp [formsS], rfl, fun i h => by simp at h, fun h => absurd rfl h⟩
    | some r =>
      obtain ⟨h1, h2, h3⟩ := readS_size hr
      by_cases hn : r.t ≠ t ∨ r.n ≠ k
      · rw [scanN_other hr hn]
        exact ⟨by simp [formsS], rfl, fun i h => by simp at h, fun h => absurd rfl h⟩
      · rw [not_or] at hn
        obtain ⟨ht, hk⟩ := hn
        have ht := Decidable.not_not.1 ht
        have hk := Decidable.not_not.1 hk
        obtain ⟨a1, a2, a3, a4⟩ := read_back hr
        have hs := scanN_some hr
        rw [ht, hk] at hs a1 a2
        rw [ht] at a3
        rw [hk] at a4
        obtain ⟨b1, b2, b3, b4⟩ := ih (l.drop (64 * r.size)) (k + 1) (by rw [List.length_drop]; omega)
        obtain ⟨a, ha⟩ : ∃ a, a = scanN (l.drop (64 * r.size)) t (k + 1) := ⟨_, rfl⟩
        rw [← ha] at hs b1 b2 b3 b4
        rw [hs]
        simp only
        have hsz : (formS t k r.b).length = 64 * r.size := by rw [← a1, List.length_take]; omega
        refine ⟨?_, ?_, fun i hi => ?_, fun _ => a3⟩
        · rw [Nat.mul_add, List.take_add, a1, b1, formsS]
        · rw [secsS, b2, hsz]; omega
        · cases i with
          | zero => exact ⟨by simpa using a2, by omega⟩
          | succ i =>
            have := b3 i (by simpa using hi)
            rw [show k + 1 + i = k + (i + 1) by omega] at this
            simpa using this
/-- The records put of turn t lie in the stretch of m sectors from a on, the first 'sure' of them are sure; behind them all is blank. -/
structure Inv (d : Dr) (n a m t : Nat) (put : List (List B8)) (sure : Nat) : Prop where
  on : OnD d n
  fit : a + m ≤ n
  room : secsS t 0 put ≤ m
  cut : cutD d a (secsS t 0 put) = formsS t 0 put
  zero : ∀ k, secsS t 0 put ≤ k → k < m → d.now (a + k) = zeros 64
  wait : ∀ w ∈ d.W, a + secsS t 0 (put.take sure) ≤ w.1 ∧ w.1 < a + secsS t 0 put
  le : sure ≤ put.length
  turn : t ≤ mostS
  lens : ∀ i (h : i < put.length), (fldS t i put[i]).length ≤ 65524
  many : put.length ≤ mostS
set_option maxRecDepth 100000 in
theorem Inv.new (n a m t : Nat) (hf : a + m ≤ n) (ht : t ≤ mostS) : Inv (Dr.new n) n a m t [] 0 :=
  ⟨.new n, hf, Nat.zero_le _, rfl, fun k _ hk => by
    show ((List.replicate n (zeros 64)).getD (a + k) []) = _
    rw [List.getD_eq_getElem?_getD, List.getElem?_replicate, if_pos (by omega)]; rfl, fun w hw => by simp [Dr.new] at hw, Nat.le_refl _, ht, fun i h => by simp at h, by simp⟩
set_option maxRecDepth 100000 in
theorem cut_zeros {d : Dr} (a : Nat) : ∀ (m : Nat), (∀ k, k < m → d.now (a + k) = zeros 64) → cutD d a m = zeros (64 * m)
  | 0, _ => rfl
  | m + 1, h => by
    rw [cutD_succ, cut_zeros a m (fun k hk => h k (by omega)), h m (by omega)]
    unfold zeros
    rw [List.replicate_append_replicate, Nat.mul_succ]
set_option maxRecDepth 100000 in
theorem Inv.bytes {d : Dr} {n a m t sure : Nat} {put : List (List B8)} (h : Inv d n a m t put sure) : cutD d a m = formsS t 0 put ++ zeros (64 * (m - secsS t 0 put)) := by
  rw [cutD_split h.on.ok a m (secsS t 0 put) h.fit h.room, h.cut]
  congr 1
  refine cut_zeros _ _ fun k hk => ?_
  rw [Nat.add_assoc]
  exact h.zero _ (by omega) (by omega)
set_option maxRecDepth 100000 in
theorem Inv.scan {d : Dr} {n a m t sure : Nat} {put : List (List B8)} (h : Inv d n a m t put sure) : scanN (cutD d a m) t 0 = (put, secsS t 0 put) := by
  rw [h.bytes, scan_forms t h.turn _ put 0 (by have := h.many; omega) (fun i hi => by rw [Nat.zero_add]; exact h.lens i hi), scanN_none (zeros_none _)]
  simp
set_option maxRecDepth 100000 in
theorem Inv.sync {d : Dr} {n a m t sure : Nat} {put : List (List B8)} (h : Inv d n a m t put sure) : d.syncE = 0 ∧ Inv d.sync n a m t put put.length := by
  obtain ⟨h1, h2, h3⟩ := h.on.sync
  have hn : ∀ k, d.sync.now k = d.now k := Dr.now_sync h.on.ok h1
  exact ⟨h1, h2, h.fit, h.room, by rw [cutD_congr _ _ fun k _ _ => hn k]; exact h.cut, fun k a b => by rw [hn]; exact h.zero k a b, fun w hw => (by rw [h3] at hw; cases hw), Nat.le_refl _, h.turn, h.lens, h.many⟩
set_option maxRecDepth 100000 in
theorem secsS_one (t k : Nat) (b : List B8) : secsS t k [b] = (formS t k b).length / 64 := by simp [secsS]
set_option maxRecDepth 100000 in
/-- A record is put behind all. -/
theorem Inv.put {d : Dr} {n a m t sure : Nat} {put : List (List B8)} (h : Inv d n a m t put sure) (b : List B8) (hb : (fldS t put.length b).length ≤ 65524) (hm : put.length < mostS) (hr : secsS t 0 put + (formS t put.length b).length / 64 ≤ m) :
    Inv (putD d (a + secsS t 0 put) (chunks ((formS t put.length b).length / 64) (formS t put.length b))) n a m t (put ++ [b]) sure := by
  obtain ⟨z, hz⟩ : ∃ z, z = (formS t put.length b).length / 64 := ⟨_, rfl⟩
  have hlen : (formS t put.length b).length = 64 * z := by rw [hz, formS_div]
  obtain ⟨C, hC⟩ : ∃ C, C = chunks z (formS t put.length b) := ⟨_, rfl⟩
  have hCl : C.length = z := by rw [hC]; exact chunks_len _ _
  have hCs : ∀ s ∈ C, s.length = 64 := by rw [hC]; exact chunks_sec _ _ (by omega)
  have hCf : C.flatten = formS t put.length b := by rw [hC]; exact chunks_flat _ _ hlen
  rw [← hz] at hr ⊢
  rw [← hC]
  have hfit := h.fit
  obtain ⟨q1, q2, q3⟩ := putD_on (n := n) C d (a + secsS t 0 put) h.on (by omega) hCs
  have hsec : secsS t 0 (put ++ [b]) = secsS t 0 put + z := by rw [secsS_append, Nat.zero_add, secsS_one, ← hz]
  refine ⟨q1, hfit, by omega, ?_, fun k hk1 hk2 => ?_, fun w hw => ?_, by rw [List.length_append]; have := h.le; omega, h.turn, fun i hi => ?_, by rw [List.length_append, List.length_singleton]; omega⟩
  · rw [hsec, cutD_split (m := n) q1.ok a (secsS t 0 put + z) (secsS t 0 put) (by omega) (by omega), formsS_append]
    congr 1
    · rw [cutD_congr (d := d) _ _ (fun k hk1 hk2 => by rw [q2 k, if_neg (by omega)]), h.cut]
    · rw [show secsS t 0 put + z - secsS t 0 put = C.length by omega, putD_cut (n := n) C d _ h.on (by omega) hCs, hCf, Nat.zero_add]
      simp [formsS]
  · rw [q2, if_neg (by omega)]
    exact h.zero k (by omega) hk2
  · rw [List.take_append_of_le_length h.le, hsec]
    rcases q3 w hw with h1 | h1
    · have := h.wait w h1; omega
    · have hle : secsS t 0 (put.take sure) ≤ secsS t 0 put := by
        conv => rhs; rw [← List.take_append_drop sure put, secsS_append]
        omega
      omega
  · by_cases hi2 : i < put.length
    · rw [List.getElem_append_left hi2]; exact h.lens i hi2
    · rw [List.length_append, List.length_singleton] at hi
      obtain rfl : i = put.length := by omega
      simpa using hb
set_option maxRecDepth 100000 in
/-- Whatever the power does: what was synced stands there. -/
theorem Inv.start {d : Dr} {n a m t sure : Nat} {put : List (List B8)} (h : Inv d n a m t put sure) (M : List B8) : ∃ R, cutD (d.start M) a m = formsS t 0 (put.take sure) ++ R ∧ (d.start M).Ok n := by
  have hle : secsS t 0 (put.take sure) ≤ secsS t 0 put := by
    conv => rhs; rw [← List.take_append_drop sure put, secsS_append]
    omega
  have hfit := h.fit
  have hroom := h.room
  have ok := h.on.ok.start M
  refine ⟨cutD (d.start M) (a + secsS t 0 (put.take sure)) (m - secsS t 0 (put.take sure)), ?_, ok⟩
  · rw [cutD_split ok a m (secsS t 0 (put.take sure)) hfit (by omega)]
    congr 1
    rw [cutD_congr (d := d) _ _ (fun k h1 h2 => start_other d M k fun w hw e => by have := h.wait w hw; omega)]
    have e1 := cutD_take h.on.ok a (secsS t 0 put) (secsS t 0 (put.take sure)) (by omega) hle
    rw [← e1, h.cut]
    have e2 : formsS t 0 put = formsS t 0 (put.take sure) ++ formsS t (0 + (put.take sure).length) (put.drop sure) := by rw [← formsS_append, List.take_append_drop]
    rw [e2, ← formsS_len, List.take_left]
set_option maxRecDepth 100000 in
/-- What a scan tells behind a start: what was synced, and more. -/
theorem Inv.told {d : Dr} {n a m t sure : Nat} {put : List (List B8)} (h : Inv d n a m t put sure) (M : List B8) : ∃ w', (scanN (cutD (d.start M) a m) t 0).1 = put.take sure ++ w' := by
  obtain ⟨R, e, -⟩ := h.start M
  rw [e, scan_forms t h.turn R _ 0 (by have := h.many; rw [List.length_take]; omega) (fun i hi => by
    rw [Nat.zero_add, List.getElem_take]
    exact h.lens i (by rw [List.length_take] at hi; omega))]
  exact ⟨_, rfl⟩
set_option maxRecDepth 100000 in
theorem secsS_ge (t : Nat) : ∀ (l : List (List B8)) (k : Nat), l.length ≤ secsS t k l
  | [], _ => Nat.le_refl _
  | b :: l, k => by
    have h1 := secsS_ge t l (k + 1)
    have h2 := laidS_len (fldS t k b)
    have h3 := laidS_div (fldS t k b)
    have h4 : 1 ≤ (formS t k b).length / 64 := by unfold formS; omega
    rw [List.length_cons, secsS]; omega
set_option maxRecDepth 100000 in
/-- A scroll that is opened: the records that a scan tells stand there, behind them all is blank. -/
theorem Inv.opened {d : Dr} {n a m t u : Nat} {w : List (List B8)} (c : List B8) (on : OnD d n) (fit : a + m ≤ n) (ht : t ≤ mostS) (hm : m ≤ 8192) (hW : d.W = []) (hs : scanN c t 0 = (w, u)) (hc : c.length = 64 * m) (hcut : cutD d a u = c.take (64 * u)) (hz : ∀ k, u ≤ k → k < m → d.now (a + k) = zeros 64) : Inv d n a m t w w.length := by
  obtain ⟨h1, h2, h3, -⟩ := scan_back t c.length c 0 (Nat.le_refl _)
  have h4 := scanN_le t c.length c 0 (Nat.le_refl _)
  rw [hs] at h1 h2 h3 h4
  simp only at h1 h2 h3 h4
  have h5 := secsS_ge t w 0
  exact ⟨on, fit, by omega, by rw [h2, hcut, h1], fun k hk hk2 => hz k (by omega) hk2, fun x hx => (by rw [hW] at hx; cases hx), Nat.le_refl _, ht, fun i hi => by have := (h3 i hi).1; rwa [Nat.zero_add] at this, by unfold mostS; omega⟩
set_option maxRecDepth 100000 in
/-- A blank scroll. -/
theorem Inv.blank {d : Dr} {n a m t : Nat} (on : OnD d n) (fit : a + m ≤ n) (ht : t ≤ mostS) (hW : d.W = []) (hz : ∀ k, k < m → d.now (a + k) = zeros 64) : Inv d n a m t [] 0 :=
  ⟨on, fit, Nat.zero_le _, rfl, fun k _ hk => hz k hk, fun x hx => (by rw [hW] at hx; cases hx), Nat.le_refl _, ht, fun i h => by simp at h, by simp⟩
end
end Go.Proofs.YtajdcekkmikbcaaDoor
