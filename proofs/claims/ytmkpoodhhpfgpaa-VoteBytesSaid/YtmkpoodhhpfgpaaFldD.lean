/- The contract of the eye's 'number'. -/
import Derived.Test.YtmkpoodhhpfgpaaFldC
set_option linter.unusedVariables false
set_option linter.unusedSimpArgs false
namespace Go.Proofs.Ytmkpoodhhpfgpaa
open Go.RowKit
/- A number read, by definition: the error, the number, what is left. -/
def numE : List B8 → Nat
  | [] => 2
  | k :: r => if 8 < k.toNat then 3 else if r.length < k.toNat then 2 else if (r.take k.toNat).head? = some 0 then 3 else 0
def numV : List B8 → Nat
  | [] => 0
  | k :: r => valB (r.take k.toNat)
def numR : List B8 → List B8
  | [] => []
  | k :: r => r.drop k.toNat
/-- An eye with no error, and the bytes that are left: they lie in no block of N. -/
def Eye0 (w : World) (e E : Nat) (N : Nat → Prop) (l : List B8) : Prop := ∃ A c, EyeAt w e E A l.length c 0 ∧ SlN w N A (l.map bv) ∧ l.length ≤ c ∧ (A = none → c = 0) ∧ N e ∧ N E ∧ l.length ≤ 1099511627776
def EyeX (w : World) (e E x : Nat) : Prop := ∃ A n c, EyeAt w e E A n c x
set_option maxRecDepth 100000 in
theorem Eye0.turn {S : Nat → Prop} {w w' : World} {e E : Nat} {N : Nat → Prop} {l : List B8} (h : Eye0 w e E N l) (t : Turn S w w') (h1 : ¬ S e) (h2 : ¬ S E) (h3 : ∀ i, S i → N i) : Eye0 w' e E N l := by
  obtain ⟨A, c, he, hs, r⟩ := h
  exact ⟨A, c, he.turn t h1 h2, hs.turn t h3 (fun _ _ h => h), r⟩
set_option maxRecDepth 100000 in
theorem Turn.trans' {e E : Nat} {a b c : World} (h : Turn (fun i => i = e) a b) (k : Turn (fun i => i = E) b c) : Turn (fun i => i = e ∨ i = E) a c := (h.mono (fun _ _ h => .inl h)).trans k (fun _ _ h => .inr h)
set_option maxRecDepth 100000 in
theorem add_zero (a : Addr) : a.add 0 = a := by simp [Addr.add]
set_option maxRecDepth 100000 in
theorem Eye0.fresh {w : World} {e E : Nat} {N : Nat → Prop} {l : List B8} (h : Eye0 w e E N l) : Eye0 w e E (fun i => N i ∨ w.heap.size ≤ i) l := by
  obtain ⟨A, c, he, hs, hc, hA, hN, hN', hl⟩ := h
  refine ⟨A, c, he, fun j u hu => ?_, hc, hA, .inl hN, .inl hN', hl⟩
  obtain ⟨ad, e1, hb, hcl⟩ := hs j u hu
  have hlt := World.block_lt_of_cell? w _ hcl
  rw [add_block] at hlt
  exact ⟨ad, e1, fun h => h.elim hb (fun h => by omega), hcl⟩
set_option maxRecDepth 100000 in
theorem Eye0.weak {w : World} {e E : Nat} {N N' : Nat → Prop} {l : List B8} (h : Eye0 w e E N l) (hN : ∀ i, N' i → N i) (he : N' e) (hE : N' E) : Eye0 w e E N' l := by
  obtain ⟨A, c, hh, hs, hc, hA, -, -, hl⟩ := h
  refine ⟨A, c, hh, fun j u hu => ?_, hc, hA, he, hE, hl⟩
  obtain ⟨ad, e1, hb, hcl⟩ := hs j u hu
  exact ⟨ad, e1, fun h => hb (hN _ h), hcl⟩
set_option maxRecDepth 100000 in
theorem take0_yes (e E : Nat) (N : Nat → Prop) (k : Nat) (l : List B8) (w : World) (h : Eye0 w e E N l) (hk : k ≤ l.length) :
    Calls Try.prog 66 #[.pointer (some ⟨e, 0, none⟩), .int .u64 (k : Int)] w fun r w' => ∃ A c, r = .returned (.slice A k c) ∧ SlN w' N A ((l.take k).map bv) ∧ (A = none → c = 0) ∧ k ≤ c ∧ Eye0 w' e E N (l.drop k) ∧ Turn (fun i => i = e) w w' := by
  obtain ⟨A, c, he, hs, hc, hA, hB, hB', hl⟩ := h
  refine (take_yes e E A l.length c k w he hk hc (by omega)).mono ?_
  rintro r w' ⟨rfl, he', ht⟩
  refine ⟨A, c, rfl, by rw [List.map_take]; exact (hs.turn ht (fun i h => by rw [h]; exact hB) (fun _ _ h => h)).take k, hA, by omega, ⟨cutA A c k, c - k, by rw [List.length_drop]; exact he', ?_, by simp; omega, ?_, hB, hB', by simp; omega⟩, ht⟩
  · rw [List.map_drop]
    exact (hs.turn ht (fun i h => by rw [h]; exact hB) (fun _ _ h => h)).cut c k (by simpa using hc)
  · unfold cutA
    intro h0
    split at h0
    · omega
    · cases A with
      | none => have := hA rfl; omega
      | some a => cases h0
set_option maxRecDepth 100000 in
theorem take0_no (e E : Nat) (N : Nat → Prop) (k : Nat) (l : List B8) (w : World) (h : Eye0 w e E N l) (hk : l.length < k) :
    Calls Try.prog 66 #[.pointer (some ⟨e, 0, none⟩), .int .u64 (k : Int)] w fun r w' => r = pan E ∧ EyeX w' e E 2 ∧ Turn (fun i => i = E) w w' := by
  obtain ⟨A, c, he, hs, hc, hA, hB, hB', hl⟩ := h
  refine (take_no e E A l.length c k w he hk (by omega)).mono ?_
  rintro r w' ⟨rfl, he', ht⟩
  exact ⟨rfl, ⟨_, _, _, he'⟩, ht⟩
set_option maxRecDepth 100000 in
theorem fail0 (e E : Nat) (N : Nat → Prop) (x : Nat) (l : List B8) (w : World) (h : Eye0 w e E N l) (hx : x ≠ 0) :
    Calls Try.prog 54 #[.pointer (some ⟨e, 0, none⟩), .int .i64 (x : Int)] w fun r w' => r = pan E ∧ EyeX w' e E x ∧ Turn (fun i => i = E) w w' := by
  obtain ⟨A, c, he, hs, hc, hA, hB, hB', hl⟩ := h
  refine (fail_any e E A l.length c x w he hx).mono ?_
  rintro r w' ⟨rfl, he', ht⟩
  exact ⟨rfl, ⟨_, _, _, he'⟩, ht⟩
set_option maxRecDepth 100000 in
theorem value_at (A : Option Addr) (c : Nat) (N : Nat → Prop) (n v : Nat) (l : List B8) (w : World) (hs : SlN w N A (l.map bv)) (hn : l.length = n) (h8 : n ≤ 8) (hv : valB l = v) :
    Calls Try.prog 65 #[.slice A n c] w fun e w' => e = .returned (.int .u64 (v : Int)) ∧ w' = w := by
  subst hn hv; exact value_any A c _ l w hs.sl h8
set_option maxRecDepth 100000 in
set_option maxHeartbeats 2000000 in
theorem number_yes (e E : Nat) (N : Nat → Prop) (l : List B8) (w : World) (h : Eye0 w e E N l) (hx : numE l = 0) :
    Calls Try.prog 53 #[.pointer (some ⟨e, 0, none⟩)] w fun r w' => r = .returned (.int .u64 (numV l : Int)) ∧ Eye0 w' e E N (numR l) ∧ Turn (fun i => i = e) w w' := by
  cases l with
  | nil => simp [numE] at hx
  | cons k r =>
    simp only [numE] at hx
    by_cases h1 : 8 < k.toNat
    · simp [h1] at hx
    by_cases h2 : r.length < k.toNat
    · simp [h1, h2] at hx
    by_cases h3 : (r.take k.toNat).head? = some 0
    · simp [h1, h2, h3] at hx
    have T1 := Lib.hid (take0_yes e E N 1 (k :: r) w h (by simp))
    have T2 := Lib.hid (fun w h => take0_yes e E N k.toNat r w h (by omega))
    have H3 := Lib.hid h3
    have hk8 : k.toNat ≤ 8 := by omega
    have hlk : (r.take k.toNat).length = k.toNat := by simp; omega
    have HLK := Lib.hid hlk
    clear h h1 h2 h3 hx hlk
    by_cases h0 : k.toNat = 0
    · have h00 : ¬ ((0 : Int) < (k.toNat : Int)) := by omega
      clear h0
      go_enter Try.func53, Try.ntmps53
      go_wp2_with (go_at_call 66; refine T1.out.mono ?_; rintro q w1 ⟨A1, c1, rfl, hs1, hA1, hc1, he1, ht1⟩; have V1 := Lib.hid (value_at A1 c1 N 1 k.toNat [k] w1 hs1 rfl (by omega) (by simp [valB])); have HE1 := Lib.hid he1; have HT1 := Lib.hid ht1; clear hs1 hA1 hc1 he1 ht1)
      refine V1.out.mono ?_
      rintro q w' ⟨rfl, rfl⟩
      go_wp2_with (go_at_call 66; refine (T2.out _ HE1.out).mono ?_; rintro q w2 ⟨A2, c2, rfl, hs2, hA2, hc2, he2, ht2⟩; have V2 := Lib.hid (value_at A2 c2 N k.toNat (numV (k :: r)) _ w2 hs2 HLK.out hk8 rfl); have HE2 := Lib.hid he2; have HT2 := Lib.hid ht2; clear hs2 hA2 hc2 he2 ht2)
      refine V2.out.mono ?_
      rintro q w' ⟨rfl, rfl⟩
      go_wp2
      go_ret
      exact ⟨rfl, HE2.out, HT1.out.trans HT2.out (fun _ _ h => h)⟩
    · obtain ⟨x, hx⟩ : ∃ x, (r.take k.toNat)[0]? = some x := ⟨_, List.getElem?_eq_getElem (by have := HLK.out; omega)⟩
      have hx0 : ¬ ((x.toNat : Int) = 0) := by
        intro h
        refine H3.out ?_
        rw [List.head?_eq_getElem?, hx, BitVec.eq_of_toNat_eq (show x.toNat = (0 : B8).toNat by simpa using h)]
      have HX := Lib.hid hx
      clear hx
      go_enter Try.func53, Try.ntmps53
      go_wp2_with (go_at_call 66; refine T1.out.mono ?_; rintro q w1 ⟨A1, c1, rfl, hs1, hA1, hc1, he1, ht1⟩; have V1 := Lib.hid (value_at A1 c1 N 1 k.toNat [k] w1 hs1 rfl (by omega) (by simp [valB])); have HE1 := Lib.hid he1; have HT1 := Lib.hid ht1; clear hs1 hA1 hc1 he1 ht1)
      refine V1.out.mono ?_
      rintro q w' ⟨rfl, rfl⟩
      go_wp2_with (go_at_call 66; refine (T2.out _ HE1.out).mono ?_; rintro q w2 ⟨A2, c2, rfl, hs2, hA2, hc2, he2, ht2⟩; have V2 := Lib.hid (value_at A2 c2 N k.toNat (numV (k :: r)) _ w2 hs2 HLK.out hk8 rfl); obtain ⟨ad, rfl, -, hc⟩ := hs2.at (show ((r.take k.toNat).map bv)[0]? = some (bv x) by rw [List.getElem?_map, HX.out]; rfl); rw [add_zero] at hc; unfold bv at hc; have HE2 := Lib.hid he2; have HT2 := Lib.hid ht2; clear hs2 hA2 hc2 he2 ht2)
      refine V2.out.mono ?_
      rintro q w' ⟨rfl, rfl⟩
      go_wp2
      go_ret
      exact ⟨rfl, HE2.out, HT1.out.trans HT2.out (fun _ _ h => h)⟩
set_option maxRecDepth 100000 in
set_option maxHeartbeats 2000000 in
theorem number_no (e E : Nat) (N : Nat → Prop) (l : List B8) (w : World) (h : Eye0 w e E N l) (hx : numE l ≠ 0) :
    Calls Try.prog 53 #[.pointer (some ⟨e, 0, none⟩)] w fun r w' => r = pan E ∧ EyeX w' e E (numE l) ∧ Turn (fun i => i = e ∨ i = E) w w' := by
  cases l with
  | nil =>
    have T1 := Lib.hid (take0_no e E N 1 [] w h (by simp))
    clear h hx
    go_enter Try.func53, Try.ntmps53
    go_wp2_with (go_at_call 66; refine T1.out.mono ?_; rintro q w1 ⟨rfl, he1, ht1⟩; dsimp only [pan]; have HE1 := Lib.hid he1; have HT1 := Lib.hid ht1; clear he1 ht1)
    exact ⟨rfl, rfl, HE1.out, HT1.out.mono (fun _ _ h => .inr h)⟩
  | cons k r =>
    have T1 := Lib.hid (take0_yes e E N 1 (k :: r) w h (by simp))
    by_cases h1 : 8 < k.toNat
    · have T2 := Lib.hid (fun w h => fail0 e E N 3 r w h (by decide))
      have h3 : (8 : Int) < (k.toNat : Int) := by omega
      have hn : numE (k :: r) = 3 := by simp [numE, h1]
      rw [hn]
      have hk := k.isLt
      clear h hx h1 hn
      go_enter Try.func53, Try.ntmps53
      go_wp2_with (go_at_call 66; refine T1.out.mono ?_; rintro q w1 ⟨A1, c1, rfl, hs1, hA1, hc1, he1, ht1⟩; have V1 := Lib.hid (value_at A1 c1 N 1 k.toNat [k] w1 hs1 rfl (by omega) (by simp [valB])); have HE1 := Lib.hid he1; have HT1 := Lib.hid ht1; clear hs1 hA1 hc1 he1 ht1)
      refine V1.out.mono ?_
      rintro q w' ⟨rfl, rfl⟩
      go_wp2_with (go_at_call 54; refine (T2.out _ HE1.out).mono ?_; rintro q w2 ⟨rfl, he2, ht2⟩; dsimp only [pan]; have HE2 := Lib.hid he2; have HT2 := Lib.hid ht2; clear he2 ht2)
      exact ⟨rfl, rfl, HE2.out, HT1.out.trans' HT2.out⟩
    by_cases h2 : r.length < k.toNat
    · have T2 := Lib.hid (fun w h => take0_no e E N k.toNat r w h h2)
      have hn : numE (k :: r) = 2 := by simp [numE, h1, h2]
      rw [hn]
      clear h hx h2 hn
      have h3 : ¬ (8 : Int) < (k.toNat : Int) := by omega
      clear h1
      go_enter Try.func53, Try.ntmps53
      go_wp2_with (go_at_call 66; refine T1.out.mono ?_; rintro q w1 ⟨A1, c1, rfl, hs1, hA1, hc1, he1, ht1⟩; have V1 := Lib.hid (value_at A1 c1 N 1 k.toNat [k] w1 hs1 rfl (by omega) (by simp [valB])); have HE1 := Lib.hid he1; have HT1 := Lib.hid ht1; clear hs1 hA1 hc1 he1 ht1)
      refine V1.out.mono ?_
      rintro q w' ⟨rfl, rfl⟩
      go_wp2_with (go_at_call 66; refine (T2.out _ HE1.out).mono ?_; rintro q w2 ⟨rfl, he2, ht2⟩; dsimp only [pan]; have HE2 := Lib.hid he2; have HT2 := Lib.hid ht2; clear he2 ht2)
      exact ⟨rfl, rfl, HE2.out, HT1.out.trans' HT2.out⟩
    by_cases h3 : (r.take k.toNat).head? = some 0
    · have hk0 : ¬ k.toNat = 0 := by intro h0; rw [h0] at h3; simp at h3
      have hlk : (r.take k.toNat).length = k.toNat := by simp; omega
      have T2 := Lib.hid (fun w h => take0_yes e E N k.toNat r w h (by omega))
      have T3 := Lib.hid (fun w h => fail0 e E N 3 (r.drop k.toNat) w h (by decide))
      have hn : numE (k :: r) = 3 := by simp [numE, h1, h2, h3]
      rw [hn]
      have HX := Lib.hid (show (r.take k.toNat)[0]? = some 0 by rw [← List.head?_eq_getElem?]; exact h3)
      have h8 : ¬ (8 : Int) < (k.toNat : Int) := by omega
      clear h hx h1 h2 h3 hn hlk
      go_enter Try.func53, Try.ntmps53
      go_wp2_with (go_at_call 66; refine T1.out.mono ?_; rintro q w1 ⟨A1, c1, rfl, hs1, hA1, hc1, he1, ht1⟩; have V1 := Lib.hid (value_at A1 c1 N 1 k.toNat [k] w1 hs1 rfl (by omega) (by simp [valB])); have HE1 := Lib.hid he1; have HT1 := Lib.hid ht1; clear hs1 hA1 hc1 he1 ht1)
      refine V1.out.mono ?_
      rintro q w' ⟨rfl, rfl⟩
      go_wp2_with (first
        | (go_at_call 66; refine (T2.out _ HE1.out).mono ?_; rintro q w2 ⟨A2, c2, rfl, hs2, hA2, hc2, he2, ht2⟩; obtain ⟨ad, rfl, -, hc⟩ := hs2.at (show ((r.take k.toNat).map bv)[0]? = some (.int .u8 0) by rw [List.getElem?_map, HX.out]; rfl); rw [add_zero] at hc; have HE2 := Lib.hid he2; have HT2 := Lib.hid ht2; clear hs2 hA2 hc2 he2 ht2)
        | (go_at_call 54; refine (T3.out _ HE2.out).mono ?_; rintro q w3 ⟨rfl, he3, ht3⟩; dsimp only [pan]; have HE3 := Lib.hid he3; have HT3 := Lib.hid ht3; clear he3 ht3))
      exact ⟨rfl, rfl, HE3.out, (HT1.out.trans HT2.out (fun _ _ h => h)).trans' HT3.out⟩
    · exact absurd (by simp only [numE]; rw [if_neg h1, if_neg h2, if_neg h3]) hx
end Go.Proofs.Ytmkpoodhhpfgpaa
