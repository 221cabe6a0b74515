/- Merged: The document's Keep. Pieces for regions that draw their order: a text's copy, a list of one text, a chest's value; the document's Change. The landed chest's Keep. -/
import Derived.Test.YtfiopkehpcipdaaDoorM40
namespace Go.Proofs.YtfiopkehpcipdaaDoor
section
set_option linter.unusedVariables false
set_option linter.unusedSimpArgs false
open Go.RowKit
set_option maxRecDepth 100000
abbrev ZCh : Array Value := #[.int .i64 0, .int .i64 0, .slice none 0 0]
theorem zero_ch (w : World) : (zeroValue 33).run Tryd.prog w = .ok (.agg ZCh) w := by kernel_rfl
theorem ch_info : (Tryd.prog.info? 33).map (·.size) = some 3 := by kernel_rfl
theorem results_ch {fn : Func} {p u : Tmp} (h : fn.results = #[.cell p 33, .tmp u]) (tmps : Array Value) (w : World) (g : Nat) (cs : Array Value) (v : Value)
    (hp : tmps.getD p undef = .pointer (some ⟨g, 0, none⟩)) (hv : tmps.getD u undef = v) (hg : w.heap[g]? = some (.cells cs 33 (0, 0))) (hc : cs.size = 3) :
    (results fn tmps).run Tryd.prog w = .ok (.tuple #[.agg cs, v]) w := by
  rw [results_cell_tmp h, hp, hv]
  simp [asAddr, run_loadVar_row w g 33 33 cs (0, 0) _ hg Tryd.underlying33 rfl (by rw [hc]; kernel_rfl), Result.andThen]
abbrev cstC (t half : Int) (A : Option Addr) (n c : Nat) : Array Value := #[.int .i64 t, .int .i64 half, .slice A n c]
theorem cst_facts (t half : Int) (A : Option Addr) (n c : Nat) : (Tryd.prog.info? 33).map (·.size) = some (cstC t half A n c).size ∧ ZCh.size = (cstC t half A n c).size ∧ (cstC t half A n c).all (·.oneCell') = true := ⟨ch_info, rfl, by simp [Value.oneCell']⟩
def keepE (t half : Int) (L : List (List B8)) (b : List B8) : Nat := if sizeC t (L.length : Int) b < 0 then 4 else if leftC t half L < sizeC t (L.length : Int) b then 18 else 0
def keepL (t half : Int) (L : List (List B8)) (b : List B8) : List (List B8) := if keepE t half L b = 0 then L ++ [b] else L
theorem leftsC_le (t : Int) : ∀ (L : List (List B8)) (i : Nat) (a : Int), leftsC t i a L ≤ a + L.length ∧ a - 1025 * L.length ≤ leftsC t i a L
  | [], i, a => by simp [leftsC]
  | b :: bs, i, a => by
    have h := leftsC_le t bs (i + 1) (a - sizeC t i b)
    have hb := sizeC_bound t i b
    show leftsC t (i + 1) (a - sizeC t i b) bs ≤ _ ∧ _ ≤ leftsC t (i + 1) (a - sizeC t i b) bs
    have e : (b :: bs).length = bs.length + 1 := rfl
    rw [e]
    omega
/-- What the document's calls that make a chest anew come to. -/
def ChPost (N : Nat → Prop) (t half : Int) (L : List (List B8)) (e : Nat) (w : World) (r : Ending) (w' : World) : Prop := ∃ A' c', r = .returned (.tuple #[cstV t half A' L.length c', .int .i64 (e : Int)]) ∧ LstQ w' (fun i => N i ∧ i < w.heap.size) A' L ∧ (A' = none → c' = 0) ∧ L.length ≤ c' ∧ Turn (fun _ => False) w w'
theorem LstQ.vals {w : World} {N : Nat → Prop} {A : Option Addr} {ls : List (List B8)} (h : LstQ w N A ls) : ∃ vs, TxtV w N ls vs ∧ SlN w N A vs := by
  have each : ∀ i : Nat, ∃ v : Value, ∀ x, ls[i]? = some x → ∃ Ai ci, v = .slice Ai x.length ci ∧ x.length ≤ ci ∧ (Ai = none → ci = 0) ∧ SlN w N Ai (x.map bv) ∧ ∃ ad, A = some ad ∧ ¬ N ad.block ∧ w.cell? (ad.add i) = some v := fun i => by
    cases hi : ls[i]? with
    | none => exact ⟨.bool true, fun x hx => by cases hx⟩
    | some y =>
      obtain ⟨ad, Ai, ci, e, hb, hc, h1, h2, h3⟩ := h i y hi
      exact ⟨.slice Ai y.length ci, fun x hx => by
        injection hx with hx
        subst hx
        exact ⟨Ai, ci, rfl, h1, h2, h3, ad, e, hb, hc⟩⟩
  obtain ⟨f, hf⟩ : ∃ f : Nat → Value, ∀ (i : Nat) x, ls[i]? = some x → ∃ Ai ci, f i = .slice Ai x.length ci ∧ x.length ≤ ci ∧ (Ai = none → ci = 0) ∧ SlN w N Ai (x.map bv) ∧ ∃ ad, A = some ad ∧ ¬ N ad.block ∧ w.cell? (ad.add i) = some (f i) := ⟨fun i => (each i).choose, fun i => (each i).choose_spec⟩
  refine ⟨(List.range ls.length).map f, ⟨by simp, fun i x hi => ?_⟩, fun j u hu => ?_⟩
  · have hlt := (List.getElem?_eq_some_iff.1 hi).1
    obtain ⟨Ai, ci, e, h1, h2, h3, -⟩ := hf i x hi
    exact ⟨Ai, ci, by simp [hlt, e], h1, h2, h3⟩
  · have hj : j < ls.length := by
      have := (List.getElem?_eq_some_iff.1 hu).1
      simpa using this
    obtain ⟨Ai, ci, e, -, -, -, ad, e1, e2, e3⟩ := hf j ls[j] (List.getElem?_eq_getElem hj)
    simp [hj] at hu
    exact ⟨ad, e1, e2, by rw [e3, hu]⟩
set_option maxHeartbeats 16000000 in
theorem rkeep_any (N : Nat → Prop) (t half : Int) (A : Option Addr) (c : Nat) (L : List (List B8)) (Ab : Option Addr) (cb : Nat) (b : List B8) (w : World) (hL : LstQ w N A L) (hA : A = none → c = 0) (hc : L.length ≤ c) (hlen : L.length ≤ 900000) (hbs : ∀ x ∈ L, x.length ≤ 900000) (hh : 0 ≤ half) (hh2 : half ≤ 1000000000)
    (hb : Bts w Ab b) (hAb : Ab = none → cb = 0) (hlb : b.length ≤ 900000) :
    Calls Tryd.prog 14 #[cstV t half A L.length c, .slice Ab b.length cb] w (ChPost N t half (keepL t half L b) (keepE t half L b) w) := by
  obtain ⟨i0, hi, hz0, hz1, hz2⟩ := info_parts info_sl
  have hzc := zero_ch
  obtain ⟨w1, hw1⟩ : ∃ w1, w1 = (w.alloc (.cells (cstC t half A L.length c) 33)).alloc (.cells ZCh 33) := ⟨_, rfl⟩
  obtain ⟨x, hx⟩ : ∃ x, x = w.heap.size := ⟨_, rfl⟩
  have t1 : Turn (fun _ => False) w w1 := by rw [hw1]; exact ((Turn.refl _ _).alloc _).alloc _
  have B1 := Lib.hid (show CBx w1 x t half A L.length c by rw [hw1, hx]; exact heap_alloc2_old _ _ _)
  have Y1 := Lib.hid (show w1.heap[x + 1]? = some (.cells ZCh 33 (0, 0)) by rw [hw1, hx]; exact heap_alloc2_new _ _ _)
  have SZ1 := Lib.hid (show w1.heap.size = x + 2 by rw [hw1, hx]; simp)
  have T1 := Lib.hid t1
  have HX := Lib.hid hx
  have HL := Lib.hid hL
  have BT1 := Lib.hid (hb.below (turn_stp' t1))
  have HBW := Lib.hid hb
  have RS := rsize_any t (L.length : Int) Ab cb b w1 BT1.out hAb hlb
  have hsb := sizeC_bound t (L.length : Int) b
  have RL := Lib.hid (fun (w2 : World) (h : LstN w2 A L) => rleft_any t half A c L w2 h (by omega) hbs hh hh2)
  have hlf := leftsC_le t L 0 half
  have hke0 := (show keepE t half L b = if sizeC t (L.length : Int) b < 0 then 4 else if leftC t half L < sizeC t (L.length : Int) b then 18 else 0 from rfl)
  have hkl0 := (show keepL t half L b = if keepE t half L b = 0 then L ++ [b] else L from rfl)
  obtain ⟨KE, hKE⟩ : ∃ e, e = keepE t half L b := ⟨_, rfl⟩
  obtain ⟨KL, hKL⟩ : ∃ e, e = keepL t half L b := ⟨_, rfl⟩
  rw [← hKE] at hke0 hkl0 ⊢
  rw [← hKL] at hkl0 ⊢
  obtain ⟨S_, hS⟩ : ∃ s, s = sizeC t (L.length : Int) b := ⟨_, rfl⟩
  rw [← hS] at RS hsb hke0
  obtain ⟨F_, hF⟩ : ∃ s, s = leftC t half L := ⟨_, rfl⟩
  have hlf2 : F_ ≤ half + L.length ∧ half - 1025 * L.length ≤ F_ := by rw [hF]; exact hlf
  rw [← hF] at hke0 RL
  have HKE := Lib.hid hke0
  have HKL := Lib.hid hkl0
  have RSh := Lib.hid RS
  clear RS
  have AC := Lib.hid (And.intro hA hc)
  have ACB := Lib.hid hAb
  obtain ⟨lb, hlbd⟩ : ∃ l, l = b.length := ⟨_, rfl⟩
  rw [← hlbd] at RSh hlb ⊢
  have HLB := Lib.hid hlbd
  obtain ⟨n, hn⟩ : ∃ l, l = L.length := ⟨_, rfl⟩
  rw [← hn] at RSh RL B1 AC hlen hlf2 hw1 ⊢
  have HN := Lib.hid hn
  clear hke0 hkl0 hL hA hc hbs hb hAb hlbd hn hS hF hKE hKL hlf t1
  go_enter Tryd.func14, Tryd.ntmps14
  go_upto_region 1 with fail
  change Code.wp _ _ _ _ ((w.alloc (.cells (cstC t half A n c) 33)).alloc (.cells ZCh 33))
  rw [← hw1, ← hx]
  clear hw1 hx
  obtain ⟨c0, c1, c2⟩ := B1.out.cells
  go_wp2_with (go_at_call 37; refine stop ?_)
  unfold Stop
  refine RSh.out.mono ?_
  rintro r w2 ⟨rfl, hb2⟩
  have B2 := Lib.hid (B1.out.below hb2 (by have := SZ1.out; omega))
  have Y2 := Lib.hid (show w2.heap[x + 1]? = some (.cells ZCh 33 (0, 0)) from (hb2.block (x + 1) (by have := SZ1.out; omega)).trans Y1.out)
  have T2 := Lib.hid (T1.out.trans (of_turn hb2) (fun _ _ h => h))
  have BT2 := Lib.hid (BT1.out.below hb2)
  have HX2 := Lib.hid (show x + 2 ≤ w2.heap.size by have := SZ1.out; have := hb2.size; omega)
  clear hb2 c0 c1 c2 RSh B1 Y1 T1 BT1 SZ1
  have ERR := Lib.hid (show ∀ (e : Nat) (w3 : World), KE = e → e ≠ 0 → Turn (fun _ => False) w w3 → ChPost N t half KL KE w (.returned (.tuple #[.agg (cstC t half A n c), .int .i64 (e : Int)])) (w3.setRow (x + 1) (cstC t half A n c)) from by
    intro e w3 h1 h0 t3
    have ts : Turn (fun i => i = x + 1) w3 (w3.setRow (x + 1) (cstC t half A n c)) := (Turn.refl _ _).setRow _ _ (fun _ => rfl)
    have tt : Turn (fun _ => False) w (w3.setRow (x + 1) (cstC t half A n c)) := t3.trans ts (fun i hi h => by have h' : i = x + 1 := h; have := HX.out; omega)
    have h2 : KL = L := by rw [HKL.out, if_neg (by rw [h1]; exact h0)]
    rw [h1, h2]
    exact ⟨A, c, by rw [← HN.out]; rfl, HL.out.turn tt (fun _ h => h.elim) (fun _ _ h => h.1), AC.out.1, by rw [← HN.out]; exact AC.out.2, tt⟩)
  have F2 := Lib.hid (cst_facts t half A n c)
  obtain ⟨c0, c1, c2⟩ := B2.out.cells
  by_cases hneg : S_ < 0
  · have d1 : decide (S_ < 0) = true := decide_eq_true hneg
    have HE := Lib.hid (HKE.out.trans (if_pos hneg))
    clear hneg
    go_wp2_with (first
      | (refine wpList_load_row rfl _ _ rfl x rfl 33 (cstC t half A n c) (0, 0) Tryd.underlying33 B2.out rfl rfl F2.out.1 ?_)
      | (refine wpList_store_row rfl _ _ _ rfl (x + 1) (cstC t half A n c) rfl rfl 33 ZCh Y2.out F2.out.1 F2.out.2.1 F2.out.2.2 ?_))
    refine bodyPost_ret (v := .tuple #[.agg (cstC t half A n c), .int .i64 ((4 : Nat) : Int)]) ?_ rfl (ERR.out 4 w2 HE.out (by decide) T2.out)
    exact results_ch Tryd.results14 _ _ (x + 1) _ _ rfl rfl (setRow_heap _ _ _ _ _ _ Y2.out) rfl
  have d1 : decide (S_ < 0) = false := decide_eq_false hneg
  have HKE2 := Lib.hid (HKE.out.trans (if_neg hneg))
  have RL2 := Lib.hid (RL.out w2 (HL.out.turn (N' := N) T2.out (fun _ h => h.elim) (fun _ _ h => h)).lstN)
  clear RL HKE
  go_wp2_with (first
      | (refine wpList_load_row rfl _ _ rfl x rfl 33 (cstC t half A n c) (0, 0) Tryd.underlying33 B2.out rfl rfl F2.out.1 ?_)
      | (go_at_call 36; refine stop ?_))
  unfold Stop
  refine RL2.out.mono ?_
  rintro r w3 ⟨rfl, hb3⟩
  have B3 := Lib.hid (B2.out.below hb3 (by have := HX2.out; omega))
  have Y3 := Lib.hid (show w3.heap[x + 1]? = some (.cells ZCh 33 (0, 0)) from (hb3.block (x + 1) (by have := HX2.out; omega)).trans Y2.out)
  have T3 := Lib.hid (T2.out.trans (of_turn hb3) (fun _ _ h => h))
  have BT3 := Lib.hid (BT2.out.below hb3)
  have HX3 := Lib.hid (show x + 2 ≤ w3.heap.size by have := HX2.out; have := hb3.size; omega)
  clear hb3 c0 c1 c2 RL2 B2 Y2 T2 BT2 HX2
  obtain ⟨c0, c1, c2⟩ := B3.out.cells
  by_cases hgt : F_ < S_
  · have d2 : decide (F_ < S_) = true := decide_eq_true hgt
    have HE := Lib.hid (HKE2.out.trans (if_pos hgt))
    clear hgt
    go_wp2_with (first
      | (refine wpList_load_row rfl _ _ rfl x rfl 33 (cstC t half A n c) (0, 0) Tryd.underlying33 B3.out rfl rfl F2.out.1 ?_)
      | (refine wpList_store_row rfl _ _ _ rfl (x + 1) (cstC t half A n c) rfl rfl 33 ZCh Y3.out F2.out.1 F2.out.2.1 F2.out.2.2 ?_))
    refine bodyPost_ret (v := .tuple #[.agg (cstC t half A n c), .int .i64 ((18 : Nat) : Int)]) ?_ rfl (ERR.out 18 w3 HE.out (by decide) T3.out)
    exact results_ch Tryd.results14 _ _ (x + 1) _ _ rfl rfl (setRow_heap _ _ _ _ _ _ Y3.out) rfl
  have d2 : decide (F_ < S_) = false := decide_eq_false hgt
  have HE := Lib.hid (HKE2.out.trans (if_neg hgt))
  have HKL2 := Lib.hid (HKL.out.trans (if_pos HE.out))
  clear HKE2 hgt ERR HKL
  have q3 := HL.out.turn (N' := fun i => (N i ∧ i < w.heap.size) ∨ i = x ∨ i = x + 1) T3.out (fun _ h => h.elim) (fun i hi h => by
    have := HX.out
    rcases h with h | h | h
    · exact h.1
    · omega
    · omega)
  obtain ⟨N2, hN2⟩ : ∃ N2 : Nat → Prop, N2 = fun i => (N i ∧ i < w.heap.size) ∨ i = x ∨ i = x + 1 := ⟨_, rfl⟩
  rw [← hN2] at q3
  have HN2 := Lib.hid hN2
  clear hN2
  obtain ⟨vs, tx, sx⟩ := q3.vals
  have TX := Lib.hid tx
  have SX := Lib.hid sx
  clear tx sx q3
  go_upto_region 6 with fail
  have one : ∀ u ∈ vs, u.oneCell' = true := fun u hu => by
    obtain ⟨k, hk, e⟩ := List.mem_iff_getElem.1 hu
    have hk2 : k < L.length := by have := TX.out.1; omega
    obtain ⟨Ai, ci, h1, -⟩ := TX.out.2 k L[k] (List.getElem?_eq_getElem hk2)
    rw [List.getElem?_eq_getElem hk] at h1
    injection h1 with h1
    rw [← e, h1]; rfl
  have xsl : vs.length = n := by rw [TX.out.1, ← HN.out]
  have ONE := Lib.hid one
  have XSL := Lib.hid xsl
  clear one xsl
  obtain ⟨z, hz⟩ : ∃ z, z = w3.heap.size := ⟨_, rfl⟩
  obtain ⟨w4, hw4⟩ : ∃ w', w' = w3.alloc (.cells #[] 36) := ⟨_, rfl⟩
  have t4 : Turn (fun _ => False) w3 w4 := by rw [hw4]; exact (Turn.refl _ _).alloc _
  have O4 := Lib.hid (show w4.ownsRow z 36 1 (.slice (some ⟨z, 0, none⟩) 0 0) 0 [] by rw [hw4, hz]; exact own_new w3 w3.heap.size 36 [] 0 rfl (Nat.le_refl _) (by unfold maxLen; omega))
  have SX4 := Lib.hid (SX.out.turn (N' := N2) t4 (fun _ h => h.elim) (fun _ _ h => h))
  have TX4 := Lib.hid (TX.out.turn (N' := fun k => N2 k ∨ z ≤ k) t4 (fun _ h => h.elim) (fun k hk h => h.elim id (fun h => by have h' : z ≤ k := h; omega)))
  have B4 := Lib.hid (B3.out.below (turn_stp' t4) (by have := HX3.out; omega))
  have Y4 := Lib.hid (t4.heap Y3.out (fun h => h))
  have T4 := Lib.hid (T3.out.trans t4 (fun _ _ h => h))
  have BT4 := Lib.hid (BT3.out.below (turn_stp' t4))
  have HS4 := Lib.hid (show z + 1 = w4.heap.size by rw [hw4, hz]; simp)
  have HZ := Lib.hid (show x + 2 ≤ z by have := HX3.out; omega)
  have c24 : (w3.alloc (.cells #[] 36)).cell? ⟨x, 2, none⟩ = some (.slice A n c) := by rw [← hw4]; exact B4.out.cells.2.2
  clear t4 SX TX B3 Y3 T3 BT3 HX3
  go_wp2_with (at_builtin; refine stop ?_)
  unfold Stop
  rw [← hw4, ← hz]
  clear hw4 hz c24 c0 c1 c2
  refine wpList_append_any_at (o := ⟨some 25, _, _, _, _, _⟩) rfl _ _ 31 rfl z 36 i0 (.slice none 0 0) 24 Tryd.underlying31 hi hz0 hz1 hz2 rfl (.slice (some ⟨z, 0, none⟩) 0 0) 0 [] rfl O4.out A n c vs rfl AC.out.1 XSL.out (fun k u hu => ?_) ONE.out (by unfold maxLen; omega) (by omega) (by have := HS4.out; omega) ?_
  · obtain ⟨ad, e, -, hc⟩ := SX4.out k u hu
    exact ⟨ad, e, hc⟩
  intro v5 w5 own5 gr5 at5
  rw [List.nil_append, Nat.zero_add] at own5
  obtain ⟨A5, c5, rfl, -, -, k5, a5⟩ := own_sl own5
  have t5 : Turn (fun k => z ≤ k) w4 w5 := (Turn.refl _ w4).grown gr5 (fun k _ e => (O4.out.lt k e.symm).1)
  have hn2z : ∀ k, N2 k → k < z := fun k h => by
    rw [HN2.out] at h
    have := HX.out
    have := HZ.out
    rcases h with h | h | h
    · omega
    · omega
    · omega
  have HNZ := Lib.hid hn2z
  have O5 := Lib.hid own5
  have O5L := Lib.hid (fun k (h : (Value.slice A5 n c5).ownBlock = some k) => own5.lt k h)
  have TX5 := Lib.hid (TX4.out.turn (N' := fun k => N2 k ∨ z ≤ k) t5 (fun k h => .inr h) (fun _ _ h => h))
  have B5 := Lib.hid (show CBx w5 x t half A n c from t5.heap B4.out (fun h => by have h' : z ≤ x := h; have := HZ.out; omega))
  have Y5 := Lib.hid (t5.heap Y4.out (fun h => by have h' : z ≤ x + 1 := h; have := HZ.out; omega))
  have T5 := Lib.hid (T4.out.trans t5 (fun k hk h => by have h' : z ≤ k := h; have := HZ.out; have := HX.out; omega))
  have BT5 := Lib.hid (HBW.out.below (turn_stp' T5.out))
  have HS5 := Lib.hid (show z + 1 ≤ w5.heap.size by have := HS4.out; have := t5.size; omega)
  clear own5 gr5 at5 t5 O4 SX4 TX4 B4 Y4 T4 BT4 HS4
  obtain ⟨w6, hw6⟩ : ∃ w', w' = w5.alloc (.cells #[] 5) := ⟨_, rfl⟩
  have t6 : Turn (fun _ => False) w5 w6 := by rw [hw6]; exact (Turn.refl _ _).alloc _
  obtain ⟨y, hy⟩ : ∃ y, y = w5.heap.size := ⟨_, rfl⟩
  have O6 := Lib.hid (show w6.ownsRow y 5 1 (.slice (some ⟨y, 0, none⟩) 0 0) 0 [] by rw [hw6, hy]; exact own_new w5 w5.heap.size 5 [] 0 rfl (Nat.le_refl _) (by unfold maxLen; omega))
  have OV6 := Lib.hid (own_turn t6 O5.out (fun _ _ h => h))
  have TX6 := Lib.hid (TX5.out.turn (N' := fun k => N2 k ∨ z ≤ k) t6 (fun _ h => h.elim) (fun _ _ h => h))
  have T6 := Lib.hid (T5.out.trans t6 (fun _ _ h => h))
  have B6 := Lib.hid (show CBx w6 x t half A n c from t6.heap B5.out (fun h => h))
  have Y6 := Lib.hid (t6.heap Y5.out (fun h => h))
  have BT6 := Lib.hid (BT5.out.below (turn_stp' t6))
  have HY := Lib.hid (show z + 1 ≤ y by rw [hy]; exact HS5.out)
  have HS6 := Lib.hid (show y + 1 = w6.heap.size by rw [hw6, hy]; simp)
  have O5L := Lib.hid (show ∀ k, (Value.slice A5 n c5).ownBlock = some k → z ≤ k ∧ k < y from fun k h => by rw [hy]; exact O5L.out k h)
  clear t6 O5 TX5 T5 B5 Y5 BT5 HS5
  obtain ⟨j0, ji, jz0, jz1, jz2⟩ := info_parts info_u8
  go_wp2_with (at_builtin; refine stop ?_)
  unfold Stop
  rw [← hw6, ← hy]
  clear hw6 hy
  refine wpList_append_any_at (o := ⟨some 28, _, _, _, _, _⟩) rfl _ _ 36 rfl y 5 j0 (.int .u8 0) 1 Tryd.underlying36 ji jz0 jz1 jz2 rfl (.slice (some ⟨y, 0, none⟩) 0 0) 0 [] rfl O6.out Ab lb cb (b.map bv) rfl ACB.out (by rw [List.length_map, ← HLB.out]) BT6.out (bv_one _) (by unfold maxLen; omega) (by omega) (by have := HS6.out; omega) ?_
  intro v7 w7 own7 gr7 at7
  rw [List.nil_append, Nat.zero_add] at own7
  obtain ⟨A7, c7, rfl, -, -, k7, a7⟩ := own_sl own7
  have t7 : Turn (fun k => y ≤ k) w6 w7 := (Turn.refl _ w6).grown gr7 (fun k _ e => (O6.out.lt k e.symm).1)
  have OV7 := Lib.hid (own_turn t7 OV6.out (fun k h h2 => by have h' : y ≤ k := h2; have := O5L.out k h; omega))
  have TX7 := Lib.hid (TX6.out.turn (N' := fun k => N2 k ∨ z ≤ k) t7 (fun k h => .inr (by have h' : y ≤ k := h; have := HY.out; omega)) (fun _ _ h => h))
  have B7 := Lib.hid (show CBx w7 x t half A n c from t7.heap B6.out (fun h => by have h' : y ≤ x := h; have := HY.out; have := HZ.out; omega))
  have Y7 := Lib.hid (t7.heap Y6.out (fun h => by have h' : y ≤ x + 1 := h; have := HY.out; have := HZ.out; omega))
  have T7 := Lib.hid (T6.out.trans t7 (fun k hk h => by have h' : y ≤ k := h; have := HY.out; have := HZ.out; have := HX.out; omega))
  have O7 := Lib.hid own7
  have A7C := Lib.hid (And.intro a7 k7)
  have HS7 := Lib.hid (show y + 1 ≤ w7.heap.size by have := HS6.out; have := t7.size; omega)
  clear own7 gr7 at7 t7 O6 OV6 TX6 T6 B6 Y6 BT6 HS6
  obtain ⟨w8, hw8⟩ : ∃ w', w' = w7.alloc (.cells #[.slice A7 lb c7] 36) := ⟨_, rfl⟩
  have t8 : Turn (fun _ => False) w7 w8 := by rw [hw8]; exact (Turn.refl _ _).alloc _
  have N8 := Lib.hid (show w8.heap[w7.heap.size]? = some (.cells #[.slice A7 lb c7] 36 (0, 0)) by rw [hw8]; exact heap_alloc_new _ _)
  have OV8 := Lib.hid (own_turn t8 OV7.out (fun _ _ h => h))
  have S8 := Lib.hid ((own_sln (N := fun k => N2 k ∨ (Value.slice A5 n c5).ownBlock = some k) O7.out (fun k h => by
    rcases h with h | h
    · have := HNZ.out k h; have := HY.out; omega
    · exact (O5L.out k h).2)).turn (N' := fun k => N2 k ∨ (Value.slice A5 n c5).ownBlock = some k) t8 (fun _ h => h.elim) (fun _ _ h => h))
  have tx8 := (TX7.out.turn (N' := fun k => N2 k ∨ (Value.slice A5 n c5).ownBlock = some k) t8 (fun _ h => h.elim) (fun k _ h => h.elim .inl (fun h => .inr (O5L.out k h).1))).add (x := b) (A := A7) (c := c7) (by rw [← HLB.out]; exact A7C.out.2) A7C.out.1 S8.out
  rw [← HLB.out] at tx8
  have TX8 := Lib.hid tx8
  clear tx8
  have T8 := Lib.hid (T7.out.trans t8 (fun _ _ h => h))
  have B8_ := Lib.hid (show CBx w8 x t half A n c from t8.heap B7.out (fun h => h))
  have Y8 := Lib.hid (t8.heap Y7.out (fun h => h))
  have HS8 := Lib.hid (show y + 1 ≤ w8.heap.size by have := HS7.out; have := t8.size; omega)
  obtain ⟨q, hq⟩ : ∃ q, q = w7.heap.size := ⟨_, rfl⟩
  rw [← hq] at N8
  clear t8 S8 TX7 T7 B7 Y7 OV7 O7 HS7
  go_wp2_with (at_builtin; refine stop ?_)
  unfold Stop
  rw [← hw8, ← hq]
  clear hw8 hq
  refine wpList_append_any_at (o := ⟨some 30, _, _, _, _, _⟩) rfl _ _ 31 rfl z 36 i0 (.slice none 0 0) 24 Tryd.underlying31 hi hz0 hz1 hz2 rfl (.slice A5 n c5) n vs rfl OV8.out (some ⟨q, 0, none⟩) 1 1 [.slice A7 lb c7] rfl (fun h => by cases h) rfl (fun k u hu => ⟨_, rfl, World.news_of_block (cs := #[.slice A7 lb c7]) N8.out k u hu⟩) (one_slice _ _ _) (by unfold maxLen; omega) (by omega) (by have := HS8.out; have := HY.out; omega) ?_
  intro v9 w9 own9 gr9 at9
  obtain ⟨A9, c9, rfl, -, -, k9, a9⟩ := own_sl own9
  have t9 : Turn (fun k => (Value.slice A5 n c5).ownBlock = some k) w8 w9 := (Turn.refl _ w8).grown gr9 (fun k _ e => e.symm)
  have Q9 := Lib.hid (show LstQ w9 N2 A9 (L ++ [b]) from (TX8.out.turn (N' := N2) t9 (fun _ h => .inr h) (fun _ _ h => .inl h)).lst (own_sln (N := N2) own9 (fun k h => HNZ.out k h)))
  have B9 := Lib.hid (show CBx w9 x t half A n c from t9.heap B8_.out (fun h => by have := (O5L.out x h).1; have := HZ.out; omega))
  have Y9 := Lib.hid (t9.heap Y8.out (fun h => by have := (O5L.out (x + 1) h).1; have := HZ.out; omega))
  have T9 := Lib.hid (T8.out.trans t9 (fun k hk h => by have := (O5L.out k h).1; have := HZ.out; have := HX.out; omega))
  clear own9 gr9 at9 t9 OV8 TX8 T8 B8_ Y8 HS8 N8
  obtain ⟨c0, c1, c2⟩ := B9.out.cells
  have z2 := frozen_of_row w9 x 2 _ _ B9.out
  obtain ⟨w10, hw10⟩ : ∃ w', w' = w9.setCell ⟨x, 2, none⟩ (.slice A9 (n + 1) c9) := ⟨_, rfl⟩
  have t10 : Turn (fun i => i = x) w9 w10 := by rw [hw10]; exact (Turn.refl _ _).setCell _ _ (fun _ => rfl)
  have B10 := Lib.hid (show CBx w10 x t half A9 (n + 1) c9 by unfold CBx; rw [hw10, heap_setCell_same w9 x 2 _ _ _ B9.out]; rfl)
  have Y10 := Lib.hid (t10.heap Y9.out (fun h => by have h' : x + 1 = x := h; omega))
  have T10 := Lib.hid (T9.out.trans t10 (fun k hk h => by have h' : k = x := h; have := HX.out; omega))
  have Q10 := Lib.hid (Q9.out.turn (N' := N2) t10 (fun k h => by rw [HN2.out]; exact .inr (.inl h)) (fun _ _ h => h))
  have F10 := Lib.hid (cst_facts t half A9 (n + 1) c9)
  clear t10 Q9 Y9 T9
  go_upto_region 7 with fail
  change Code.wp _ _ _ _ (w9.setCell ⟨x, 2, none⟩ (.slice A9 (n + 1) c9))
  rw [← hw10]
  clear hw10 c0 c1 c2 z2 B9
  obtain ⟨c0, c1, c2⟩ := B10.out.cells
  go_wp2_with (first
    | (refine wpList_load_row rfl _ _ rfl x rfl 33 (cstC t half A9 (n + 1) c9) (0, 0) Tryd.underlying33 B10.out rfl rfl F10.out.1 ?_)
    | (refine wpList_store_row rfl _ _ _ rfl (x + 1) (cstC t half A9 (n + 1) c9) rfl rfl 33 ZCh Y10.out F10.out.1 F10.out.2.1 F10.out.2.2 ?_))
  have ts : Turn (fun i => i = x + 1) w10 (w10.setRow (x + 1) (cstC t half A9 (n + 1) c9)) := (Turn.refl _ _).setRow _ _ (fun _ => rfl)
  have HP : ChPost N t half KL KE w (.returned (.tuple #[.agg (cstC t half A9 (n + 1) c9), .int .i64 ((0 : Nat) : Int)])) (w10.setRow (x + 1) (cstC t half A9 (n + 1) c9)) := by
    rw [HKL2.out, HE.out]
    refine ⟨A9, c9, by rw [List.length_append, ← HN.out]; rfl, Q10.out.turn ts (fun k h => by rw [HN2.out]; exact .inr (.inr h)) (fun k hk h => by rw [HN2.out]; exact .inl h), a9, by rw [List.length_append, ← HN.out]; exact k9, T10.out.trans ts (fun k hk h => by have h' : k = x + 1 := h; have := HX.out; omega)⟩
  refine bodyPost_ret (v := .tuple #[.agg (cstC t half A9 (n + 1) c9), .int .i64 ((0 : Nat) : Int)]) ?_ rfl HP
  exact results_ch Tryd.results14 _ _ (x + 1) _ _ rfl rfl (setRow_heap _ _ _ _ _ _ Y10.out) rfl
end
section
set_option linter.unusedVariables false
set_option linter.unusedSimpArgs false
open Go.RowKit
set_option maxRecDepth 100000
theorem own_stp {w w' : World} {B n : Nat} {e : TypeId} {v : Value} {xs : List Value} (ho : w.ownsRow B e 1 v n xs) (hs : Stp w w') : w'.ownsRow B e 1 v n xs := by
  obtain ⟨h1, h2⟩ := ho
  refine ⟨h1, ?_⟩
  rcases h2 with h2 | ⟨g', cap, cur, e', hg, hh, r⟩
  · exact .inl h2
  · exact .inr ⟨g', cap, cur, e', hg, (hs.block g' (lt_of_block hh)).trans hh, r⟩
/-- A text's copy, made from B on. -/
def CpyT (B : Nat) (b : List B8) (v : Value) (w : World) : Prop := ∃ A c, v = .slice A b.length c ∧ w.ownsRow B 5 1 v b.length (b.map bv)
theorem CpyT.stable (B : Nat) (b : List B8) (v : Value) (w w' : World) (h : CpyT B b v w) (hs : Stp w w') : CpyT B b v w' := by
  obtain ⟨A, c, e, ho⟩ := h
  exact ⟨A, c, e, own_stp ho hs⟩
theorem appendT (ty : TypeId) (B : Nat) (w : World) (v : Value) (h : Box0 B v w) (hB : B ≤ w.heap.size) (A : Option Addr) (c : Nat) (b : List B8) (hb : Bts w A b) (hA : A = none → c = 0) (hlb : b.length ≤ 900000) :
    ∃ v' w', (Builtin.append_ #[36, 36] ty #[v, .slice A b.length c]).run Tryd.prog w = .ok v' w' ∧ CpyT B b v' w' ∧ Stp w w' := by
  obtain ⟨g, hB0, rfl, hg⟩ := h
  obtain ⟨i, hi, hz, hs1, hby⟩ := info_parts info_u8
  have ho : w.ownsRow B 5 1 (.slice (some ⟨g, 0, none⟩) 0 0) 0 [] := ⟨rfl, .inr ⟨g, 0, #[], rfl, hB0, hg, Nat.le_refl _, by unfold maxLen; omega, rfl, rfl⟩⟩
  cases A with
  | none =>
    have hbe : b = [] := by
      cases b with
      | nil => rfl
      | cons x xs => obtain ⟨ad, e, -⟩ := hb 0 (bv x) rfl; cases e
    subst hbe
    obtain rfl := hA rfl
    have hr := run_append_owned_none (P := Tryd.prog) (w := w) B 36 ty 5 i 1 Tryd.underlying36 hi _ 0 [] ho
    exact ⟨_, w, hr, ⟨_, _, rfl, ho⟩, Below.refl _ _⟩
  | some ad =>
    have hn : ∀ j u, (b.map bv)[j]? = some u → w.cell? (ad.add j) = some u := fun j u hu => by
      obtain ⟨ad', e, hc⟩ := hb j u hu
      injection e with e; subst e; exact hc
    by_cases hp : b.length = 0
    · have hbe : b = [] := List.eq_nil_of_length_eq_zero hp
      subst hbe
      have hr := run_append_room (P := Tryd.prog) w 36 ty 5 i Tryd.underlying36 hi g 0 0 #[] hg ad 0 c [] (by simp) (by simp) (by simp) (by omega) (by simp)
      have e0 : ((#[] : Array Value).toList.take (0 * i.size) ++ [] ++ (#[] : Array Value).toList.drop (0 * i.size + ([] : List Value).length)).toArray = #[] := by simp
      rw [e0] at hr
      refine ⟨_, _, hr, ⟨_, _, rfl, ⟨rfl, .inr ⟨g, 0, #[], rfl, hB0, setRow_heap w g #[] #[] _ _ hg, Nat.le_refl _, by unfold maxLen; omega, rfl, rfl⟩⟩⟩, ⟨rfl, rfl, rfl, by simp, fun k hk => ?_⟩⟩
      by_cases hkg : k = g
      · subst hkg
        rw [setRow_heap w k #[] #[] _ _ hg, hg]
      · exact setRow_other w g k #[] hkg
    · have hl : (b.map bv).length = b.length := by simp
      obtain ⟨m, hm⟩ : ∃ m, m = b.length := ⟨_, rfl⟩
      rw [← hm] at hl hp hlb ⊢
      have hr := run_append_grow (P := Tryd.prog) w 36 ty 5 i (.int .u8 0) Tryd.underlying36 hi hz ⟨g, 0, none⟩ 0 0 [] (by simp) (by intro j u hu; simp at hu) ad m c (b.map bv) (by rw [hs1, hl]; omega) hn (by omega) (by omega) (growslice_fits (by omega) (by rw [hby]; omega))
      have hge := grownCap_ge w (0 + m) 0 5
      have hcm := grownCap_le_maxLen w (0 + m) 0 5 (by unfold maxLen; omega)
      refine ⟨_, _, hr, ⟨_, _, by rw [Nat.zero_add, hm], by rw [← hm]; simpa using hl, .inr ⟨w.heap.size, _, _, by rw [Nat.zero_add, hm], hB, heap_alloc_new w.drew _, by rw [← hm]; omega, hcm, ?_, ?_⟩⟩, ((Below.refl w.heap.size w).drew).alloc (Nat.le_refl _) _⟩
      · have hz32 : (Value.int IntKind.u8 0).cells.size = 1 := rfl
        simp only [Array.size_append, List.size_toArray, size_zeroCells, hz32]
        rw [← List.length_append, List.nil_append, hl]; omega
      · simp only [Array.toList_append, List.nil_append]
        rw [show b.length * 1 = (b.map bv).length by omega]
        exact List.take_left
/-- A list of one text, made from B on. -/
def SlT (B : Nat) (b : List B8) (v : Value) (w : World) : Prop := ∃ g X, B ≤ g ∧ v = .slice (some ⟨g, 0, none⟩) 1 1 ∧ w.heap[g]? = some (.cells #[X] 36 (0, 0)) ∧ CpyT B b X w
theorem SlT.stable (B : Nat) (b : List B8) (v : Value) (w w' : World) (h : SlT B b v w) (hs : Stp w w') : SlT B b v w' := by
  obtain ⟨g, X, h1, h2, h3, h4⟩ := h
  exact ⟨g, X, h1, h2, (hs.block g (lt_of_block h3)).trans h3, h4.stable B b X w w' hs⟩
def AggT (B : Nat) (b : List B8) (t half : Int) (v : Value) (w : World) : Prop := ∃ g, v = .agg (cstC t half (some ⟨g, 0, none⟩) 1 1) ∧ SlT B b (.slice (some ⟨g, 0, none⟩) 1 1) w
theorem AggT.stable (B : Nat) (b : List B8) (t half : Int) (v : Value) (w w' : World) (h : AggT B b t half v w) (hs : Stp w w') : AggT B b t half v w' := by
  obtain ⟨g, h1, h2⟩ := h
  exact ⟨g, h1, h2.stable B b _ w w' hs⟩
theorem SlT.lst {B : Nat} {b : List B8} {v : Value} {w : World} {N : Nat → Prop} (h : SlT B b v w) (hN : ∀ i, N i → i < B) : ∃ A, v = .slice A 1 1 ∧ (A = none → (1 : Nat) = 0) ∧ LstQ w N A [b] := by
  obtain ⟨g, X, h1, rfl, h3, A, c, rfl, ho⟩ := h
  obtain ⟨A', c', e, -, -, hc, hA⟩ := own_sl ho
  injection e with e1 e2 e3
  subst e1 e3
  refine ⟨_, rfl, (fun h => by cases h), fun i x hi => ?_⟩
  match i, hi with
  | 0, hi =>
    injection hi with hi
    subst hi
    exact ⟨_, A, c, rfl, fun h => by have := hN _ h; simp at this; omega, by rw [add_row, cell_of_row _ _ _ _ _ _ h3]; rfl, hc, hA, own_sln ho hN⟩
theorem build_slT1 (A : Option Addr) (n c : Nat) (w : World) : (Instr.buildSlice 31 1 #[(0, .slice A n c)]).run Tryd.prog w = .ok (.slice (some ⟨w.heap.size, 0, none⟩) 1 1) (w.alloc (.cells #[.slice A n c] 36)) := by
  obtain ⟨i0, hi, hz0, hz1, hz2⟩ := info_parts info_sl
  refine run_buildSlice w 31 36 1 _ _ i0 (.slice none 0 0) Tryd.underlying31 hi hz0 (by rw [hz1]; decide) (by rw [hz1]; decide) ?_
  rw [hz1]
  have e : ((Array.range (1 * 1)).map fun x => (Value.slice none 0 0).cells[x % (Value.slice none 0 0).cells.size]!) = #[.slice none 0 0] := by kernel_rfl
  rw [e]
  simp [Instr.fill, Value.cells]
theorem does_build_slT {o : Oper} {a : Act} {w : World} {R : Value → World → Prop} (x : Operand) (ho : o.op = .buildSlice 31 1 #[(0, x)]) (A : Option Addr) (n c : Nat) (hx : a.eval x = .slice A n c) (h : R (.slice (some ⟨w.heap.size, 0, none⟩) 1 1) (w.alloc (.cells #[.slice A n c] 36))) : doesR Tryd.prog o a w R := by
  unfold doesR execOp
  simp only [ho, List.map_toArray, List.map_cons, List.map_nil, hx, Sem.run_bind, build_slT1, Result.andThen_ok]
  exact h
theorem does_build_ch {o : Oper} {a : Act} {w : World} {R : Value → World → Prop} (x y z : Operand) (ho : o.op = .build 33 #[(0, x), (1, y), (2, z)]) (t half : Int) (hx : a.eval x = .int .i64 t) (hy : a.eval y = .int .i64 half) (g n c : Nat) (hz : a.eval z = .slice (some ⟨g, 0, none⟩) n c) (h : R (.agg (cstC t half (some ⟨g, 0, none⟩) n c)) w) : doesR Tryd.prog o a w R := by
  have hr : (execOp a.eval o).run Tryd.prog w = .ok (.value (.agg (cstC t half (some ⟨g, 0, none⟩) n c))) w := by
    unfold execOp
    simp only [ho, List.map_toArray, List.map_cons, List.map_nil, hx, hy, hz]
    kernel_rfl
  exact does_run hr h
end
section
set_option linter.unusedVariables false
set_option linter.unusedSimpArgs false
open Go.RowKit
set_option maxRecDepth 100000
theorem cpyT_turn {S : Nat → Prop} {B : Nat} {b : List B8} {v : Value} {w w' : World} (h : CpyT B b v w) (t : Turn S w w') (hS : ∀ k, S k → k < B) : CpyT B b v w' := by
  obtain ⟨A, c, rfl, ho⟩ := h
  refine ⟨A, c, rfl, own_turn t ho (fun g e hs => ?_)⟩
  have h1 := hS g hs
  rcases ho.2 with ⟨e0, -⟩ | ⟨g', c', cur, e0, hg, -⟩
  · rw [e0] at e; cases e
  · rw [e0] at e; injection e with e
    have e : g' = g := e
    omega
theorem slT_turn {S : Nat → Prop} {B : Nat} {b : List B8} {v : Value} {w w' : World} (h : SlT B b v w) (t : Turn S w w') (hS : ∀ k, S k → k < B) : SlT B b v w' := by
  obtain ⟨g, X, h1, h2, h3, h4⟩ := h
  exact ⟨g, X, h1, h2, t.heap h3 (fun h => by have := hS g h; omega), cpyT_turn h4 t hS⟩
theorem turn_stp {w w' : World} (t : Turn (fun _ => False) w w') : Stp w w' := ⟨t.os, t.tape, t.output, t.size, fun i hi => t.block i hi (fun h => h)⟩
theorem writeE_vals (d : Dr) (a : Int) (s : Sec) : d.writeE a s ≠ 4 ∧ d.writeE a s ≠ 18 := by
  unfold Dr.writeE Dr.readE
  refine ⟨?_, ?_⟩ <;> (repeat' split) <;> omega
theorem putR_vals : ∀ (l : List Sec) (d : Dr) (a : Nat), (putR d a l).2 ≠ 4 ∧ (putR d a l).2 ≠ 18
  | [], d, a => ⟨by show (0 : Nat) ≠ 4; omega, by show (0 : Nat) ≠ 18; omega⟩
  | s :: l, d, a => by
    rw [putR]
    split
    · exact writeE_vals d a s
    · exact putR_vals l _ _
theorem own_less {w : World} {base base' s n : Nat} {e : TypeId} {v : Value} {xs : List Value} (h : w.ownsRow base e s v n xs) (hb : base' ≤ base) : w.ownsRow base' e s v n xs := by
  obtain ⟨h1, h2⟩ := h
  refine ⟨h1, ?_⟩
  rcases h2 with h2 | ⟨g, c, cur, e, hg, r⟩
  · exact .inl h2
  · exact .inr ⟨g, c, cur, e, Nat.le_trans hb hg, r⟩
theorem cpyT_of {B : Nat} {b : List B8} {v : Value} {w : World} (h : w.ownsRow B 5 1 v b.length (b.map bv)) : CpyT B b v w := by
  obtain ⟨A, c, rfl, -⟩ := own_sl h
  exact ⟨A, c, rfl, h⟩
theorem cpyT_one {B : Nat} {b : List B8} {v : Value} {w : World} (h : CpyT B b v w) : v.oneCell' = true := by
  obtain ⟨A, c, rfl, -⟩ := h; rfl
/-- What a Keep comes to. -/
def KPost (g c n : Nat) (d : Dr) (k : Ck) (b : List B8) (D E : Nat → Prop) (w : World) (r : Ending) (w' : World) : Prop :=
  ∃ D' E', r = .returned (.int .i64 ((k.scr (n / 2)).putE d b : Int)) ∧ (∀ j, D' j → Dn D w w' j) ∧ (∀ j, E' j → Dn E w w' j) ∧ Turn (fun j => D j ∨ E j) w w' ∧
    (((k.scr (n / 2)).putE d b = 0 ∧ KAt w' g c n ((k.scr (n / 2)).putD d b) ⟨k.a, k.t, k.L ++ [b], k.p + secsOf (formV13 k.t k.L.length b)⟩ D' E') ∨
     ((k.scr (n / 2)).pre b ≠ 0 ∧ KAt w' g c n d k D' E') ∨
     ((k.scr (n / 2)).putE d b ≠ 0 ∧ (k.scr (n / 2)).pre b = 0 ∧ LD w' g n ((k.scr (n / 2)).putD d b) D' ∧ KGn w' c ∧ ¬ D' c ∧ c < w'.heap.size))
theorem ck_pre {k : Ck} {n : Nat} (h : k.Ok n) (b : List B8) : (k.scr (n / 2)).pre b = 0 ∨ (k.scr (n / 2)).pre b = 4 ∨ (k.scr (n / 2)).pre b = 18 := by
  have ht := h.t
  have hm := h.m
  unfold Scr.pre
  rw [if_neg (by simp [Ck.scr])]
  split
  · rename_i h1
    refine .inr (.inl ?_)
    show formE13 (k.t : Int) (k.L.length : Int) b = 4
    have h1 : formE13 (k.t : Int) (k.L.length : Int) b ≠ 0 := h1
    unfold formE13 mostS at *
    rw [if_neg (by omega)] at h1 ⊢
    split
    · rfl
    · rename_i h2; rw [if_neg h2] at h1; exact absurd rfl h1
  · split
    · exact .inr (.inr rfl)
    · exact .inl rfl
set_option maxHeartbeats 16000000 in
theorem kkeep_any (w : World) (g c n : Nat) (d : Dr) (k : Ck) (D E : Nat → Prop) (A : Option Addr) (cb : Nat) (b : List B8) (h : KAt w g c n d k D E) (hn : n ≤ 8192) (hs : SlN w (fun j => D j ∨ E j) A (b.map bv)) (hA : A = none → cb = 0) (hc : b.length ≤ cb) (hlen : b.length ≤ 900000) (hL : k.L.length < 1000000) (hW : d.W.length + 1024 < 10000) :
    Calls Tryd.prog 15 #[.pointer (some ⟨c, 0, none⟩), .slice A b.length cb] w (KPost g c n d k b D E w) := by
  obtain ⟨ld, ok, ⟨s, hd, Ah, ch, NV, o, vs, bx, sb, hL1, hh, hAh, hch, ho, hv, hsc, hEs, hNE⟩, hEc, two, dj, lt⟩ := h
  have hfin := ok.fin
  have hpre := ck_pre ok b
  have US := Lib.hid (kused_yes c g _ _ _ _ _ _ w bx)
  have sbE : SBp w s g (k.scr (n / 2)) (fun j => j = s) := sb
  have ats : Ats SBp w g s n d (k.scr (n / 2)) D (fun j => j = s) := ⟨ld, sb, fun j e => by subst e; exact dj _ hEs, fun j e => by subst e; exact lt _ hEs⟩
  have PU := Lib.hid (lput_any w g s n d (k.scr (n / 2)) D (fun j => j = s) A cb b ats hn (fun _ => ⟨ok.t, ok.p, hfin, by show k.L.length ≤ mostS; unfold mostS; omega⟩) (hs.turn (Turn.refl (fun _ => False) _) (fun _ h => h.elim) (fun j _ h => h.elim .inl (fun e => by subst e; exact .inr hEs))) hA hc hlen hW)
  obtain ⟨c0, c1, -⟩ := bx.cells
  have BX := Lib.hid bx
  have HO := Lib.hid ho
  have HV := Lib.hid hv
  have HH := Lib.hid (And.intro hAh hch)
  have HHS := Lib.hid hh
  have HL1 := Lib.hid hL1
  have HOK := Lib.hid ok
  have HDJ := Lib.hid dj
  have HLT := Lib.hid lt
  have HTWO := Lib.hid two
  have HNE := Lib.hid hNE
  have HSS := Lib.hid hs
  have HAC := Lib.hid (And.intro hA hc)
  have LDW := Lib.hid ld
  obtain ⟨sc, hsc0⟩ : ∃ x, x = k.scr (n / 2) := ⟨_, rfl⟩
  have hKP : KPost g c n d k b D E w = fun r w' => ∃ D' E', r = .returned (.int .i64 (sc.putE d b : Int)) ∧ (∀ j, D' j → Dn D w w' j) ∧ (∀ j, E' j → Dn E w w' j) ∧ Turn (fun j => D j ∨ E j) w w' ∧
    ((sc.putE d b = 0 ∧ KAt w' g c n (sc.putD d b) ⟨k.a, k.t, k.L ++ [b], k.p + secsOf (formV13 k.t k.L.length b)⟩ D' E') ∨ (sc.pre b ≠ 0 ∧ KAt w' g c n d k D' E') ∨ (sc.putE d b ≠ 0 ∧ sc.pre b = 0 ∧ LD w' g n (sc.putD d b) D' ∧ KGn w' c ∧ ¬ D' c ∧ c < w'.heap.size)) := by
    subst hsc0; rfl
  have hQQ := hKP
  clear hKP
  rw [← hsc0] at PU hpre
  have HSC := Lib.hid hsc0
  obtain ⟨PE, hPE⟩ : ∃ x, x = sc.putE d b := ⟨_, rfl⟩
  obtain ⟨PD, hPD⟩ : ∃ x, x = sc.putD d b := ⟨_, rfl⟩
  obtain ⟨PR, hPR⟩ : ∃ x, x = sc.pre b := ⟨_, rfl⟩
  have hE0 : PR ≠ 0 → PE = PR := fun h0 => by rw [hPE]; unfold Scr.putE; rw [if_pos (by rw [← hPR]; exact h0), ← hPR]
  have hD0 : PR ≠ 0 → PD = d := fun h0 => by rw [hPD]; unfold Scr.putD; rw [if_pos (by rw [← hPR]; exact h0)]
  have hS0 : ∀ s', PR ≠ 0 → sc.PutS d b s' → s' = sc := fun s' h0 hp => by unfold Scr.PutS at hp; rw [if_pos (by rw [← hPR]; exact h0)] at hp; exact hp
  have hS1 : ∀ s', PE = 0 → sc.PutS d b s' → s' = ⟨sc.pos + secsOf (sc.form b), sc.fin, sc.turn, sc.n + 1, false⟩ := fun s' h0 hp => by
    have hp0 : sc.pre b = 0 := by
      by_cases hq : sc.pre b = 0
      · exact hq
      · have := hE0 (by rw [hPR]; exact hq); rw [← hPR] at hq; omega
    unfold Scr.PutS at hp
    rw [if_neg (by rw [hp0]; simp)] at hp
    have ha : (sc.all d b).2 = 0 := by
      have h1 : sc.putE d b = (sc.all d b).2 := by unfold Scr.putE; rw [if_neg (by rw [hp0]; simp)]
      rw [← h1, ← hPE, h0]
    rw [if_pos ha] at hp
    exact hp
  rw [← hPE, ← hPD] at PU
  rw [← hPE, ← hPD, ← hPR] at hQQ
  have HQQ := Lib.hid hQQ
  rw [← hPR] at hpre
  have hPV : PR = 0 → PE ≠ 4 ∧ PE ≠ 18 := fun h0 => by
    rw [hPE]; unfold Scr.putE; rw [if_neg (by rw [← hPR, h0]; simp)]
    exact putR_vals _ _ _
  have hroom : PE = 0 → k.p + secsOf (formV13 k.t k.L.length b) ≤ k.fin (n / 2) := fun h0 => by
    have hp0 : sc.pre b = 0 := by
      by_cases hq : sc.pre b = 0
      · exact hq
      · have := hE0 (by rw [hPR]; exact hq); rw [← hPR] at hq; omega
    unfold Scr.pre at hp0
    split at hp0
    · cases hp0
    · split at hp0
      · rename_i h2; exact absurd hp0 h2
      · split at hp0
        · cases hp0
        · rename_i h3
          rw [hsc0] at h3
          have h3 : ¬ k.fin (n / 2) < k.p + secsOf (formV13 k.t k.L.length b) := h3
          omega
  have HPV := Lib.hid hPV
  have HROOM := Lib.hid hroom
  have HLL := Lib.hid hL
  have HLEN := Lib.hid hlen
  have HE0 := Lib.hid hE0
  have HD0 := Lib.hid hD0
  have HS0 := Lib.hid hS0
  have HS1 := Lib.hid hS1
  have HPR := Lib.hid hpre
  have hcs : c ≠ s := fun e => hsc e.symm
  have hcD : ¬ D c := dj c hEc
  clear hQQ hPV hroom hE0 hD0 hS0 hS1 hPE hPD hPR hpre hsc0 bx ho hv hAh hch hh hL1 ok dj lt two hNE hs hA hc ld ats sb sbE hfin
  obtain ⟨lb, hlb⟩ : ∃ l, l = b.length := ⟨_, rfl⟩
  rw [← hlb] at PU ⊢
  have HLB := Lib.hid hlb
  clear hlb
  go_enter Tryd.func15, Tryd.ntmps15
  go_wp2_with (first
    | (go_at_call 38; refine US.out.mono ?_; clear US; rintro r w1 ⟨rfl, hw⟩; rw [hw]; clear hw)
    | (go_at_call 39; refine stop ?_))
  unfold Stop
  refine PU.out.mono ?_
  rintro r wa ⟨D1, sc1, rfl, at1, ps1, hD1, t1⟩
  have hct : ¬ (D c ∨ c = s) := fun h => h.elim hcD hcs
  have B1 := Lib.hid (BX.out.turn t1 hct)
  have AT1 := Lib.hid at1
  have PS1 := Lib.hid ps1
  have HD1 := Lib.hid hD1
  have T1 := Lib.hid t1
  have NIN := Lib.hid (show ∀ j, j < w.heap.size → (D1 j ∨ E j) → (D j ∨ E j) from fun j hj h => h.elim (fun h => (hD1 j h).elim .inl (fun h => by have := h.1; omega)) .inr)
  have SIN := Lib.hid (show ∀ j, (D j ∨ j = s) → (D j ∨ E j) from fun j h => h.elim .inl (fun e => by subst e; exact .inr hEs))
  have HH1 := Lib.hid (HHS.out.turn (N' := fun j => D1 j ∨ E j) t1 SIN.out NIN.out)
  have V1 := Lib.hid (HV.out.turn (N' := fun j => D1 j ∨ E j) t1 SIN.out NIN.out)
  have O1 := Lib.hid (ownsO_turn HO.out t1 (fun j hj hh => by
    obtain ⟨e1, e2, e3⟩ := HNE.out j hj
    exact hh.elim (HDJ.out j e1) e2))
  have SS1 := Lib.hid (show SlN wa.drew (fun j => D1 j ∨ E j) A (b.map bv) from HSS.out.turn (N' := fun j => D1 j ∨ E j) t1.drew SIN.out NIN.out)
  have DJ1 := Lib.hid (show ∀ j, E j → ¬ D1 j from fun j hj hd => (hD1 j hd).elim (HDJ.out j hj) (fun h => by have := HLT.out j hj; have := h.1; omega))
  have LT1 := Lib.hid (show ∀ j, E j → j < wa.heap.size from fun j hj => Nat.lt_of_lt_of_le (HLT.out j hj) t1.size)
  have SZ1 := Lib.hid t1.size
  have T1E := Lib.hid (show Turn (fun j => D j ∨ E j) w wa from t1.mono (fun j _ h => SIN.out j h))
  clear PU BX HO HV HHS HSS c0 c1 at1 ps1 hD1 t1
  have HPEV := Lib.hid (show PR = 0 → PE ≠ 4 ∧ PE ≠ 18 from fun h => HPV.out h)
  by_cases h0 : PE = 0
  rotate_left 1
  · have d0 : ((PE : Int) == 0) = false := by rw [beq_eq_false_iff_ne]; omega
    by_cases hp : PR = 0
    · -- an error of the drum
      have hv := HPEV.out hp
      have d4 : ((PE : Int) == 4) = false := by rw [beq_eq_false_iff_ne]; omega
      have d18 : ((PE : Int) == 18) = false := by rw [beq_eq_false_iff_ne]; omega
      have EN := Lib.hid (kends_any c _ _ _ _ _ (PE : Int) _ _ wa B1.out)
      have HP := Lib.hid (And.intro h0 hp)
      clear h0 hp hv
      go_wp2_with (go_at_call 41; refine stop ?_)
      unfold Stop
      refine EN.out.mono ?_
      rintro r w2 ⟨rfl, b2, t2⟩
      have B2 := Lib.hid b2
      have T2 := Lib.hid t2
      clear EN b2 t2
      go_wp2
      go_ret
      rw [HQQ.out]
      refine ⟨D1, E, rfl, fun j hj => (HD1.out j hj).elim .inl (fun h => .inr ⟨h.1, Nat.lt_of_lt_of_le h.2 T2.out.size⟩), fun j hj => .inl hj, T1E.out.trans T2.out (fun j _ e => by have e : j = c := e; subst e; exact .inr hEc), .inr (.inr ⟨HP.out.1, HP.out.2, AT1.out.ld.keep T2.out (fun j hj e => by have e : j = c := e; subst e; exact DJ1.out _ hEc hj) (fun j e => by have e : j = c := e; subst e; exact HTWO.out _ hEc), ⟨_, _, _, _, _, _, B2.out⟩, fun hd => DJ1.out c hEc hd, Nat.lt_of_lt_of_le (LT1.out c hEc) T2.out.size⟩)⟩
    · -- refused ahead of the drum
      have e1 := HE0.out hp
      have e2 := HD0.out hp
      have e3 := HS0.out _ hp PS1.out
      have LDD := AT1.out.ld
      have SBB := AT1.out.sb
      rw [e2] at LDD
      rw [e3, HSC.out] at SBB
      have KA := Lib.hid (show KAt wa g c n d k D1 E from ⟨LDD, HOK.out, ⟨s, hd, Ah, ch, NV, o, vs, B1.out, SBB, HL1.out, HH1.out, HH.out.1, HH.out.2, O1.out, V1.out, hsc, hEs, HNE.out⟩, hEc, HTWO.out, DJ1.out, LT1.out⟩)
      have HP := Lib.hid hp
      rcases HPR.out with h | h | h
      · exact absurd h hp
      · rw [h] at e1
        have d4 : ((PE : Int) == 4) = true := by rw [beq_iff_eq]; omega
        clear h0 hp e2 e3 LDD SBB h e1
        go_wp2
        go_ret
        rw [HQQ.out]
        exact ⟨D1, E, rfl, HD1.out, fun j hj => .inl hj, T1E.out, .inr (.inl ⟨HP.out, KA.out⟩)⟩
      · rw [h] at e1
        have d4 : ((PE : Int) == 4) = false := by rw [beq_eq_false_iff_ne]; omega
        have d18 : ((PE : Int) == 18) = true := by rw [beq_iff_eq]; omega
        clear h0 hp e2 e3 LDD SBB h e1
        go_wp2
        go_ret
        rw [HQQ.out]
        exact ⟨D1, E, rfl, HD1.out, fun j hj => .inl hj, T1E.out, .inr (.inl ⟨HP.out, KA.out⟩)⟩
  have d0 : ((PE : Int) == 0) = true := by rw [beq_iff_eq]; omega
  have e3 := HS1.out _ h0 PS1.out
  have LD1 := Lib.hid AT1.out.ld
  have SB1 := Lib.hid (show SBp wa s g ⟨k.p + secsOf (formV13 k.t k.L.length b), k.fin (n / 2), k.t, k.L.length + 1, false⟩ (fun j => j = s) from by
    have h1 := AT1.out.sb
    rw [e3, HSC.out] at h1
    exact h1)
  have H0 := Lib.hid h0
  clear h0 e3 AT1 PS1 HE0 HD0 HS0 HS1 HPEV HPV HPR
  obtain ⟨AN, cN, eN, hvl, hnc, hcm, hAN, hcells, hlt⟩ := ownsO_sl O1.out
  obtain ⟨q0, q1, q2, q3, q4, q5, q6, q7, q8, q9⟩ := B1.out.cells
  obtain ⟨m, hm⟩ : ∃ m, m = k.L.tail.length := ⟨_, rfl⟩
  rw [← hm] at eN O1 hvl hnc
  have HM := Lib.hid hm
  have hrowc : NV.ownBlock ≠ some c := fun e => (HNE.out c e).2.2 rfl
  have HB : ∀ q, NV.ownBlock = some q → q < wa.heap.size := hlt
  have HBr := Lib.hid HB
  have HRS : ∀ (u : Value) (w1 w2 : World), CpyT wa.heap.size b u w1 → Turn (fun q => NV.ownBlock = some q) w1 w2 → CpyT wa.heap.size b u w2 := fun u w1 w2 h t => cpyT_turn h t (fun q e => HB q e)
  have hcap : ∀ q n' cR, NV = .slice (some ⟨q, o, none⟩) n' cR → cR = cN := fun q n' cR e => by rw [eN] at e; injection e with _ _ e; exact e.symm
  have hml : m ≤ 1000000 := by have := HOK.out.m; have h2 : k.L.tail.length ≤ k.L.length := by simp; 
                               omega
  have EN := Lib.hid eN
  have HCAP := Lib.hid hcap
  have VL := Lib.hid hvl
  clear eN hcap hcells hlt hvl hm hnc hcm hAN
  go_upto_region 7 with fail
  have S27 : ∀ (v : Value) (w1 w2 : World), CpyT wa.heap.size b v w1 → ApO 36 o m cN NV.ownBlock vs (CpyT wa.heap.size b) w1 w2 → CpyT wa.heap.size b v w2 := fun v w1 w2 h hs => HRS v w1 w2 h hs.t
  have S28 : ∀ (v : Value) (w1 w2 : World), SlT wa.heap.size b v w1 → ApO 36 o m cN NV.ownBlock vs (CpyT wa.heap.size b) w1 w2 → SlT wa.heap.size b v w2 := fun v w1 w2 h hs => slT_turn h hs.t (fun q e => HB q e)
  refine wp_region_rel_tail 11 36 (by kernel_rfl) (by kernel_rfl) (ApO 36 o m cN NV.ownBlock vs (CpyT wa.heap.size b)) [.one ?_, .one ?_, .one ?_, .one ?_, .one ?_, .one ?_, .rel (CpyT wa.heap.size b), .rel (SlT wa.heap.size b), .rel (ApdO 36 o m cN wa.heap.size NV.ownBlock vs (CpyT wa.heap.size b)), .one ?_, .one ?_] (by kernel_rfl) rfl (by kernel_rfl) ApO.refl (ApO.trans HRS) ⟨S27, S28, ApdO.stable HRS HB, trivial⟩ ?main
  case main =>
  simp only [List.take_succ_cons, List.take_zero, List.drop_succ_cons, List.drop_zero]
  iterate 4
    refine wpR_one (A' := ?_) ApO.refl (by rfl) _ rfl 36 (by rfl) (by rfl) ?_ ?_ ?_
    rotate_left 1
    · simp only [Act.put, List.setIfInBounds_toArray, List.set_cons_zero, List.set_cons_succ]; rfl
    · intro w1 hs hf K hK
      go_big_quiet_op
      first
        | go_big_quiet_on
        | (refine ⟨_, fun _ _ => rfl, ?_⟩; go_big_quiet_on)
      rfl
  refine wpR_one (A' := ?_) ApO.refl (by rfl) _ rfl 36 (by rfl) (by rfl) ?_ ?_ ?_
  rotate_left 1
  · simp only [Act.put, List.setIfInBounds_toArray, List.set_cons_zero, List.set_cons_succ]; rfl
  · intro w1 hs hf K hK
    refine cls_load_cell 31 (.tmp 24) rfl ⟨c, 9, none⟩ rfl NV (fun w h => by rw [EN.out] at h ⊢; simp [go_sem, h]) (fun w2 h2 => (ApO.trans HRS _ _ _ hs h2).cell (show wa.drew.cell? _ = _ from q9) hrowc) ?_
    refine hK _ ?_
    simp only [Act.put, List.setIfInBounds_toArray, List.set_cons_zero, List.set_cons_succ]
    rfl
  refine wpR_one (A' := ?_) ApO.refl (by rfl) _ rfl 36 (by rfl) (by rfl) ?_ ?_ ?_
  rotate_left 1
  · simp only [Act.put, List.setIfInBounds_toArray, List.set_cons_zero, List.set_cons_succ]; rfl
  · intro w1 hs hf K hK
    go_big_quiet_op
    first
      | go_big_quiet_on
      | (refine ⟨_, fun _ _ => rfl, ?_⟩; go_big_quiet_on)
    rfl
  refine wpR_rel (A' := ?_) (by rfl) ?_ ?_ ?_
  · intro w1 hs hf
    refine does_call (w' := w1) (f := 40) (args := #[.slice A lb cb]) (by kernel_rfl) ((clone_at A cb lb (fun j => D1 j ∨ E j) b w1 (SS1.out.turn hs.t (fun q e => .inr (HNE.out q e).1) (fun _ _ h => h)) HLB.out.symm HAC.out.1 (by rw [HLB.out]; exact HAC.out.2) (by rw [HLB.out]; have := HLEN.out; omega)).mono ?_)
    rintro r w2 ⟨v, rfl, ho2, t2⟩
    rw [HLB.out] at ho2
    have hB1 : wa.heap.size ≤ w1.heap.size := hs.t.size
    exact ⟨v, rfl, cpyT_of (own_less ho2 hB1), ApO.of_turn t2 (fun q e => Nat.lt_of_lt_of_le (HBr.out q e) hB1)⟩
  rotate_left 1
  · intro x
    simp only [Act.put, List.setIfInBounds_toArray, List.set_cons_zero, List.set_cons_succ]; rfl
  intro x27
  refine wpR_rel (A' := ?_) (by rfl) ?_ ?_ ?_
  · intro w1 hs hf
    obtain ⟨A27, c27, e27, ho27⟩ := AllF_at hf 0 rfl (by kernel_rfl)
    have e27 : x27 = .slice A27 b.length c27 := e27
    have ho27 : w1.ownsRow wa.heap.size 5 1 x27 b.length (b.map bv) := ho27
    rw [e27] at ho27
    have hB1 : wa.heap.size ≤ w1.heap.size := hs.t.size
    have tt : Turn (fun _ => False) w1 (w1.alloc (.cells #[.slice A27 b.length c27] 36)) := (Turn.refl _ _).alloc _
    refine does_build_slT (.tmp 27) rfl A27 b.length c27 (by rw [← e27]; rfl) ⟨⟨_, _, hB1, rfl, heap_alloc_new _ _, ⟨A27, c27, rfl, own_turn tt ho27 (fun _ _ h => h)⟩⟩, ApO.of_turn tt (fun q e => Nat.lt_of_lt_of_le (HBr.out q e) hB1)⟩
  rotate_left 1
  · intro x
    simp only [Act.put, List.setIfInBounds_toArray, List.set_cons_zero, List.set_cons_succ]; rfl
  intro x28
  refine wpR_rel (A' := ?_) (by rfl) ?_ ?_ ?_
  · intro w1 hs hf
    obtain ⟨g28, X28, hB28, e28, hh28, hc28⟩ := AllF_at hf 0 rfl (by kernel_rfl)
    obtain ⟨i, hi, hz, hs1, hby⟩ := info_parts info_sl
    have hB1 : wa.heap.size ≤ w1.heap.size := hs.t.size
    have hrow := hs.keepRow (base := 0) (v := NV) (show ownsO wa.drew 0 _ o NV m vs from ownsO_base O1.out (Nat.zero_le _)) rfl HCAP.out
    obtain ⟨v', w', hr, h3, h4⟩ := run_apO (P := Tryd.prog) (B := wa.heap.size) 31 31 i _ 24 Tryd.underlying31 hi hz hs1 hby rfl HRS w1 NV hrow rfl HCAP.out (fun q e => Nat.lt_of_lt_of_le (HBr.out q e) hB1) hB1 ⟨g28, 0, none⟩ 1 X28 (fun j x hj => by
      match j, hj with
      | 0, hj => injection hj with hj; subst hj; rw [Addr.add_lit, cell_of_row _ _ _ _ _ _ hh28]; rfl) (cpyT_one hc28) hc28 (by unfold maxLen; omega) (by omega)
    exact does_append _ _ _ _ _ v' rfl rfl e28 hr ⟨h3, h4⟩
  rotate_left 1
  · intro x
    simp only [Act.put, List.setIfInBounds_toArray, List.set_cons_zero, List.set_cons_succ]; rfl
  intro x29
  iterate 2
    refine wpR_one (A' := ?_) ApO.refl (by rfl) _ rfl 36 (by rfl) (by rfl) ?_ ?_ ?_
    rotate_left 1
    · simp only [Act.put, List.setIfInBounds_toArray, List.set_cons_zero, List.set_cons_succ]; rfl
    · intro w1 hs hf K hK
      go_big_quiet_op
      first
        | go_big_quiet_on
        | (refine ⟨_, fun _ _ => rfl, ?_⟩; go_big_quiet_on)
      rfl
  intro w9 hs hf
  obtain ⟨⟨u, o9, hu, ho9, hx9, hv9⟩, -⟩ := hf
  obtain ⟨g9, c9, rfl, hb9⟩ : ∃ g' c', x29 = .slice (some ⟨g', o9, none⟩) (m + 1) c' ∧ (NV.ownBlock = some g' ∨ wa.heap.size ≤ g') := by
    rcases hv9 with ⟨q, e, rfl, rfl⟩ | ⟨q, cq, hq, rfl⟩
    · exact ⟨q, _, rfl, .inl e⟩
    · exact ⟨q, cq, rfl, .inr hq⟩
  have B9 := Lib.hid (KBox.turn (w := wa.drew) B1.out hs.t (fun e => hrowc e))
  obtain ⟨-, -, -, -, -, -, -, -, -, p9⟩ := B9.out.cells
  have z9 := B9.out.frozen 9
  have T9 := Lib.hid (show Turn (fun q => NV.ownBlock = some q) wa w9 from ⟨hs.t.os, hs.t.tape, hs.t.output, hs.t.size, hs.t.block⟩)
  have HO9 := Lib.hid ho9
  have HU := Lib.hid hu
  clear hs hv9 ho9 hx9 hu q0 q1 q2 q3 q4 q5 q6 q7 q8 q9 S27 S28 HRS
  go_wp2
  go_ret
  have hne9 : g9 ≠ c := by
    rcases hb9 with e | e
    · intro e2; exact hrowc (by rw [e, e2])
    · have := LT1.out c hEc; omega
  have hne9s : g9 ≠ s := by
    rcases hb9 with e | e
    · intro e2; subst e2; exact (HNE.out _ e).2.1 rfl
    · have := LT1.out s hEs; omega
  have hD9 : ¬ D1 g9 := by
    rcases hb9 with e | e
    · exact DJ1.out _ (HNE.out _ e).1
    · intro h; have := LD1.out.lt _ h; omega
  have TC : Turn (fun q => q = c) w9 (w9.setCell ⟨c, 9, none⟩ (.slice (some ⟨g9, o9, none⟩) (m + 1) c9)) := (Turn.refl (fun q => q = c) w9).setCell ⟨c, 9, none⟩ _ (fun _ => rfl)
  have TZ : Turn (fun q => q = c ∨ NV.ownBlock = some q) wa (w9.setCell ⟨c, 9, none⟩ (.slice (some ⟨g9, o9, none⟩) (m + 1) c9)) := (T9.out.mono (fun _ _ h => .inr h)).trans TC (fun _ _ h => .inl h)
  have hZE : ∀ q, (q = c ∨ NV.ownBlock = some q) → E q := fun q h => h.elim (fun e => by subst e; exact hEc) (fun e => (HNE.out q e).1)
  have hZs : ¬ (s = c ∨ NV.ownBlock = some s) := fun h => h.elim hsc (fun e => (HNE.out s e).2.1 rfl)
  have ho10 := ownsO_turn HO9.out TC (fun q hq e => by injection hq with hq; have e : q = c := e; exact hne9 (hq.trans e))
  have hlt9 : g9 < (w9.setCell ⟨c, 9, none⟩ (.slice (some ⟨g9, o9, none⟩) (m + 1) c9)).heap.size := (ownsO_sl ho10).choose_spec.choose_spec.2.2.2.2.2.2 g9 rfl
  have hcp := cpyT_turn HU.out TC (fun q e => by have e : q = c := e; subst e; exact LT1.out _ hEc)
  obtain ⟨Au, cu, rfl, hou⟩ := hcp
  obtain ⟨Au', cu', eu, -, -, hcu, hau⟩ := own_sl hou
  injection eu with eu1 eu2 eu3
  subst eu1 eu3
  have hNin : ∀ j, j < wa.heap.size → (D1 j ∨ (E j ∨ j = g9)) → (D1 j ∨ E j) := fun j hj h => by
    rcases h with h | h | h
    · exact .inl h
    · exact .inr h
    · subst h
      rcases hb9 with e | e
      · exact .inr (HNE.out _ e).1
      · omega
  have htx : SlN (w9.setCell ⟨c, 9, none⟩ (.slice (some ⟨g9, o9, none⟩) (m + 1) c9)) (fun j => D1 j ∨ (E j ∨ j = g9)) Au (b.map bv) := by
    intro j x hj
    rcases hou.2 with ⟨-, h00⟩ | ⟨gu, cpu, curu, eu, hgu, hhu, hnu, hcu2, hsu, htu⟩
    · have : b = [] := List.eq_nil_of_length_eq_zero h00
      subst this; simp at hj
    · injection eu with eu1 eu2 eu3
      refine ⟨_, eu1, fun h => ?_, ?_⟩
      · have h : D1 gu ∨ (E gu ∨ gu = g9) := h
        rcases h with h | h | h
        · have := LD1.out.lt _ h; omega
        · have := LT1.out _ h; omega
        · subst h
          rcases ho10.2 with ⟨e, -⟩ | ⟨g', cp', cur', e, -, hh', -⟩
          · cases e
          · injection e with e; injection e with e; injection e with e
            subst e
            rw [hhu] at hh'
            injection hh' with hh'
            injection hh' with _ hh'
            exact absurd hh' (by decide)
      · rw [Addr.add_lit, cell_of_row _ _ _ _ _ _ hhu]
        have hj2 := (List.getElem?_eq_some_iff.1 hj).1
        rw [List.length_map] at hj2
        rw [← htu, List.getElem?_take, if_pos (by omega)] at hj
        rw [← Array.getElem?_toList, Nat.zero_add]
        exact hj
  have hv10 : TxtV (w9.setCell ⟨c, 9, none⟩ (.slice (some ⟨g9, o9, none⟩) (m + 1) c9)) (fun j => D1 j ∨ (E j ∨ j = g9)) (k.L.tail ++ [b]) (vs ++ [.slice Au b.length cu]) :=
    (V1.out.turn TZ (fun q h => .inr (hZE q h)) hNin).add hcu hau htx
  have htl : (k.L ++ [b]).tail = k.L.tail ++ [b] := by rw [HL1.out]; rfl
  have hlen2 : (k.L.tail ++ [b]).length = m + 1 := by rw [List.length_append, ← HM.out]; rfl
  rw [HQQ.out]
  refine ⟨D1, fun j => E j ∨ j = g9, (by rw [H0.out]; rfl), fun j hj => (HD1.out j hj).elim .inl (fun h => .inr ⟨h.1, Nat.lt_of_lt_of_le h.2 TZ.size⟩), fun j hj => ?_, T1E.out.trans TZ (fun q _ h => .inr (hZE q h)), .inl ⟨H0.out, ⟨LD1.out.keep TZ (fun q hq h => DJ1.out q (hZE q h) hq) (fun q h => HTWO.out q (hZE q h)), ⟨HOK.out.a, HOK.out.t, ?_, ?_, ?_, ?_⟩, ⟨s, hd, Ah, ch, _, o9, vs ++ [.slice Au b.length cu], B9.out.set9 _, ?_, ?_, HH1.out.turn TZ (fun q h => .inr (hZE q h)) hNin, HH.out.1, HH.out.2, ?_, ?_, hsc, .inl hEs, ?_⟩, .inl hEc, ?_, ?_, ?_⟩⟩⟩
  · rcases hj with h | h
    · exact .inl h
    · subst h
      rcases hb9 with e | e
      · exact .inl (HNE.out _ e).1
      · exact .inr ⟨by have := SZ1.out; omega, hlt9⟩
  · exact HROOM.out H0.out
  · show 1 ≤ (k.L ++ [b]).length
    simp
  · show (k.L ++ [b]).length ≤ 1000000
    rw [List.length_append, List.length_singleton]; have := HLL.out; omega
  · intro x hx
    rcases List.mem_append.1 hx with hx | hx
    · exact HOK.out.b x hx
    · simp at hx; rw [hx]; exact HLEN.out
  · show SBp _ s g (Scr.mk (k.p + secsOf (formV13 k.t k.L.length b)) (k.fin (n / 2)) k.t (k.L ++ [b]).length false) _
    rw [List.length_append, List.length_singleton]
    exact sbp_keep SB1.out TZ (fun q e => by subst e; exact hZs)
  · show k.L ++ [b] = hd :: (k.L ++ [b]).tail
    rw [htl, ← List.cons_append, ← HL1.out]
  · show ownsO _ 2 _ o9 _ (k.L ++ [b]).tail.length _
    rw [htl, hlen2]
    refine ⟨ho10.1, ?_⟩
    rcases ho10.2 with ⟨e, -⟩ | ⟨g', cp', cur', e, -, r⟩
    · cases e
    · refine .inr ⟨g', cp', cur', e, ?_, r⟩
      injection e with e; injection e with e; injection e with e
      rw [← e]
      rcases hb9 with e | e
      · exact HTWO.out _ (HNE.out _ e).1
      · have h2 := HTWO.out c hEc; have := LT1.out c hEc; omega
  · show TxtV _ _ (k.L ++ [b]).tail _
    rw [htl]; exact hv10
  · intro q hq
    injection hq with hq
    have hq : g9 = q := hq
    subst hq
    exact ⟨.inr rfl, hne9s, hne9⟩
  · intro j hj
    rcases hj with h | h
    · exact HTWO.out j h
    · subst h
      rcases hb9 with e | e
      · exact HTWO.out _ (HNE.out _ e).1
      · have h2 := HTWO.out c hEc; have := LT1.out c hEc; omega
  · intro j hj
    rcases hj with h | h
    · exact DJ1.out j h
    · subst h; exact hD9
  · intro j hj
    rcases hj with h | h
    · exact Nat.lt_of_lt_of_le (LT1.out j h) TZ.size
    · subst h; exact hlt9
end
end Go.Proofs.YtfiopkehpcipdaaDoor
