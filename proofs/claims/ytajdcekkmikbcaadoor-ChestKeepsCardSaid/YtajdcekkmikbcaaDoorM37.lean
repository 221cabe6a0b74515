/- Merged: The record with which bytes begin: its contract. The landed scroll: what stands against a stretch, its bytes, its records. -/
import Derived.Test.YtajdcekkmikbcaaDoorM36
import Derived.Test.YtajdcekkmikbcaaDoorM33
namespace Go.Proofs.YtajdcekkmikbcaaDoor
section
set_option linter.unusedVariables false
set_option linter.unusedSimpArgs false
open Go.RowKit
set_option maxRecDepth 100000
def ZRd : Array Value := #[.int .i64 0, .int .i64 0, .slice none 0 0]
theorem results_first {fn : Func} {p u z : Tmp} (h : fn.results = #[.cell p 124, .tmp u, .tmp z]) (tmps : Array Value) (w : World) (g : Nat) (cs : Array Value) (v v' : Value)
    (hp : tmps.getD p undef = .pointer (some ⟨g, 0, none⟩)) (hv : tmps.getD u undef = v) (hv' : tmps.getD z undef = v') (hg : w.heap[g]? = some (.cells cs 124 (0, 0))) (hc : cs.size = 3) :
    (results fn tmps).run Tryd.prog w = .ok (.tuple #[.agg cs, v, v']) w := by
  have e : (results fn tmps).run Tryd.prog w = ((asAddr (tmps.getD p undef)).run Tryd.prog w).andThen fun a w₁ => ((loadVar 124 a).run Tryd.prog w₁).andThen fun v w₂ => .ok (.tuple #[v, tmps.getD u undef, tmps.getD z undef]) w₂ := by
    simp only [results, h]
    simp [Sem.run_bind, Result.andThen]
  rw [e, hp, hv, hv']
  simp [asAddr, run_loadVar_row w g 124 124 cs (0, 0) _ hg Tryd.underlying124 rfl (by rw [hc]; kernel_rfl), Result.andThen]
/-- What the first record comes to. -/
def LfPost (l : List B8) (w : World) (r : Ending) (w' : World) : Prop := (match readS l with
  | none => r = .returned (.tuple #[.agg ZRd, .int .i64 0, .bool false])
  | some x => ∃ A' c', r = .returned (.tuple #[.agg #[.int .i64 (x.t : Int), .int .i64 (x.n : Int), .slice A' x.b.length c'], .int .i64 ((64 * x.size : Nat) : Int), .bool true]) ∧ SlN w' (fun k => k < w.heap.size) A' (x.b.map bv) ∧ (A' = none → c' = 0) ∧ x.b.length ≤ c') ∧ Turn (fun _ => False) w w'
theorem lf_none {l : List B8} {w w' : World} (h : readS l = none) (t : Turn (fun _ => False) w w') : LfPost l w (.returned (.tuple #[.agg ZRd, .int .i64 0, .bool false])) w' := by
  unfold LfPost; rw [h]; exact ⟨rfl, t⟩
theorem fldK_len {f : List B8} (h : fldE f = 0) : fldK f ≤ (fldT f).length := by
  unfold fldE at h
  split at h
  · omega
  · split at h
    · omega
    · unfold eText at h
      split at h
      · omega
      · split at h
        · omega
        · split at h
          · omega
          · rename_i h3
            unfold fldK fldT; omega
set_option maxHeartbeats 16000000 in
theorem lfirst_any (A : Option Addr) (c : Nat) (l : List B8) (w : World) (hG : Glob w) (hs : Sl w w.heap.size A (l.map bv)) (hA : A = none → c = 0) (hc : l.length ≤ c) (hlen : l.length ≤ 1000000) :
    Calls Tryd.prog 72 #[.slice A l.length c] w (LfPost l w) := by
  have KR := Lib.hid (show (Tryd.prog.info? 124).map (·.size) = some ZRd.size ∧ ZRd.all (·.oneCell') = true from ⟨by kernel_rfl, by simp [ZRd, Value.oneCell']⟩)
  obtain ⟨w1, hw1⟩ : ∃ w1, w1 = w.alloc (.cells ZRd 124) := ⟨_, rfl⟩
  have t1 : Turn (fun _ => False) w w1 := by rw [hw1]; exact (Turn.refl _ _).alloc _
  have HR1 := Lib.hid (show w1.heap[w.heap.size]? = some (.cells ZRd 124 (0, 0)) by rw [hw1]; exact heap_alloc_new _ _)
  have S1 : w.heap.size < w1.heap.size := by rw [hw1]; simp
  have T1 := Lib.hid t1
  have SL := Lib.hid hs
  have HG := Lib.hid hG
  have AC := Lib.hid (And.intro hA hc)
  have NONE := Lib.hid (fun (w' : World) (h : readS l = none) (t : Turn (fun _ => False) w w') => lf_none h t)
  obtain ⟨n, hn⟩ : ∃ n, n = l.length := ⟨_, rfl⟩
  rw [← hn] at hlen hc ⊢
  have HNL := Lib.hid hn
  clear hs hA t1 hn hG
  go_enter Tryd.func72, Tryd.ntmps72
  go_upto_region 1 with fail
  change Code.wp _ _ _ _ (w.alloc (.cells ZRd 124))
  rw [← hw1]
  clear hw1
  by_cases h64 : n < 64
  · have NO := Lib.hid (readS_short (l := l) (by have := endS_pos l; have := HNL.out; omega))
    have d64 : decide ((n : Int) < 64) = true := decide_eq_true (by omega)
    clear h64
    go_wp2_with (refine wpList_store_row rfl _ _ _ rfl w.heap.size ZRd rfl rfl _ ZRd HR1.out KR.out.1 rfl KR.out.2 ?_)
    refine bodyPost_ret (v := .tuple #[.agg ZRd, .int .i64 0, .bool false]) ?_ rfl (NONE.out _ NO.out (turn_zero T1.out _))
    exact results_first Tryd.results72 _ _ w.heap.size _ _ _ rfl rfl rfl (setRow_heap _ _ _ _ _ _ HR1.out) rfl
  have d64 : decide ((n : Int) < 64) = false := decide_eq_false (by omega)
  obtain ⟨ad, rfl⟩ : ∃ ad, A = some ad := by
    obtain ⟨x, hx⟩ : ∃ x, (l.map bv)[0]? = some x := ⟨_, List.getElem?_eq_getElem (by rw [List.length_map, ← HNL.out]; omega)⟩
    obtain ⟨ad, e, -⟩ := SL.out 0 x hx
    exact ⟨ad, e⟩
  have SH : ∀ w, (Instr.slice 36 (.slice (some ad) n c) none (some (.int .i64 4)) none).run Tryd.prog w = .ok (.slice (some ad) 4 c) w := fun w => slice_hi (some ad) n c 4 (by omega) hc w
  go_upto_region 5 with fail
  obtain ⟨w2, hw2⟩ : ∃ w2, w2 = w1.alloc (.cells #[.int .i64 0] 3) := ⟨_, rfl⟩
  change Code.wp _ _ _ _ (w1.alloc (.cells #[.int .i64 0] 3))
  obtain ⟨g, hg⟩ : ∃ g, g = w1.heap.size := ⟨_, rfl⟩
  have t2 : Turn (fun _ => False) w1 w2 := by rw [hw2]; exact (Turn.refl _ _).alloc _
  have G2 := Lib.hid (show w2.heap[g]? = some (.cells #[.int .i64 0] 3 (0, 0)) by rw [hw2, hg]; exact heap_alloc_new _ _)
  have R2 := Lib.hid (t2.heap HR1.out (fun h => h))
  have T2 := Lib.hid (T1.out.trans t2 (fun _ _ h => h))
  have HGE := Lib.hid (show w.heap.size < g by omega)
  rw [← hw2, ← hg]
  clear hw2 hg t2 HR1 T1
  go_loopw [20] (fun iv wr => ∃ k : Nat, k ≤ 4 ∧ iv = .int .i64 (k : Int) ∧ wr.heap[g]? = some (.cells #[.int .i64 (valB (l.take k) : Int)] 3 (0, 0)) ∧ Turn (fun i => i = g) w2 wr) (fun iv _ => 4 - (intOf iv).toNat)
  case atStart => exact ⟨0, by omega, rfl, by simpa [valB] using G2.out, Turn.refl _ _⟩
  case round =>
    obtain ⟨k, hk, rfl, hb, ht⟩ := hrel
    by_cases h4 : k < 4
    · have hkn : k < l.length := by have := HNL.out; omega
      have hv := valB_lt (l.take k)
      rw [List.length_take, Nat.min_eq_left (by omega)] at hv
      have hp : 256 ^ k ≤ 256 ^ 3 := Nat.pow_le_pow_right (by omega) (by omega)
      have h3 : (256 : Nat) ^ 3 = 16777216 := rfl
      have hq := valB_take l k hkn
      obtain ⟨ad', e, hlt, hcl⟩ := SL.out k (bv l[k]) (by rw [List.getElem?_map, List.getElem?_eq_getElem hkn]; rfl)
      injection e with e
      subst e
      have htt : Turn (fun _ => False) w wr := T2.out.trans ht (fun i hi h => by have h' : i = g := h; have := HGE.out; omega)
      have hcell : wr.cell? (ad.add k) = some (.int .u8 ((l[k]).toNat : Int)) := htt.cell hcl (fun h => h)
      obtain ⟨x, hx⟩ : ∃ x, x = l[k] := ⟨_, rfl⟩
      rw [← hx] at hq hcell
      have hx8 := x.isLt
      obtain ⟨V, hV⟩ : ∃ V, V = valB (l.take k) := ⟨_, rfl⟩
      rw [← hV] at hv hq hb
      have hor := or_low64 V x.toNat hx8 (by omega)
      have cb : wr.cell? ⟨g, 0, none⟩ = some (.int .i64 (V : Int)) := by rw [cell_of_row _ _ _ _ _ _ hb]; rfl
      have zb := frozen_of_row wr g 0 _ _ hb
      have HB := Lib.hid hb
      have HT := Lib.hid ht
      have HQ := Lib.hid hq
      have hV6 : V < 16777216 := by omega
      clear hb ht hq hv hV hx hcl htt
      go_wp2
      go_roundw
      case rel =>
        refine ⟨k + 1, by omega, by go_num, ?_, HT.out.setCell _ _ (fun _ => rfl)⟩
        rw [heap_setCell_same _ _ _ _ _ _ HB.out, HQ.out]; rfl
      case measure => simp [intOf]; omega
    · obtain rfl : k = 4 := by omega
      have htt : Turn (fun _ => False) w wr := T2.out.trans ht (fun i hi h => by have h' : i = g := h; have := HGE.out; omega)
      have hL := lenS_lt l
      obtain ⟨LL, hLL⟩ : ∃ L, L = lenS l := ⟨_, rfl⟩
      have G3 := Lib.hid (show wr.heap[g]? = some (.cells #[.int .i64 (LL : Int)] 3 (0, 0)) by rw [hLL]; exact hb)
      have R3 := Lib.hid (ht.heap R2.out (fun h => by have h' : w.heap.size = g := h; have := HGE.out; omega))
      have T3 := Lib.hid htt
      have cb : wr.cell? ⟨g, 0, none⟩ = some (.int .i64 (LL : Int)) := by rw [cell_of_row _ _ _ _ _ _ G3.out]; rfl
      have hsz := whole_end l
      obtain ⟨Q, hQ⟩ : ∃ Q, Q = (12 + LL + 63) / 64 := ⟨_, rfl⟩
      rw [← hLL] at hL hsz
      rw [← hQ] at hsz
      have WH := wholes_any (12 + LL) (by omega) wr
      rw [← hQ, show ((12 + LL : Nat) : Int) = 12 + (LL : Int) by omega] at WH
      have WH := Lib.hid WH
      have HQ := Lib.hid hQ
      have HLL := Lib.hid hLL
      have HSZ := Lib.hid hsz
      have hQ9 : Q ≤ 100000000 := by omega
      clear hb ht htt G2 R2 T2 hQ hLL hsz
      go_wp2_with (go_at_call 66; refine stop ?_)
      unfold Stop
      refine WH.out.mono ?_
      rintro r w3 ⟨rfl, hw3⟩
      rw [hw3]
      clear WH hw3 w3
      by_cases hbig : min (n : Int) 65536 < (Q : Int) * 64
      · have dbig : decide (min (n : Int) 65536 < (Q : Int) * 64) = true := decide_eq_true hbig
        have NO := Lib.hid (readS_short (l := l) (by have := HSZ.out; have := HLL.out; have := HNL.out; have := HQ.out; omega))
        clear hbig
        go_wp2_with (refine wpList_store_row rfl _ _ _ rfl w.heap.size ZRd rfl rfl _ ZRd R3.out KR.out.1 rfl KR.out.2 ?_)
        refine bodyPost_ret (v := .tuple #[.agg ZRd, .int .i64 0, .bool false]) ?_ rfl (NONE.out _ NO.out (turn_zero T3.out _))
        exact results_first Tryd.results72 _ _ w.heap.size _ _ _ rfl rfl rfl (setRow_heap _ _ _ _ _ _ R3.out) rfl
      have dbig : decide (min (n : Int) 65536 < (Q : Int) * 64) = false := decide_eq_false hbig
      have hin : ¬ (l.length < 12 ∨ 65524 < lenS l ∨ l.length < endS l) := by have := HSZ.out; have := HLL.out; have := HNL.out; have := HQ.out; omega
      have hLn : 12 + LL ≤ n := by have := HSZ.out; have := HQ.out; have := HNL.out; have := HLL.out; omega
      have hL6 : LL ≤ 65524 := by have := HLL.out; omega
      have hQn : 64 * Q ≤ n := by omega
      have HIN := Lib.hid hin
      clear hbig hin
      obtain ⟨wq, hwq⟩ : ∃ wq, wq = wr.alloc (.cells ZRd 124) := ⟨_, rfl⟩
      obtain ⟨x, hx⟩ : ∃ x, x = wr.heap.size := ⟨_, rfl⟩
      have tq : Turn (fun _ => False) wr wq := by rw [hwq]; exact (Turn.refl _ _).alloc _
      have sq : wq.heap.size = x + 1 := by rw [hwq, hx]; simp
      have hgx : g < x := by rw [hx]; exact lt_of_block G3.out
      have X4 : RBx wq x 0 0 (.slice none 0 0) := by rw [hwq, hx]; exact heap_alloc_new _ _
      have HX4 := Lib.hid X4
      have cg := tq.cell cb (fun h => h)
      have R4 := Lib.hid (tq.heap R3.out (fun h => h))
      have T4 := Lib.hid (T3.out.trans tq (fun _ _ h => h))
      obtain ⟨f, hf⟩ : ∃ f, f = bodyS l := ⟨_, rfl⟩
      have hfl : f.length = LL := by rw [hf]; unfold bodyS; rw [List.length_take, List.length_drop, ← HLL.out, ← HNL.out]; omega
      have hfs : SlN wq (fun i => i = x) (some (ad.add 12)) (f.map bv) := by
        have h0 := (SlN.of SL.out (N := fun i => w.heap.size ≤ i) (fun i hi h => by have h' : w.heap.size ≤ i := h; omega)).turn (N' := fun i => i = x) T4.out (fun _ h => h.elim) (fun i _ h => by have h' : i = x := h; have := HGE.out; show w.heap.size ≤ i; omega)
        have h1 := (h0.cut c 12 (by rw [List.length_map, ← HNL.out]; exact hc)).take LL
        rw [if_neg (by omega), ← List.map_drop, ← List.map_take, Option.map_some] at h1
        rw [hf]; unfold bodyS; rw [← HLL.out]; exact h1
      have TRD := read_cap2 85 (.pointer (some ⟨x, 0, none⟩)) (.pointer (some ⟨g, 0, none⟩)) (some (ad.add 12)) (c - 12) f wq (fun i => i = wq.heap.size + 1 ∨ i = wq.heap.size ∨ i = x) (fun i => i = x)
        (fun l' w3 => fldE f = 0 ∧ l' = (fldT f).drop (fldK f) ∧ (∃ A c, RBx w3 x (numV f) (numV (numR f)) (.slice A (fldK f) c) ∧ SlN w3 (fun i => i < wq.heap.size + 4) A (((fldT f).take (fldK f)).map bv) ∧ (A = none → c = 0) ∧ fldK f ≤ c) ∧ Turn (fun i => i = x) wq w3)
        (fun k w3 => fldE f = k ∧ Turn (fun i => i = x) wq w3) (fun _ _ => by kernel_rfl) hfs (fun h => by cases h) (by rw [hfl]; omega) (by rw [hfl]; omega) (by omega)
        (by
          intro w1 t1 s1 e1
          refine (first1_any (wq.heap.size + 1) wq.heap.size x g LL _ f w1 e1 (fun i hi => .inr (by omega)) (X4.turn t1 (fun h => h)) (t1.cell cg (fun h => h)) hfl.symm hL6 (by omega) (by omega) (by omega) (by omega) (.inl rfl)).mono ?_
          rintro r w3 (⟨hz, rfl, ⟨A3, c3, h1, h2, h3, h4⟩, he, ht⟩ | ⟨hz, rfl, he, ht⟩)
          · exact ⟨ht.mono (fun i _ h => by omega), .inl ⟨rfl, _, he, hz, rfl, ⟨A3, c3, h1, h2.turn (Turn.refl (fun _ => False) _) (fun _ h => h.elim) (fun i _ h => by have h' : i < wq.heap.size + 4 := h; show i < w1.heap.size; omega), h3, h4⟩, (t1.mono (fun _ _ h => h.elim)).trans ht (fun i hi h => by omega)⟩⟩
          · exact ⟨ht.mono (fun i _ h => by omega), .inr ⟨rfl, _, hz, he, rfl, (t1.mono (fun _ _ h => h.elim)).trans ht (fun i hi h => by omega)⟩⟩)
      rw [hfl] at TRD
      have TRD := Lib.hid TRD
      have SHB : ∀ w, (Instr.slice 36 (.slice (some ad) n c) (some (.int .i64 12)) (some (.int .i64 (12 + (LL : Int)))) none).run Tryd.prog w = .ok (.slice (some (ad.add 12)) LL (c - 12)) w := fun w => by
        rw [run_slice_lh (P := Tryd.prog) w 36 (some ad) n c (by kernel_rfl) .i64 .i64 12 (12 + (LL : Int)) (by omega) (by omega) (by omega)]
        rw [show Tryd.prog.elem 36 = 5 by kernel_rfl, size_u8]
        simp only [Result.andThen, sliced, Nat.mul_one]
        rw [show ((12 : Int)).toNat = 12 from rfl, show (12 + (LL : Int)).toNat = 12 + LL by omega, if_neg (by omega), Option.map_some, Nat.add_sub_cancel_left]
      have hmf : ∀ (fn : Fn) (first cap : Array Value) (w : World), (Instr.makeFunc fn first cap).run Tryd.prog w = .ok (.func fn first cap) w := fun _ _ _ _ => rfl
      have HF := Lib.hid hf
      have HFL := Lib.hid hfl
      have HSQ := Lib.hid sq
      clear X4 hf hfl hfs cg R3 T3
      go_upto_region 13 with fail
      change Code.wp _ _ _ _ (wr.alloc (.cells ZRd 124))
      rw [← hwq, ← hx]
      have cb : wq.cell? ⟨g, 0, none⟩ = some (.int .i64 (LL : Int)) := tq.cell cb (fun h => h)
      clear hwq hx tq sq
      go_wp2_with (go_at_call 84; refine stop ?_)
      unfold Stop
      refine TRD.out.mono ?_
      rintro r w4 ⟨w3, ht4, (⟨l', ⟨hz, rfl, ⟨A3, c3, hx3, hs3, a3, k3⟩, ht3⟩, rfl⟩ | ⟨k, hk, ⟨hz, ht3⟩, rfl⟩)⟩
      · have hsq := HSQ.out
        have T5 := Lib.hid (show Turn (fun _ => False) w w4 from (T4.out.trans ht3 (fun i hi h => by have h' : i = x := h; have := HGE.out; omega)).trans ht4 (fun i hi h => by have h' : i = wq.heap.size + 1 := h; have := T4.out.size; omega))
        have R5 := Lib.hid (ht4.heap (ht3.heap R4.out (fun h => by have h' : w.heap.size = x := h; have := HGE.out; omega)) (fun h => by have h' : w.heap.size = wq.heap.size + 1 := h; have := HGE.out; omega))
        have X5 := Lib.hid (hx3.turn ht4 (fun h => by have h' : x = wq.heap.size + 1 := h; omega))
        have S5 := Lib.hid (hs3.turn (N' := fun i => i < wq.heap.size + 4) ht4 (fun i h => by have h' : i = wq.heap.size + 1 := h; show i < wq.heap.size + 4; omega) (fun _ _ h => h))
        have HZ := Lib.hid hz
        have W5 := Lib.hid (show w.heap.size < w4.heap.size by have := T5.out.size; have := lt_of_block R5.out; omega)
        clear ht3 ht4 hx3 hs3 TRD R4 T4 cb hz
        by_cases hd : (fldT f).drop (fldK f) = []
        case neg =>
          have NO := Lib.hid (readS_fld (l := l) (.inr (by rw [← HF.out]; exact hd)))
          have hif : (if (fldT f).drop (fldK f) = [] then (0 : Int) else 3) = 3 := if_neg hd
          rw [hif]
          clear hif hd
          go_wp2_with (refine wpList_store_row rfl _ _ _ rfl w.heap.size ZRd rfl rfl _ ZRd R5.out KR.out.1 rfl KR.out.2 ?_)
          refine bodyPost_ret (v := .tuple #[.agg ZRd, .int .i64 0, .bool false]) ?_ rfl (NONE.out _ NO.out (turn_zero T5.out _))
          exact results_first Tryd.results72 _ _ w.heap.size _ _ _ rfl rfl rfl (setRow_heap _ _ _ _ _ _ R5.out) rfl
        have hif : (if (fldT f).drop (fldK f) = [] then (0 : Int) else 3) = 0 := if_pos hd
        rw [hif]
        obtain ⟨hb1, hb2, hb3⟩ := fld_back HZ.out hd
        have hkl := fldK_len HZ.out
        obtain ⟨x', hx'⟩ : ∃ y, y = (fldT f).take (fldK f) := ⟨_, rfl⟩
        have hxl : x'.length = fldK f := by rw [hx', List.length_take]; omega
        obtain ⟨K1, hK1⟩ : ∃ K, K = numV f := ⟨_, rfl⟩
        obtain ⟨K2, hK2⟩ : ∃ K, K = numV (numR f) := ⟨_, rfl⟩
        rw [← hx', ← hK1, ← hK2] at hb1
        rw [← hx'] at S5
        rw [← hK1] at hb2
        rw [← hK2] at hb3
        rw [← hxl, ← hK1, ← hK2] at X5
        rw [← hxl] at k3
        have hfl : (fldS K1 K2 x').length = LL := by rw [← hb1]; exact HFL.out
        have hx9 : x'.length ≤ LL := by rw [← hfl]; simp [fldS]; omega
        have he : formE13 (K1 : Int) (K2 : Int) x' = 0 := formE_ok hb2 hb3 (by omega)
        have hv : formV13 (K1 : Int) (K2 : Int) x' = formS K1 K2 x' := (formV_ok he).1
        have LF := lform_any (K1 : Int) (K2 : Int) A3 c3 x' w4 (glob_turn HG.out T5.out) (Bts.of_sl S5.out.sl) a3 k3 (by omega)
        rw [he, hv] at LF
        obtain ⟨FF, hFF⟩ : ∃ F, F = formS K1 K2 x' := ⟨_, rfl⟩
        rw [← hFF] at LF
        obtain ⟨m, hm⟩ : ∃ m, m = FF.length := ⟨_, rfl⟩
        rw [← hm] at LF
        have LF := Lib.hid LF
        obtain ⟨mx, hmx⟩ : ∃ m, m = x'.length := ⟨_, rfl⟩
        rw [← hmx] at LF X5 k3
        have tl : (l.take (64 * Q)).length = 64 * Q := by rw [List.length_take, ← HNL.out]; omega
        have YES : FF = l.take (64 * Q) → readS l = some ⟨K1, K2, Q, x'⟩ := fun e => by
          have h := first_yes (x := x') HIN.out (by rw [← HF.out]; exact HZ.out) (by rw [← HF.out]; exact hx'.symm) (by rw [← HF.out]; exact hd) (by rw [← HF.out, ← hK1, ← hK2, ← hFF, e, ← HSZ.out])
          rw [← HF.out, ← hK1, ← hK2] at h
          rw [h, ← HSZ.out, Nat.mul_div_cancel_left _ (by omega)]
        have NOT : FF ≠ l.take (64 * Q) → readS l = none := fun e => first_no (x := x') (by rw [← HF.out]; exact hx'.symm) (by rw [← HF.out, ← hK1, ← hK2, ← hFF, ← HSZ.out]; exact e)
        have YES := Lib.hid YES
        have NOT := Lib.hid NOT
        have HM := Lib.hid hm
        have HMX := Lib.hid hmx
        have TL := Lib.hid tl
        have A3c := Lib.hid (And.intro a3 k3)
        obtain ⟨c0, c1, c2, -, -, -⟩ := X5.out.cells
        have SHQ : ∀ w, (Instr.slice 36 (.slice (some ad) n c) none (some (.int .i64 ((Q : Int) * 64))) none).run Tryd.prog w = .ok (.slice (some ad) (64 * Q) c) w := fun w => by
          rw [show (Q : Int) * 64 = ((64 * Q : Nat) : Int) by omega]; exact slice_hi (some ad) n c (64 * Q) (by omega) hc w
        have K1b := Lib.hid (show K1 ≤ 1099511627776 from hb2)
        clear hif hd hb1 hb2 hb3 hkl hx' hxl hK1 hK2 hfl hx9 he hv hFF hm hmx tl a3 k3
        go_wp2_with (go_at_call 43; refine stop ?_)
        unfold Stop
        refine LF.out.mono ?_
        rintro r w6 ⟨A6, c6, rfl, s6, a6, k6, t6⟩
        have T6 := Lib.hid (T5.out.trans t6 (fun _ _ h => h))
        have R6 := Lib.hid (t6.heap R5.out (fun h => h))
        have X6 := Lib.hid (X5.out.turn t6 (fun h => h))
        have S6 := Lib.hid (S5.out.turn (N' := fun i => i < wq.heap.size + 4) t6 (fun _ h => h.elim) (fun _ _ h => h))
        have BE := bequal_any A6 (some ad) c6 c w6.heap.size w6.heap.size FF (l.take (64 * Q)) w6 s6.sl a6 (by rw [← HM.out]; exact k6) (by rw [List.map_take]; exact ((SlN.of SL.out (N := fun _ => False) (fun _ _ h => h)).turn (N' := fun _ => False) T6.out (fun _ h => h) (fun _ _ h => h)).sl.take _) AC.out.1 (by rw [TL.out]; omega)
        rw [← HM.out, TL.out] at BE
        have BE := Lib.hid BE
        clear s6 a6 k6 t6 LF R5 X5 S5 T5 c0 c1 c2
        go_wp2_with (go_at_call 88; refine stop ?_)
        unfold Stop
        refine BE.out.mono ?_
        rintro r w7 ⟨rfl, hw7⟩
        rw [← hw7]
        clear BE hw7 w7
        by_cases heq : FF = l.take (64 * Q)
        case neg =>
          have NO := Lib.hid (NOT.out heq)
          have dq : decide (FF = l.take (64 * Q)) = false := decide_eq_false heq
          rw [dq]
          clear dq heq
          go_wp2_with (refine wpList_store_row rfl _ _ _ rfl w.heap.size ZRd rfl rfl _ ZRd R6.out KR.out.1 rfl KR.out.2 ?_)
          refine bodyPost_ret (v := .tuple #[.agg ZRd, .int .i64 0, .bool false]) ?_ rfl (NONE.out _ NO.out (turn_zero T6.out _))
          exact results_first Tryd.results72 _ _ w.heap.size _ _ _ rfl rfl rfl (setRow_heap _ _ _ _ _ _ R6.out) rfl
        have RS := Lib.hid (YES.out heq)
        have dq : decide (FF = l.take (64 * Q)) = true := decide_eq_true heq
        rw [dq]
        clear dq heq YES NOT
        obtain ⟨C, hC⟩ : ∃ C : Array Value, C = #[.int .i64 (K1 : Int), .int .i64 (K2 : Int), .slice A3 mx c3] := ⟨_, rfl⟩
        have X7 := Lib.hid (show w6.heap[x]? = some (.cells C 124 (0, 0)) by rw [hC]; exact X6.out)
        have C1 := Lib.hid (show (Tryd.prog.info? 124).map (·.size) = some C.size by rw [hC]; kernel_rfl)
        have C2 := Lib.hid (show ZRd.size = C.size by rw [hC]; rfl)
        have C3 := Lib.hid (show C.all (·.oneCell') = true by rw [hC]; simp [Value.oneCell'])
        have HC := Lib.hid hC
        clear hC X6
        go_wp2_with (first
          | (refine wpList_load_row rfl _ _ rfl x rfl _ C (0, 0) _ X7.out Tryd.underlying124 rfl C1.out ?_)
          | (refine wpList_store_row rfl _ _ _ rfl w.heap.size C rfl rfl _ ZRd R6.out C1.out C2.out C3.out ?_))
        have tz : Turn (fun i => i = w.heap.size) w6 (w6.setRow w.heap.size C) := (Turn.refl _ _).setRow _ _ (fun _ => rfl)
        have hsz : w.heap.size < wq.heap.size + 4 := by have := HSQ.out; have := HGE.out; omega
        refine bodyPost_ret (v := .tuple #[.agg C, .int .i64 ((Q : Int) * 64), .bool true]) ?_ rfl ?_
        · exact results_first Tryd.results72 _ _ w.heap.size _ _ _ rfl rfl rfl (setRow_heap _ _ _ _ _ _ R6.out) (by rw [HC.out]; rfl)
        · unfold LfPost
          rw [RS.out]
          refine ⟨⟨A3, c3, ?_, S6.out.turn tz (fun i h => by have h' : i = w.heap.size := h; show i < wq.heap.size + 4; omega) (fun i _ h => by have h' : i < w.heap.size := h; show i < wq.heap.size + 4; omega), A3c.out.1, by show x'.length ≤ c3; rw [← HMX.out]; exact A3c.out.2⟩, turn_zero T6.out _⟩
          show Ending.returned (.tuple #[.agg C, .int .i64 ((Q : Int) * 64), .bool true]) = .returned (.tuple #[.agg #[.int .i64 (K1 : Int), .int .i64 (K2 : Int), .slice A3 x'.length c3], .int .i64 ((64 * Q : Nat) : Int), .bool true])
          rw [HC.out, ← HMX.out, show (Q : Int) * 64 = ((64 * Q : Nat) : Int) by omega]
      · have hsq := HSQ.out
        have NO := Lib.hid (readS_fld (l := l) (.inl (by rw [← HF.out, hz]; exact hk)))
        have T5 := Lib.hid (show Turn (fun _ => False) w w4 from (T4.out.trans ht3 (fun i hi h => by have h' : i = x := h; have := HGE.out; omega)).trans ht4 (fun i hi h => by have h' : i = wq.heap.size + 1 := h; have := T4.out.size; omega))
        have R5 := Lib.hid (ht4.heap (ht3.heap R4.out (fun h => by have h' : w.heap.size = x := h; have := HGE.out; omega)) (fun h => by have h' : w.heap.size = wq.heap.size + 1 := h; have := HGE.out; omega))
        have hk1 : ((k : Int) == 0) = false := by simp; omega
        have hk2 : ((k : Int) != 0) = true := by simp; omega
        clear ht3 ht4 hz TRD R4 T4 hk cb
        go_wp2_with (refine wpList_store_row rfl _ _ _ rfl w.heap.size ZRd rfl rfl _ ZRd R5.out KR.out.1 rfl KR.out.2 ?_)
        refine bodyPost_ret (v := .tuple #[.agg ZRd, .int .i64 0, .bool false]) ?_ rfl (NONE.out _ NO.out (turn_zero T5.out _))
        exact results_first Tryd.results72 _ _ w.heap.size _ _ _ rfl rfl rfl (setRow_heap _ _ _ _ _ _ R5.out) rfl
end
section
set_option linter.unusedVariables false
set_option linter.unusedSimpArgs false
open Go.RowKit
set_option maxRecDepth 100000
theorem make_cap (n : Nat) (hn : n ≤ 1000000) (w : World) : (Instr.makeSlice 36 (.int .i64 0) (.int .i64 (n : Int))).run Tryd.prog w = .ok (.slice (some ⟨w.heap.size, 0, none⟩) 0 n) (w.alloc (.cells ((zeros n).map bv).toArray 5)) := by
  obtain ⟨i0, hi, hz0, hz1, hz2⟩ := info_parts info_u8
  have := run_makeSlice (P := Tryd.prog) (w := w) 36 5 i0 (.int .u8 0) Tryd.underlying36 hi hz0 .i64 .i64 0 (n : Int) (by omega) (by omega) (by rw [hz1]; omega) (by rw [hz2]; omega) (by omega)
  rw [hz1, Int.toNat_natCast, made_bytes] at this
  exact this
theorem own_cap_new (w : World) (n : Nat) (hn : n ≤ 1000000) : (w.alloc (.cells ((zeros n).map bv).toArray 5)).ownsRow w.heap.size 5 1 (.slice (some ⟨w.heap.size, 0, none⟩) 0 n) 0 [] :=
  ⟨rfl, .inr ⟨w.heap.size, n, _, rfl, Nat.le_refl _, heap_alloc_new _ _, Nat.zero_le _, by unfold maxLen; omega, by simp [zeros_len], by simp⟩⟩
theorem scanE_arg {n : Nat} {d : Dr} {a m t : Int} (h : t < 0 ∨ (mostS : Int) < t ∨ ¬ inS n a m) : scanE n d a m t = 1 := by unfold scanE; rw [if_pos h]
set_option maxHeartbeats 4000000 in
theorem check_any (w : World) (g n : Nat) (d : Dr) (D : Nat → Prop) (a m t : Int) (h : LD w g n d D) (hn : n ≤ 8192) (ha : a ≤ 9223372036854775807) :
    Calls Tryd.prog 71 #[.pointer (some ⟨g, 0, none⟩), .int .i64 a, .int .i64 m, .int .i64 t] w fun r w' => r = .returned (.int .i64 (scanE n d a m t : Int)) ∧ w' = w := by
  have LE := Lib.hid h.len
  have ON := Lib.hid h.on
  have OU := outside_any t w
  clear h
  by_cases h1 : a < 0
  · have d1 : decide (a < 0) = true := decide_eq_true h1
    rw [scanE_arg (.inr (.inr (by unfold inS; omega)))]
    clear h1 OU
    go_enter Tryd.func71, Tryd.ntmps71
    go_wp2
    go_ret
    exact ⟨rfl, rfl⟩
  have d1 : decide (a < 0) = false := decide_eq_false h1
  by_cases h2 : m < 0
  · have d2 : decide (m < 0) = true := decide_eq_true h2
    rw [scanE_arg (.inr (.inr (by unfold inS; omega)))]
    clear h1 h2 OU
    go_enter Tryd.func71, Tryd.ntmps71
    go_wp2
    go_ret
    exact ⟨rfl, rfl⟩
  have d2 : decide (m < 0) = false := decide_eq_false h2
  have hw1 : IntKind.i64.wrap ((n : Int) - a) = (n : Int) - a := IntWalk.i64_in _ (by omega)
  by_cases h3 : (n : Int) - a < m
  · have d3 : decide ((n : Int) - a < m) = true := decide_eq_true h3
    rw [scanE_arg (.inr (.inr (by unfold inS; omega)))]
    have ha' := Lib.hid ha
    clear h1 h2 h3 OU ha
    go_enter Tryd.func71, Tryd.ntmps71
    go_wp2_with (go_at_call 31; refine stop ?_)
    unfold Stop
    refine LE.out.mono ?_
    rintro r w1 ⟨rfl, hw⟩
    rw [hw]
    clear hw w1
    go_wp2
    go_ret
    exact ⟨rfl, rfl⟩
  have d3 : decide ((n : Int) - a < m) = false := decide_eq_false h3
  by_cases h4 : t < 0 ∨ 1099511627776 < t
  · rw [decide_eq_true h4] at OU
    have OU := Lib.hid OU
    rw [scanE_arg (by unfold mostS; omega)]
    clear h1 h2 h3 h4 ha
    go_enter Tryd.func71, Tryd.ntmps71
    go_wp2_with (go_at_call 31; refine stop ?_)
    unfold Stop
    refine LE.out.mono ?_
    rintro r w1 ⟨rfl, hw⟩
    rw [hw]
    clear hw w1
    go_wp2_with (go_at_call 60; refine stop ?_)
    unfold Stop
    refine OU.out.mono ?_
    rintro r w1 ⟨rfl, hw⟩
    rw [hw]
    clear hw w1
    go_wp2
    go_ret
    exact ⟨rfl, rfl⟩
  rw [decide_eq_false h4] at OU
  have OU := Lib.hid OU
  have hE : scanE n d a m t = if d.off = true then 21 else 0 := by
    unfold scanE
    rw [if_neg (by unfold mostS inS; omega)]
  obtain ⟨E, hEE⟩ : ∃ E, E = scanE n d a m t := ⟨_, rfl⟩
  rw [← hEE] at hE ⊢
  clear hEE h1 h2 h3 h4 ha
  go_enter Tryd.func71, Tryd.ntmps71
  go_wp2_with (go_at_call 31; refine stop ?_)
  unfold Stop
  refine LE.out.mono ?_
  rintro r w1 ⟨rfl, hw⟩
  rw [hw]
  clear hw w1
  go_wp2_with (go_at_call 60; refine stop ?_)
  unfold Stop
  refine OU.out.mono ?_
  rintro r w1 ⟨rfl, hw⟩
  rw [hw]
  clear hw w1
  go_wp2_with (go_at_call 29; refine stop ?_)
  unfold Stop
  refine ON.out.mono ?_
  rintro r w1 ⟨rfl, hw⟩
  rw [hw]
  clear hw w1 LE ON OU
  cases hof : d.off with
  | true =>
    rw [hof] at hE
    have HE := Lib.hid hE
    clear hE
    go_wp2
    go_ret
    exact ⟨by rw [HE.out]; rfl, rfl⟩
  | false =>
    rw [hof] at hE
    have HE := Lib.hid hE
    clear hE
    go_wp2
    go_ret
    exact ⟨by rw [HE.out]; rfl, rfl⟩
theorem readE_off {d : Dr} {n : Nat} (ok : d.Ok n) (off : d.off = false) {k : Nat} (hk : k < n) : d.readE (k : Int) = 0 := by
  unfold Dr.readE
  rw [ok.len, off, if_neg (by simp), if_pos (by omega)]
/-- A sector read. -/
theorem LD.sector2 {w : World} {g n : Nat} {d : Dr} {D : Nat → Prop} (h : LD w g n d D) (off : d.off = false) {k : Nat} (hk : k < n) : Calls Tryd.prog 49 #[.pointer (some ⟨g, 0, none⟩), .int .i64 (k : Int)] w fun r w' => ∃ A c, r = .returned (.tuple #[.slice A 64 c, .int .i64 0]) ∧ SlN w' (fun k => k < w.heap.size) A ((d.now k).map bv) ∧ (A = none → c = 0) ∧ Turn (fun _ => False) w w' := by
  have he := readE_off h.ok off hk
  refine (h.read (k : Int)).mono ?_
  rintro r w' ⟨v, rfl, hv, t⟩
  have hr : d.readV (k : Int) = d.now k := by unfold Dr.readV; rw [if_pos he]; rfl
  have hl := Dr.now_len h.ok k hk
  obtain ⟨A, c, rfl, h1, -⟩ := hv.sl h.ok
  rw [hr, hl, he]
  rw [hr] at h1
  refine ⟨A, c, rfl, h1, ?_, t⟩
  rintro rfl
  obtain ⟨x, hx⟩ : ∃ x, ((d.now k).map bv)[0]? = some x := ⟨_, List.getElem?_eq_getElem (by rw [List.length_map, hl]; omega)⟩
  obtain ⟨ad, e, -⟩ := h1 0 x hx
  cases e
set_option maxHeartbeats 4000000 in
/-- What a stretch has. -/
theorem lread_st (g n p m : Nat) (d : Dr) (D : Nat → Prop) (w : World) (h : LD w g n d D) (off : d.off = false) (hp : p + m ≤ n) (hn : n ≤ 8192) :
    Calls Tryd.prog 73 #[.pointer (some ⟨g, 0, none⟩), .int .i64 (p : Int), .int .i64 (m : Int)] w fun r w' => ∃ A c, r = .returned (.slice A (64 * m) c) ∧ w'.ownsRow w.heap.size 5 1 (.slice A (64 * m) c) (64 * m) ((cutD d p m).map bv) ∧ Turn (fun _ => False) w w' := by
  have mk := make_cap (64 * m) (by omega)
  have mk' : ∀ w, (Instr.makeSlice 36 (.int .i64 0) (.int .i64 ((m : Int) * 64))).run Tryd.prog w = .ok (.slice (some ⟨w.heap.size, 0, none⟩) 0 (64 * m)) (w.alloc (.cells ((zeros (64 * m)).map bv).toArray 5)) := fun w => by rw [show (m : Int) * 64 = ((64 * m : Nat) : Int) by omega]; exact mk w
  clear mk
  have HL := Lib.hid h
  have HOK := Lib.hid h.ok
  have HON := Lib.hid off
  clear h off
  go_enter Tryd.func73, Tryd.ntmps73
  have OC := own_cap_new w (64 * m) (by omega)
  obtain ⟨w1, hw1⟩ : ∃ w1, w1 = w.alloc (.cells ((zeros (64 * m)).map bv).toArray 5) := ⟨_, rfl⟩
  rw [← hw1] at OC
  have T1 := Lib.hid (show Turn (fun _ => False) w w1 by rw [hw1]; exact (Turn.refl _ _).alloc _)
  have OC := Lib.hid OC
  go_upto_region 2 with fail
  change Code.wp _ _ _ _ (w.alloc (.cells ((zeros (64 * m)).map bv).toArray 5))
  rw [← hw1]
  clear hw1 mk'
  go_upto_region 3 with fail
  go_loopw [7, 15] (fun v iv wr => ∃ i : Nat, i ≤ m ∧ iv = .int .i64 (i : Int) ∧ wr.ownsRow w.heap.size 5 1 v (64 * i) ((cutD d p i).map bv) ∧ Turn (fun _ => False) w wr) (fun _ iv _ => m - (intOf iv).toNat)
  case atStart => exact ⟨0, by omega, rfl, OC.out, T1.out⟩
  case round =>
    obtain ⟨i, him, rfl, ho, ht⟩ := hrel
    obtain ⟨Av, cv, rfl, -, -, hcv, hav⟩ := own_sl ho
    by_cases hi : i < m
    · have hpi : p + i < n := by omega
      have RD := Lib.hid ((HL.out.quiet ht).sector2 HON.out hpi)
      have hcs : cutD d p (i + 1) = cutD d p i ++ d.now (p + i) := cutD_succ d p i
      have hcl := cutD_len HOK.out p i (by omega)
      have hnl := Dr.now_len HOK.out (p + i) hpi
      have HCS := Lib.hid hcs
      have HCL := Lib.hid hcl
      have HNL := Lib.hid hnl
      have HO := Lib.hid ho
      have HT := Lib.hid ht
      have hsz := ht.size
      have hpi' : (p : Int) + (i : Int) = ((p + i : Nat) : Int) := by omega
      have hw1 : IntKind.i64.wrap ((p : Int) + (i : Int)) = ((p + i : Nat) : Int) := by rw [IntWalk.i64_in _ (by omega)]; omega
      clear ho ht hcs hcl hnl
      obtain ⟨q, hq⟩ : ∃ q, q = p + i := ⟨_, rfl⟩
      rw [← hq] at RD HCS HNL hpi' hw1
      obtain ⟨W3, eW3⟩ : ∃ W3, W3 = wr := ⟨_, rfl⟩
      subst eW3
      clear hq
      go_wp2_with (go_at_call 49; refine stop ?_)
      unfold Stop
      refine RD.out.mono ?_
      rintro r w4 ⟨A4, c4, rfl, s4, a4, t4⟩
      have O4 := Lib.hid (own_turn t4 HO.out (fun _ _ h => h))
      have P4 := Lib.hid (Bts.of_sl s4.sl)
      have T4 := Lib.hid (HT.out.trans t4 (fun _ _ h => h))
      have S4 := t4.size
      clear s4 t4 RD HO HT
      go_wp2_with (at_builtin; refine stop ?_)
      unfold Stop
      refine wpList_app (o := ⟨some 28, _, _, _, _, _⟩) rfl _ _ rfl w.heap.size _ (cutD d p i) (d.now q) (64 * i) 64 HCL.out HNL.out rfl O4.out A4 c4 rfl a4 P4.out (by omega) (by omega) ?_
      intro A5 c5 w5 a5 k5 ho5 hg5
      have T5 := Lib.hid (T4.out.grown hg5 (fun i hi e => by have := (O4.out.lt i e.symm).1; omega))
      have O5 := Lib.hid (show w5.ownsRow w.heap.size 5 1 (.slice A5 (64 * i + 64) c5) (64 * (i + 1)) ((cutD d p (i + 1)).map bv) from by rw [HCS.out]; exact ho5)
      clear ho5 hg5 O4 P4 T4
      go_wp2
      go_roundw
      case rel => exact ⟨i + 1, by omega, by go_num, O5.out, T5.out⟩
      case measure => simp [intOf]; omega
    · obtain rfl : i = m := by omega
      have HO := Lib.hid ho
      have HT := Lib.hid ht
      clear ho ht
      go_wp2
      go_ret
      exact ⟨Av, cv, rfl, HO.out, HT.out⟩
end
end Go.Proofs.YtajdcekkmikbcaaDoor
