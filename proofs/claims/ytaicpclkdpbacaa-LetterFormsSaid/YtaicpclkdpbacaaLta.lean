/- The landed letter: readFields. -/
import Derived.Test.YtaicpclkdpbacaaLtXX
set_option linter.unusedVariables false
set_option linter.unusedSimpArgs false
namespace Go.Proofs.Ytaicpclkdpbacaa
open Go.RowKit
theorem sI_err {s : Rs} (h : s.e ≠ 0) : (sI s).e = s.e := by
  have h1 := (num_err (m := 16) h).1
  unfold sI
  rw [(itsS_stop (k := 0) (s := s.num 16) (by show (s.num 16).e ≠ 0; rw [h1]; exact h) (Nat.zero_le _)).1]
  exact h1
theorem num2_err {s : Rs} {m n : Nat} (h : s.e ≠ 0) : ((s.num m).num n).e = s.e := by
  have h1 := (num_err (m := m) h).1
  rw [(num_err (m := n) (by rw [h1]; exact h)).1, h1]
theorem sK_ok {s : Rs} (h : (sK s).e = 0) : sK s = s.num 5 ∧ s.nv 5 ≠ 0 := by
  have hd : (sK s).e = if (s.num 5).e ≠ 0 then (s.num 5).e else if s.nv 5 = 0 then 25 else 0 := rfl
  rw [hd] at h
  by_cases h1 : (s.num 5).e ≠ 0
  · rw [if_pos h1] at h; exact absurd h h1
  · rw [if_neg h1] at h
    by_cases h2 : s.nv 5 = 0
    · rw [if_pos h2] at h; cases h
    · refine ⟨?_, h2⟩
      show (⟨_, _⟩ : Rs) = _
      rw [if_neg h1, if_neg h2]
      have : (s.num 5).e = 0 := by omega
      exact (congrArg (fun z => (⟨z, (s.num 5).l⟩ : Rs)) this).symm
theorem bodS_err {k : Nat} {s : Rs} (h : s.e ≠ 0) : (bodS k s).e = s.e := by
  unfold bodS
  have h2 : ((s.num MX).num MX).e = s.e := num2_err h
  by_cases h1 : k = 1
  · rw [if_pos h1]; exact h2
  rw [if_neg h1]
  by_cases h1 : k = 2
  · rw [if_pos h1]; exact (num_err h).1
  rw [if_neg h1]
  by_cases h1 : k = 3
  · rw [if_pos h1]
    have h3 : (((s.num MX).num MX).num MX).e = s.e := by rw [(num_err (m := MX) (by rw [h2]; exact h)).1, h2]
    exact (sI_err (s := ((s.num MX).num MX).num MX) (by rw [h3]; exact h)).trans h3
  rw [if_neg h1]
  by_cases h1 : k = 4
  · rw [if_pos h1, (num_err (m := MX) (by rw [num2_err h]; exact h)).1, num2_err h]
  rw [if_neg h1, text_err (by rw [h2]; exact h), h2]
/-- Behind the fields; what they are. -/
def rf (s : Rs) : Rs := if (sK s).e ≠ 0 then sK s else bodS (s.nv 5) ((s.num 5).num MX)
def rfV (s : Rs) : Ltr := bodV (s.nv 5) ((s.num 5).nv MX) ((s.num 5).num MX)
def FV (K : Nat) (l : Ltr) (w : World) (v : Value) : Prop := ∃ A cA S cS, v = ltV A cA S cS l ∧ LtN w (fun i => i < K) A cA S cS l
structure ESt (W e E : Nat) (N : Nat → Prop) (w wr : World) (s : Rs) (C : Array Value) : Prop where
  y : Eye0 wr e E N s.l
  t : wr.heap[W + 1]? = some (.cells C 25 (0, 0))
  r : LBx wr W none 0 none 0 zL
  n : Turn (fun i => i = e) w wr
theorem ESt.call {W e E : Nat} {N : Nat → Prop} {w wr w' : World} {s s' : Rs} {C : Array Value} (h : ESt W e E N w wr s C) (he : e < W) (hy : Eye0 w' e E N s'.l) (t : Turn (fun i => i = e) wr w') : ESt W e E N w w' s' C :=
  ⟨hy, t.heap h.t (by omega), h.r.turn t (by omega), h.n.trans t (fun _ _ h => h)⟩
theorem ESt.set {W e E : Nat} {N : Nat → Prop} {w wr : World} {s : Rs} {C C' : Array Value} (h : ESt W e E N w wr s C) (he : e < W) (hE : E < W) (hW : W = w.heap.size) (hN : ∀ i, W ≤ i → N i) (o : Nat) (v : Value) (hC : C.setIfInBounds o v = C') : ESt W e E N w (wr.setCell ⟨W + 1, o, none⟩ v) s C' := by
  have t := set_turn wr (W + 1) o v
  refine ⟨h.y.turn t (by omega) (by omega) (fun i hi => hN i (by have hi : i = W + 1 := hi; omega)), by rw [heap_setCell_same wr (W + 1) o _ _ _ h.t, hC], h.r.turn t (by omega), h.n.trans t (fun i hi e => by have e : i = W + 1 := e; omega)⟩
theorem rf_no {e E : Nat} {N : Nat → Prop} {w wj w' : World} {z s : Rs} {V : World → Value → Prop} (hX : z.e = s.e) (hx : s.e ≠ 0) (he : EyeX w' e E s.e) (t1 : Turn (fun i => i = e) w wj) (t2 : Turn (fun i => i = e ∨ i = E) wj w') : RP e E N w z V (pan E) w' :=
  Or.inr ⟨by rw [hX]; exact hx, rfl, by rw [hX]; exact he, twoT t1 t2⟩
theorem it_nil {w : World} {N : Nat → Prop} : ItN w N none [] := fun i p hi => by simp at hi
theorem bt_nil {w : World} {N : Nat → Prop} : BtN w N none 0 [] := ⟨fun j u hu => by simp at hu, fun _ => rfl, by simp⟩
theorem lt_nums {w : World} {N : Nat → Prop} {A S : Option Addr} {cA cS n t x y z : Nat} {s : Bool} {its : List Itm} {b : List B8} (hn : n ≤ 1099511627776 ∧ t ≤ 1099511627776 ∧ x ≤ 1099511627776 ∧ y ≤ 1099511627776 ∧ z ≤ 1099511627776)
    (hI : ItN w N A its ∧ (A = none → cA = 0) ∧ its.length ≤ cA ∧ its.length ≤ 16) (hb : BtN w N S cS b ∧ b.length ≤ 65536) : LtN w N A cA S cS ⟨(n : Int), (t : Int), (x : Int), (y : Int), (z : Int), s, its, b⟩ := by
  obtain ⟨h1, h2, h3, h4, h5⟩ := hn
  refine ⟨hI.1, hI.2.1, hI.2.2.1, by unfold maxLen; have := hI.2.2.2; simp only; omega, hb.1, by unfold maxLen; have := hb.2; simp only; omega, ?_, ?_, ?_, ?_, ?_⟩ <;> exact ⟨by simp only; omega, by simp only; omega⟩
set_option maxRecDepth 100000 in
set_option maxHeartbeats 16000000 in
theorem readFields_any (e E : Nat) (N : Nat → Prop) (s : Rs) (w : World) (h : Eye0 w e E N s.l) (hs : s.e = 0) (hN : ∀ i, w.heap.size ≤ i → N i) :
    Calls Try.prog 29 #[.pointer (some ⟨e, 0, none⟩)] w (RP e E N w (rf s) (FV w.heap.size (rfV s))) := by
  obtain ⟨W, hW⟩ : ∃ W, W = w.heap.size := ⟨_, rfl⟩
  obtain ⟨hle, hlE, -, -, -, -⟩ := h.lt
  rw [← hW] at hle hlE hN ⊢
  obtain ⟨w0, hw0⟩ : ∃ w0, w0 = (w.alloc (.cells ZLt 25)).alloc (.cells ZLt 25) := ⟨_, rfl⟩
  have hT0 : Turn (fun _ => False) w w0 := by rw [hw0]; exact ((Turn.refl _ _).alloc _).alloc _
  have HE0 := Lib.hid (show ESt W e E N w w0 s #[.int .i64 0, .int .i64 0, .int .i64 0, .int .i64 0, .int .i64 0, .bool false, .slice none 0 0, .slice none 0 0] from ⟨h.turn hT0 (fun h => h) (fun h => h) (fun _ h => h.elim), by rw [hw0, hW]; exact heap_alloc2_new _ _ _, by rw [hw0, hW]; exact heap_alloc2_old _ _ _, hT0.mono (fun _ _ h => h.elim)⟩)
  have T := readKind_any e E N s w0 HE0.out.y hs
  have bn : s.nv 5 ≤ 5 := nv_le s _
  have HN := Lib.hid hN
  have HW := Lib.hid hW
  have HB := Lib.hid (And.intro hle hlE)
  have HKO := Lib.hid (@sK_ok s)
  have HRF := Lib.hid (show rf s = if (sK s).e ≠ 0 then sK s else bodS (s.nv 5) ((s.num 5).num MX) from rfl)
  have HRV := Lib.hid (show rfV s = bodV (s.nv 5) ((s.num 5).nv MX) ((s.num 5).num MX) from rfl)
  generalize rf s = zs at *
  generalize rfV s = zv at *
  clear h hs hN hT0
  go_enter Try.func29, Try.ntmps29
  go_upto_region 2 with fail
  change Code.wp _ _ _ _ ((w.alloc (.cells ZLt 25)).alloc (.cells ZLt 25))
  rw [← hw0, ← hW]
  clear hw0 hW
  by_cases hx : (sK s).e = 0
  rotate_left
  · have T := Lib.hid (rp_no T hx)
    have HX := Lib.hid hx
    clear hx
    go_wp2_with (go_at_call 46; refine T.out.mono ?_; rintro r w9 ⟨rfl, he9, ht9⟩; dsimp only [pan]; have HE9 := Lib.hid he9; have HT9 := Lib.hid ht9; clear he9 ht9)
    exact ⟨rfl, rf_no (by rw [HRF.out, if_pos HX.out]) HX.out HE9.out HE0.out.n HT9.out⟩
  have T := rp_yes T hx
  obtain ⟨ek, hk0⟩ := HKO.out hx
  have HRF := Lib.hid (show zs = bodS (s.nv 5) ((s.num 5).num MX) by rw [HRF.out, if_neg (by intro h; exact h hx)])
  have hx5 : (s.num 5).e = 0 := by rw [← ek]; exact hx
  rw [ek] at T
  obtain ⟨n, hn⟩ : ∃ n, n = s.nv 5 := ⟨_, rfl⟩
  rw [← hn] at T HRF HRV bn hk0
  generalize s.num 5 = s1 at *
  clear hn ek hx
  have T := Lib.hid T
  go_wp2_with fail
  refine T.out.mono ?_
  rintro r w1 ⟨v, rfl, rfl, he, ht⟩
  have hE := HE0.out.call HB.out.1 he ht
  obtain ⟨⟨d0, d1, d2, d3, d4, d5, d6, d7⟩, u0, u1, u2, u3, u4, u5, u6, u7⟩ := row8 hE.t
  have HE1 := Lib.hid hE
  clear hE he ht T HE0
  go_upto_region 3 with fail
  obtain ⟨x1, hx1⟩ : ∃ x1, x1 = (w1.setCell ⟨W + 1, 0, none⟩ (.int .i64 (n : Int))) := ⟨_, rfl⟩
  have hE := (HE1.out.set (C' := #[.int .i64 (n : Int), .int .i64 0, .int .i64 0, .int .i64 0, .int .i64 0, .bool false, .slice none 0 0, .slice none 0 0]) HB.out.1 HB.out.2 HW.out HN.out 0 (.int .i64 (n : Int)) rfl)
  rw [← hx1] at hE ⊢
  have HS1 := Lib.hid (show Turn (fun i => i = W + 1) w1 x1 by rw [hx1]; exact set_turn _ _ _ _)
  clear d0 d1 d2 d3 d4 d5 d6 d7 u0 u1 u2 u3 u4 u5 u6 u7
  obtain ⟨⟨d0, d1, d2, d3, d4, d5, d6, d7⟩, u0, u1, u2, u3, u4, u5, u6, u7⟩ := row8 hE.t
  have HF1 := Lib.hid hE
  clear hE hx1 HE1
  have T := readTerm_any e E N s1 x1 HF1.out.y hx5
  have bt : s1.nv MX ≤ 1099511627776 := Nat.le_trans (nv_le _ _) (by decide)
  clear hx5
  by_cases hx : (s1.num MX).e = 0
  rotate_left
  · have T := Lib.hid (rp_no T hx)
    have HX := Lib.hid hx
    clear hx d0 d1 d2 d3 d4 d5 d6 d7 u0 u1 u2 u3 u4 u5 u6 u7
    go_wp2_with (go_at_call 47; refine T.out.mono ?_; rintro r w9 ⟨rfl, he9, ht9⟩; dsimp only [pan]; have HE9 := Lib.hid he9; have HT9 := Lib.hid ht9; clear he9 ht9)
    exact ⟨rfl, rf_no (by rw [HRF.out]; exact bodS_err HX.out) HX.out HE9.out HF1.out.n HT9.out⟩
  have T := rp_yes T hx
  obtain ⟨t, ht0⟩ : ∃ t, t = s1.nv MX := ⟨_, rfl⟩
  rw [← ht0] at T HRV bt
  have hx2 := hx
  generalize s1.num MX = s2 at *
  clear ht0 hx
  have T := Lib.hid T
  clear d0 d1 d2 d3 d4 d5 d6 d7 u0 u1 u2 u3 u4 u5 u6 u7
  go_wp2_with fail
  refine T.out.mono ?_
  rintro r w2 ⟨v, rfl, rfl, he, ht⟩
  have hE := HF1.out.call HB.out.1 he ht
  obtain ⟨⟨d0, d1, d2, d3, d4, d5, d6, d7⟩, u0, u1, u2, u3, u4, u5, u6, u7⟩ := row8 hE.t
  have HE2 := Lib.hid hE
  clear hE he T HF1
  go_upto_region 4 with fail
  obtain ⟨x2, hx2⟩ : ∃ x2, x2 = (w2.setCell ⟨W + 1, 1, none⟩ (.int .i64 (t : Int))) := ⟨_, rfl⟩
  have hE := (HE2.out.set (C' := #[.int .i64 (n : Int), .int .i64 (t : Int), .int .i64 0, .int .i64 0, .int .i64 0, .bool false, .slice none 0 0, .slice none 0 0]) HB.out.1 HB.out.2 HW.out HN.out 1 (.int .i64 (t : Int)) rfl)
  rw [← hx2] at hE ⊢
  have HS2 := Lib.hid (show Turn (fun i => i = W + 1) w2 x2 by rw [hx2]; exact set_turn _ _ _ _)
  clear d0 d1 d2 d3 d4 d5 d6 d7 u0 u1 u2 u3 u4 u5 u6 u7
  obtain ⟨⟨d0, d1, d2, d3, d4, d5, d6, d7⟩, u0, u1, u2, u3, u4, u5, u6, u7⟩ := row8 hE.t
  have HF2 := Lib.hid hE
  clear hE hx2 HE2
  go_upto_region 5 with fail
  have hks : n = 1 ∨ n = 2 ∨ n = 3 ∨ n = 4 ∨ n = 5 := by omega
  rcases hks with hk | hk | hk | hk | hk
  · have HZ := Lib.hid (show zs = (s2.num MX).num MX by rw [HRF.out, hk]; rfl)
    have HZV := Lib.hid (show zv = ⟨(n : Int), (t : Int), (s2.nv MX : Int), ((s2.num MX).nv MX : Int), ((0 : Nat) : Int), false, [], []⟩ by rw [HRV.out, hk]; rfl)
    have q1 : ((n : Int) == 1) = true := by rw [hk]; rfl
    have hxc := hx2
    clear hk hk0 hx2 HRF HRV
    have T := readPlace_any e E N s2 x2 HF2.out.y hxc
    have bx : s2.nv MX ≤ 1099511627776 := Nat.le_trans (nv_le _ _) (by decide)
    have bY : (s2.num MX).nv MX ≤ 1099511627776 := Nat.le_trans (nv_le _ _) (by decide)
    clear hxc
    by_cases hx : ((s2.num MX).num MX).e = 0
    rotate_left
    · have T := Lib.hid (rp_no T hx)
      have HX := Lib.hid hx
      clear hx d0 d1 d2 d3 d4 d5 d6 d7 u0 u1 u2 u3 u4 u5 u6 u7
      go_wp2_with (go_at_call 48; refine T.out.mono ?_; rintro r w9 ⟨rfl, he9, ht9⟩; dsimp only [pan]; have HE9 := Lib.hid he9; have HT9 := Lib.hid ht9; clear he9 ht9)
      exact ⟨rfl, rf_no (by rw [HZ.out]) HX.out HE9.out HF2.out.n HT9.out⟩
    have T := rp_yes T hx
    obtain ⟨x, hx0⟩ : ∃ x, x = s2.nv MX := ⟨_, rfl⟩
    obtain ⟨y, hy0⟩ : ∃ y, y = (s2.num MX).nv MX := ⟨_, rfl⟩
    rw [← hx0] at T HZV bx
    rw [← hy0] at T HZV bY
    obtain ⟨sp, hsp⟩ : ∃ sp, sp = (s2.num MX).num MX := ⟨_, rfl⟩
    rw [← hsp] at T HZ hx
    try rw [← hsp] at HZV
    have hxc := hx
    clear hx0 hy0 hsp hx
    have T := Lib.hid T
    clear d0 d1 d2 d3 d4 d5 d6 d7 u0 u1 u2 u3 u4 u5 u6 u7
    go_wp2_with fail
    refine T.out.mono ?_
    rintro r w3 ⟨v, rfl, rfl, he, ht⟩
    have hE := HF2.out.call HB.out.1 he ht
    obtain ⟨⟨d0, d1, d2, d3, d4, d5, d6, d7⟩, u0, u1, u2, u3, u4, u5, u6, u7⟩ := row8 hE.t
    have HE3 := Lib.hid hE
    clear hE he T HF2
    go_upto_region 20 with fail
    obtain ⟨x3, hx3⟩ : ∃ x3, x3 = ((w3.setCell ⟨W + 1, 2, none⟩ (.int .i64 (x : Int))).setCell ⟨W + 1, 3, none⟩ (.int .i64 (y : Int))) := ⟨_, rfl⟩
    have hE := ((HE3.out.set (C' := #[.int .i64 (n : Int), .int .i64 (t : Int), .int .i64 (x : Int), .int .i64 0, .int .i64 0, .bool false, .slice none 0 0, .slice none 0 0]) HB.out.1 HB.out.2 HW.out HN.out 2 (.int .i64 (x : Int)) rfl).set (C' := #[.int .i64 (n : Int), .int .i64 (t : Int), .int .i64 (x : Int), .int .i64 (y : Int), .int .i64 0, .bool false, .slice none 0 0, .slice none 0 0]) HB.out.1 HB.out.2 HW.out HN.out 3 (.int .i64 (y : Int)) rfl)
    rw [← hx3] at hE ⊢
    clear d0 d1 d2 d3 d4 d5 d6 d7 u0 u1 u2 u3 u4 u5 u6 u7
    obtain ⟨⟨d0, d1, d2, d3, d4, d5, d6, d7⟩, u0, u1, u2, u3, u4, u5, u6, u7⟩ := row8 hE.t
    have HF3 := Lib.hid hE
    clear hE hx3 HE3
    have HX := Lib.hid hxc
    clear hxc
    obtain ⟨⟨o0, o1, o2, o3, o4, o5, o6, o7⟩, p0, p1, p2, p3, p4, p5, p6, p7⟩ := row8 HF3.out.r
    go_wp2_with fail
    have h9 := set8 HF3.out.r (.int .i64 (n : Int)) (.int .i64 (t : Int)) (.int .i64 (x : Int)) (.int .i64 (y : Int)) (.int .i64 0) (.bool false) (.slice none 0 0) (.slice none 0 0)
    refine bodyPost_ret (v := .agg #[.int .i64 (n : Int), .int .i64 (t : Int), .int .i64 (x : Int), .int .i64 (y : Int), .int .i64 0, .bool false, .slice none 0 0, .slice none 0 0]) ?_ rfl ?_
    rotate_left
    · exact Or.inl ⟨by rw [HZ.out]; exact HX.out, _, rfl, ⟨none, 0, none, 0, by (rw [HZV.out] <;> rfl), by rw [HZV.out]; exact lt_nums (z := 0) ⟨by omega, by omega, by omega, by omega, by omega⟩ ⟨it_nil, fun _ => rfl, Nat.zero_le _, Nat.zero_le _⟩ ⟨bt_nil, Nat.zero_le _⟩⟩, by rw [HZ.out]; exact HF3.out.y.turn h9.2 (by have := HB.out; omega) (by have := HB.out; omega) (fun i hi => HN.out i (by have hi : i = W := hi; omega)), HF3.out.n.trans h9.2 (fun i hi e => by have e : i = W := e; have := HW.out; omega)⟩
    exact results_cell_row Try.results29 _ _ W _ #[.int .i64 (n : Int), .int .i64 (t : Int), .int .i64 (x : Int), .int .i64 (y : Int), .int .i64 0, .bool false, .slice none 0 0, .slice none 0 0] (0, 0) _ rfl h9.1 Try.underlying25 rfl lt_info
  · have HZ := Lib.hid (show zs = s2.num 1 by rw [HRF.out, hk]; rfl)
    have HZV := Lib.hid (show zv = ⟨(n : Int), (t : Int), ((0 : Nat) : Int), ((0 : Nat) : Int), ((0 : Nat) : Int), yesB (s2.nv 1), [], []⟩ by rw [HRV.out, hk]; rfl)
    have q1 : ((n : Int) == 1) = false := by rw [hk]; rfl
    have q2 : ((n : Int) == 2) = true := by rw [hk]; rfl
    have hxc := hx2
    clear hk hk0 hx2 HRF HRV
    have T := readYes_any e E N s2 x2 HF2.out.y hxc
    have bq : s2.nv 1 ≤ 1099511627776 := Nat.le_trans (nv_le _ _) (by decide)
    clear hxc
    by_cases hx : (s2.num 1).e = 0
    rotate_left
    · have T := Lib.hid (rp_no T hx)
      have HX := Lib.hid hx
      clear hx d0 d1 d2 d3 d4 d5 d6 d7 u0 u1 u2 u3 u4 u5 u6 u7
      go_wp2_with (go_at_call 49; refine T.out.mono ?_; rintro r w9 ⟨rfl, he9, ht9⟩; dsimp only [pan]; have HE9 := Lib.hid he9; have HT9 := Lib.hid ht9; clear he9 ht9)
      exact ⟨rfl, rf_no (by rw [HZ.out]) HX.out HE9.out HF2.out.n HT9.out⟩
    have T := rp_yes T hx
    obtain ⟨q, hq0⟩ : ∃ q, q = s2.nv 1 := ⟨_, rfl⟩
    rw [← hq0] at T HZV bq
    obtain ⟨sq, hsp⟩ : ∃ qq, qq = s2.num 1 := ⟨_, rfl⟩
    rw [← hsp] at T HZ hx
    try rw [← hsp] at HZV
    have hxc := hx
    clear hq0 hsp hx
    have T := Lib.hid T
    clear d0 d1 d2 d3 d4 d5 d6 d7 u0 u1 u2 u3 u4 u5 u6 u7
    go_wp2_with fail
    refine T.out.mono ?_
    rintro r w3 ⟨v, rfl, rfl, he, ht⟩
    have hE := HF2.out.call HB.out.1 he ht
    obtain ⟨⟨d0, d1, d2, d3, d4, d5, d6, d7⟩, u0, u1, u2, u3, u4, u5, u6, u7⟩ := row8 hE.t
    have HE3 := Lib.hid hE
    clear hE he T HF2
    go_upto_region 20 with fail
    obtain ⟨x3, hx3⟩ : ∃ x3, x3 = (w3.setCell ⟨W + 1, 5, none⟩ (.bool (yesB q))) := ⟨_, rfl⟩
    have hE := (HE3.out.set (C' := #[.int .i64 (n : Int), .int .i64 (t : Int), .int .i64 0, .int .i64 0, .int .i64 0, .bool (yesB q), .slice none 0 0, .slice none 0 0]) HB.out.1 HB.out.2 HW.out HN.out 5 (.bool (yesB q)) rfl)
    rw [← hx3] at hE ⊢
    have HS3 := Lib.hid (show Turn (fun i => i = W + 1) w3 x3 by rw [hx3]; exact set_turn _ _ _ _)
    clear d0 d1 d2 d3 d4 d5 d6 d7 u0 u1 u2 u3 u4 u5 u6 u7
    obtain ⟨⟨d0, d1, d2, d3, d4, d5, d6, d7⟩, u0, u1, u2, u3, u4, u5, u6, u7⟩ := row8 hE.t
    have HF3 := Lib.hid hE
    clear hE hx3 HE3
    have HX := Lib.hid hxc
    clear hxc
    obtain ⟨⟨o0, o1, o2, o3, o4, o5, o6, o7⟩, p0, p1, p2, p3, p4, p5, p6, p7⟩ := row8 HF3.out.r
    go_wp2_with fail
    have h9 := set8 HF3.out.r (.int .i64 (n : Int)) (.int .i64 (t : Int)) (.int .i64 0) (.int .i64 0) (.int .i64 0) (.bool (yesB q)) (.slice none 0 0) (.slice none 0 0)
    refine bodyPost_ret (v := .agg #[.int .i64 (n : Int), .int .i64 (t : Int), .int .i64 0, .int .i64 0, .int .i64 0, .bool (yesB q), .slice none 0 0, .slice none 0 0]) ?_ rfl ?_
    rotate_left
    · exact Or.inl ⟨by rw [HZ.out]; exact HX.out, _, rfl, ⟨none, 0, none, 0, by (rw [HZV.out] <;> rfl), by rw [HZV.out]; exact lt_nums (x := 0) (y := 0) (z := 0) ⟨by omega, by omega, by omega, by omega, by omega⟩ ⟨it_nil, fun _ => rfl, Nat.zero_le _, Nat.zero_le _⟩ ⟨bt_nil, Nat.zero_le _⟩⟩, by rw [HZ.out]; exact HF3.out.y.turn h9.2 (by have := HB.out; omega) (by have := HB.out; omega) (fun i hi => HN.out i (by have hi : i = W := hi; omega)), HF3.out.n.trans h9.2 (fun i hi e => by have e : i = W := e; have := HW.out; omega)⟩
    exact results_cell_row Try.results29 _ _ W _ #[.int .i64 (n : Int), .int .i64 (t : Int), .int .i64 0, .int .i64 0, .int .i64 0, .bool (yesB q), .slice none 0 0, .slice none 0 0] (0, 0) _ rfl h9.1 Try.underlying25 rfl lt_info
  · have HZ := Lib.hid (show zs = sI (((s2.num MX).num MX).num MX) by rw [HRF.out, hk]; rfl)
    have HZV := Lib.hid (show zv = ⟨(n : Int), (t : Int), (s2.nv MX : Int), ((s2.num MX).nv MX : Int), (((s2.num MX).num MX).nv MX : Int), false, vI (((s2.num MX).num MX).num MX), []⟩ by rw [HRV.out, hk]; rfl)
    have q1 : ((n : Int) == 1) = false := by rw [hk]; rfl
    have q2 : ((n : Int) == 2) = false := by rw [hk]; rfl
    have q3 : ((n : Int) == 3) = true := by rw [hk]; rfl
    have hxc := hx2
    clear hk hk0 hx2 HRF HRV
    have T := readPlace_any e E N s2 x2 HF2.out.y hxc
    have bx : s2.nv MX ≤ 1099511627776 := Nat.le_trans (nv_le _ _) (by decide)
    have bY : (s2.num MX).nv MX ≤ 1099511627776 := Nat.le_trans (nv_le _ _) (by decide)
    clear hxc
    by_cases hx : ((s2.num MX).num MX).e = 0
    rotate_left
    · have T := Lib.hid (rp_no T hx)
      have HX := Lib.hid hx
      clear hx d0 d1 d2 d3 d4 d5 d6 d7 u0 u1 u2 u3 u4 u5 u6 u7
      go_wp2_with (go_at_call 48; refine T.out.mono ?_; rintro r w9 ⟨rfl, he9, ht9⟩; dsimp only [pan]; have HE9 := Lib.hid he9; have HT9 := Lib.hid ht9; clear he9 ht9)
      exact ⟨rfl, rf_no (by rw [HZ.out, sI_err (by rw [(num_err HX.out).1]; exact HX.out), (num_err HX.out).1]) HX.out HE9.out HF2.out.n HT9.out⟩
    have T := rp_yes T hx
    obtain ⟨x, hx0⟩ : ∃ x, x = s2.nv MX := ⟨_, rfl⟩
    obtain ⟨y, hy0⟩ : ∃ y, y = (s2.num MX).nv MX := ⟨_, rfl⟩
    rw [← hx0] at T HZV bx
    rw [← hy0] at T HZV bY
    obtain ⟨sp, hsp⟩ : ∃ sp, sp = (s2.num MX).num MX := ⟨_, rfl⟩
    rw [← hsp] at T HZ hx
    try rw [← hsp] at HZV
    have hxc := hx
    clear hx0 hy0 hsp hx
    have T := Lib.hid T
    clear d0 d1 d2 d3 d4 d5 d6 d7 u0 u1 u2 u3 u4 u5 u6 u7
    go_wp2_with fail
    refine T.out.mono ?_
    rintro r w3 ⟨v, rfl, rfl, he, ht⟩
    have hE := HF2.out.call HB.out.1 he ht
    obtain ⟨⟨d0, d1, d2, d3, d4, d5, d6, d7⟩, u0, u1, u2, u3, u4, u5, u6, u7⟩ := row8 hE.t
    have HE3 := Lib.hid hE
    clear hE he T HF2
    go_upto_region 11 with fail
    obtain ⟨x3, hx3⟩ : ∃ x3, x3 = ((w3.setCell ⟨W + 1, 2, none⟩ (.int .i64 (x : Int))).setCell ⟨W + 1, 3, none⟩ (.int .i64 (y : Int))) := ⟨_, rfl⟩
    have hE := ((HE3.out.set (C' := #[.int .i64 (n : Int), .int .i64 (t : Int), .int .i64 (x : Int), .int .i64 0, .int .i64 0, .bool false, .slice none 0 0, .slice none 0 0]) HB.out.1 HB.out.2 HW.out HN.out 2 (.int .i64 (x : Int)) rfl).set (C' := #[.int .i64 (n : Int), .int .i64 (t : Int), .int .i64 (x : Int), .int .i64 (y : Int), .int .i64 0, .bool false, .slice none 0 0, .slice none 0 0]) HB.out.1 HB.out.2 HW.out HN.out 3 (.int .i64 (y : Int)) rfl)
    rw [← hx3] at hE ⊢
    clear d0 d1 d2 d3 d4 d5 d6 d7 u0 u1 u2 u3 u4 u5 u6 u7
    obtain ⟨⟨d0, d1, d2, d3, d4, d5, d6, d7⟩, u0, u1, u2, u3, u4, u5, u6, u7⟩ := row8 hE.t
    have HF3 := Lib.hid hE
    clear hE hx3 HE3
    have T := readIndex_any e E N sp x3 HF3.out.y hxc
    have bz : sp.nv MX ≤ 1099511627776 := Nat.le_trans (nv_le _ _) (by decide)
    clear hxc
    by_cases hx : (sp.num MX).e = 0
    rotate_left
    · have T := Lib.hid (rp_no T hx)
      have HX := Lib.hid hx
      clear hx d0 d1 d2 d3 d4 d5 d6 d7 u0 u1 u2 u3 u4 u5 u6 u7
      go_wp2_with (go_at_call 50; refine T.out.mono ?_; rintro r w9 ⟨rfl, he9, ht9⟩; dsimp only [pan]; have HE9 := Lib.hid he9; have HT9 := Lib.hid ht9; clear he9 ht9)
      exact ⟨rfl, rf_no (by rw [HZ.out, sI_err HX.out]) HX.out HE9.out HF3.out.n HT9.out⟩
    have T := rp_yes T hx
    obtain ⟨z, hz0⟩ : ∃ q, q = sp.nv MX := ⟨_, rfl⟩
    rw [← hz0] at T HZV bz
    obtain ⟨sz, hsp⟩ : ∃ qq, qq = sp.num MX := ⟨_, rfl⟩
    rw [← hsp] at T HZ hx
    try rw [← hsp] at HZV
    have hxc := hx
    clear hz0 hsp hx
    have T := Lib.hid T
    clear d0 d1 d2 d3 d4 d5 d6 d7 u0 u1 u2 u3 u4 u5 u6 u7
    go_wp2_with fail
    refine T.out.mono ?_
    rintro r w4 ⟨v, rfl, rfl, he, ht⟩
    have hE := HF3.out.call HB.out.1 he ht
    obtain ⟨⟨d0, d1, d2, d3, d4, d5, d6, d7⟩, u0, u1, u2, u3, u4, u5, u6, u7⟩ := row8 hE.t
    have HE4 := Lib.hid hE
    clear hE he T HF3
    go_upto_region 12 with fail
    obtain ⟨x4, hx4⟩ : ∃ x4, x4 = (w4.setCell ⟨W + 1, 4, none⟩ (.int .i64 (z : Int))) := ⟨_, rfl⟩
    have hE := (HE4.out.set (C' := #[.int .i64 (n : Int), .int .i64 (t : Int), .int .i64 (x : Int), .int .i64 (y : Int), .int .i64 (z : Int), .bool false, .slice none 0 0, .slice none 0 0]) HB.out.1 HB.out.2 HW.out HN.out 4 (.int .i64 (z : Int)) rfl)
    rw [← hx4] at hE ⊢
    have HS4 := Lib.hid (show Turn (fun i => i = W + 1) w4 x4 by rw [hx4]; exact set_turn _ _ _ _)
    clear d0 d1 d2 d3 d4 d5 d6 d7 u0 u1 u2 u3 u4 u5 u6 u7
    obtain ⟨⟨d0, d1, d2, d3, d4, d5, d6, d7⟩, u0, u1, u2, u3, u4, u5, u6, u7⟩ := row8 hE.t
    have HF4 := Lib.hid hE
    clear hE hx4 HE4
    have T := readItems_any e E N sz x4 HF4.out.y hxc (fun i hi => HN.out i (by have := HF4.out.n.size; have := HW.out; omega))
    have hil : (vI sz).length ≤ 16 := Nat.le_trans itsVs_len (nv_le _ _)
    have hsz : W + 1 < x4.heap.size := lt_of_block HF4.out.t
    clear hxc
    by_cases hx : (sI sz).e = 0
    rotate_left
    · have T := Lib.hid (rp_no T hx)
      have HX := Lib.hid hx
      clear hx d0 d1 d2 d3 d4 d5 d6 d7 u0 u1 u2 u3 u4 u5 u6 u7
      go_wp2_with (go_at_call 51; refine T.out.mono ?_; rintro r w9 ⟨rfl, he9, ht9⟩; dsimp only [pan]; have HE9 := Lib.hid he9; have HT9 := Lib.hid ht9; clear he9 ht9)
      exact ⟨rfl, rf_no (by rw [HZ.out]) HX.out HE9.out HF4.out.n HT9.out⟩
    have T := rp_yes T hx
    obtain ⟨its, hits⟩ : ∃ q, q = vI sz := ⟨_, rfl⟩
    rw [← hits] at T HZV hil
    obtain ⟨si, hsi⟩ : ∃ q, q = sI sz := ⟨_, rfl⟩
    rw [← hsi] at T HZ hx
    have hxc := hx
    clear hits hsi hx
    have T := Lib.hid T
    clear d0 d1 d2 d3 d4 d5 d6 d7 u0 u1 u2 u3 u4 u5 u6 u7
    go_wp2_with fail
    refine T.out.mono ?_
    rintro r w5 ⟨v, rfl, ⟨G, rfl, hit⟩, he, ht⟩
    have HIT := Lib.hid hit
    clear hit
    have hE := HF4.out.call HB.out.1 he ht
    obtain ⟨⟨d0, d1, d2, d3, d4, d5, d6, d7⟩, u0, u1, u2, u3, u4, u5, u6, u7⟩ := row8 hE.t
    have HE5 := Lib.hid hE
    clear hE he T HF4
    go_upto_region 20 with fail
    obtain ⟨x5, hx5⟩ : ∃ x5, x5 = (w5.setCell ⟨W + 1, 6, none⟩ (.slice (some ⟨G, 0, none⟩) its.length its.length)) := ⟨_, rfl⟩
    have hE := (HE5.out.set (C' := #[.int .i64 (n : Int), .int .i64 (t : Int), .int .i64 (x : Int), .int .i64 (y : Int), .int .i64 (z : Int), .bool false, .slice (some ⟨G, 0, none⟩) its.length its.length, .slice none 0 0]) HB.out.1 HB.out.2 HW.out HN.out 6 (.slice (some ⟨G, 0, none⟩) its.length its.length) rfl)
    rw [← hx5] at hE ⊢
    have HS5 := Lib.hid (show Turn (fun i => i = W + 1) w5 x5 by rw [hx5]; exact set_turn _ _ _ _)
    clear d0 d1 d2 d3 d4 d5 d6 d7 u0 u1 u2 u3 u4 u5 u6 u7
    obtain ⟨⟨d0, d1, d2, d3, d4, d5, d6, d7⟩, u0, u1, u2, u3, u4, u5, u6, u7⟩ := row8 hE.t
    have HF5 := Lib.hid hE
    clear hE hx5 HE5
    have HX := Lib.hid hxc
    clear hxc
    obtain ⟨⟨o0, o1, o2, o3, o4, o5, o6, o7⟩, p0, p1, p2, p3, p4, p5, p6, p7⟩ := row8 HF5.out.r
    go_wp2_with fail
    have h9 := set8 HF5.out.r (.int .i64 (n : Int)) (.int .i64 (t : Int)) (.int .i64 (x : Int)) (.int .i64 (y : Int)) (.int .i64 (z : Int)) (.bool false) (.slice (some ⟨G, 0, none⟩) its.length its.length) (.slice none 0 0)
    refine bodyPost_ret (v := .agg #[.int .i64 (n : Int), .int .i64 (t : Int), .int .i64 (x : Int), .int .i64 (y : Int), .int .i64 (z : Int), .bool false, .slice (some ⟨G, 0, none⟩) its.length its.length, .slice none 0 0]) ?_ rfl ?_
    rotate_left
    · exact Or.inl ⟨by rw [HZ.out]; exact HX.out, _, rfl, ⟨some ⟨G, 0, none⟩, its.length, none, 0, by (rw [HZV.out] <;> rfl), by rw [HZV.out]; exact lt_nums ⟨by omega, by omega, by omega, by omega, by omega⟩ ⟨(HIT.out.turn (N' := fun i => i < x4.heap.size) HS5.out (fun i hi => by have hi : i = W + 1 := hi; show i < _; omega) (fun _ _ h => h)).turn h9.2 (fun i hi => by have hi : i = W := hi; show i < _; omega) (fun i _ h => by have h : i < W := h; show i < _; omega), (fun h => by cases h), Nat.le_refl _, hil⟩ ⟨bt_nil, Nat.zero_le _⟩⟩, by rw [HZ.out]; exact HF5.out.y.turn h9.2 (by have := HB.out; omega) (by have := HB.out; omega) (fun i hi => HN.out i (by have hi : i = W := hi; omega)), HF5.out.n.trans h9.2 (fun i hi e => by have e : i = W := e; have := HW.out; omega)⟩
    exact results_cell_row Try.results29 _ _ W _ #[.int .i64 (n : Int), .int .i64 (t : Int), .int .i64 (x : Int), .int .i64 (y : Int), .int .i64 (z : Int), .bool false, .slice (some ⟨G, 0, none⟩) its.length its.length, .slice none 0 0] (0, 0) _ rfl h9.1 Try.underlying25 rfl lt_info
  · have HZ := Lib.hid (show zs = ((s2.num 1).num MX).num MX by rw [HRF.out, hk]; rfl)
    have HZV := Lib.hid (show zv = ⟨(n : Int), (t : Int), ((s2.num 1).nv MX : Int), ((0 : Nat) : Int), (((s2.num 1).num MX).nv MX : Int), yesB (s2.nv 1), [], []⟩ by rw [HRV.out, hk]; rfl)
    have q1 : ((n : Int) == 1) = false := by rw [hk]; rfl
    have q2 : ((n : Int) == 2) = false := by rw [hk]; rfl
    have q3 : ((n : Int) == 3) = false := by rw [hk]; rfl
    have q4 : ((n : Int) == 4) = true := by rw [hk]; rfl
    have hxc := hx2
    clear hk hk0 hx2 HRF HRV
    have T := readYes_any e E N s2 x2 HF2.out.y hxc
    have bq : s2.nv 1 ≤ 1099511627776 := Nat.le_trans (nv_le _ _) (by decide)
    clear hxc
    by_cases hx : (s2.num 1).e = 0
    rotate_left
    · have T := Lib.hid (rp_no T hx)
      have HX := Lib.hid hx
      clear hx d0 d1 d2 d3 d4 d5 d6 d7 u0 u1 u2 u3 u4 u5 u6 u7
      go_wp2_with (go_at_call 49; refine T.out.mono ?_; rintro r w9 ⟨rfl, he9, ht9⟩; dsimp only [pan]; have HE9 := Lib.hid he9; have HT9 := Lib.hid ht9; clear he9 ht9)
      exact ⟨rfl, rf_no (by rw [HZ.out, num2_err HX.out]) HX.out HE9.out HF2.out.n HT9.out⟩
    have T := rp_yes T hx
    obtain ⟨q, hq0⟩ : ∃ q, q = s2.nv 1 := ⟨_, rfl⟩
    rw [← hq0] at T HZV bq
    obtain ⟨sq, hsp⟩ : ∃ qq, qq = s2.num 1 := ⟨_, rfl⟩
    rw [← hsp] at T HZ hx
    try rw [← hsp] at HZV
    have hxc := hx
    clear hq0 hsp hx
    have T := Lib.hid T
    clear d0 d1 d2 d3 d4 d5 d6 d7 u0 u1 u2 u3 u4 u5 u6 u7
    go_wp2_with fail
    refine T.out.mono ?_
    rintro r w3 ⟨v, rfl, rfl, he, ht⟩
    have hE := HF2.out.call HB.out.1 he ht
    obtain ⟨⟨d0, d1, d2, d3, d4, d5, d6, d7⟩, u0, u1, u2, u3, u4, u5, u6, u7⟩ := row8 hE.t
    have HE3 := Lib.hid hE
    clear hE he T HF2
    go_upto_region 15 with fail
    obtain ⟨x3, hx3⟩ : ∃ x3, x3 = (w3.setCell ⟨W + 1, 5, none⟩ (.bool (yesB q))) := ⟨_, rfl⟩
    have hE := (HE3.out.set (C' := #[.int .i64 (n : Int), .int .i64 (t : Int), .int .i64 0, .int .i64 0, .int .i64 0, .bool (yesB q), .slice none 0 0, .slice none 0 0]) HB.out.1 HB.out.2 HW.out HN.out 5 (.bool (yesB q)) rfl)
    rw [← hx3] at hE ⊢
    have HS3 := Lib.hid (show Turn (fun i => i = W + 1) w3 x3 by rw [hx3]; exact set_turn _ _ _ _)
    clear d0 d1 d2 d3 d4 d5 d6 d7 u0 u1 u2 u3 u4 u5 u6 u7
    obtain ⟨⟨d0, d1, d2, d3, d4, d5, d6, d7⟩, u0, u1, u2, u3, u4, u5, u6, u7⟩ := row8 hE.t
    have HF3 := Lib.hid hE
    clear hE hx3 HE3
    have T := readIndex_any e E N sq x3 HF3.out.y hxc
    have bx : sq.nv MX ≤ 1099511627776 := Nat.le_trans (nv_le _ _) (by decide)
    clear hxc
    by_cases hx : (sq.num MX).e = 0
    rotate_left
    · have T := Lib.hid (rp_no T hx)
      have HX := Lib.hid hx
      clear hx d0 d1 d2 d3 d4 d5 d6 d7 u0 u1 u2 u3 u4 u5 u6 u7
      go_wp2_with (go_at_call 50; refine T.out.mono ?_; rintro r w9 ⟨rfl, he9, ht9⟩; dsimp only [pan]; have HE9 := Lib.hid he9; have HT9 := Lib.hid ht9; clear he9 ht9)
      exact ⟨rfl, rf_no (by rw [HZ.out, (num_err HX.out).1]) HX.out HE9.out HF3.out.n HT9.out⟩
    have T := rp_yes T hx
    obtain ⟨x, hx0⟩ : ∃ q, q = sq.nv MX := ⟨_, rfl⟩
    rw [← hx0] at T HZV bx
    obtain ⟨sx, hsp⟩ : ∃ qq, qq = sq.num MX := ⟨_, rfl⟩
    rw [← hsp] at T HZ hx
    try rw [← hsp] at HZV
    have hxc := hx
    clear hx0 hsp hx
    have T := Lib.hid T
    clear d0 d1 d2 d3 d4 d5 d6 d7 u0 u1 u2 u3 u4 u5 u6 u7
    go_wp2_with fail
    refine T.out.mono ?_
    rintro r w4 ⟨v, rfl, rfl, he, ht⟩
    have hE := HF3.out.call HB.out.1 he ht
    obtain ⟨⟨d0, d1, d2, d3, d4, d5, d6, d7⟩, u0, u1, u2, u3, u4, u5, u6, u7⟩ := row8 hE.t
    have HE4 := Lib.hid hE
    clear hE he T HF3
    go_upto_region 16 with fail
    obtain ⟨x4, hx4⟩ : ∃ x4, x4 = (w4.setCell ⟨W + 1, 2, none⟩ (.int .i64 (x : Int))) := ⟨_, rfl⟩
    have hE := (HE4.out.set (C' := #[.int .i64 (n : Int), .int .i64 (t : Int), .int .i64 (x : Int), .int .i64 0, .int .i64 0, .bool (yesB q), .slice none 0 0, .slice none 0 0]) HB.out.1 HB.out.2 HW.out HN.out 2 (.int .i64 (x : Int)) rfl)
    rw [← hx4] at hE ⊢
    have HS4 := Lib.hid (show Turn (fun i => i = W + 1) w4 x4 by rw [hx4]; exact set_turn _ _ _ _)
    clear d0 d1 d2 d3 d4 d5 d6 d7 u0 u1 u2 u3 u4 u5 u6 u7
    obtain ⟨⟨d0, d1, d2, d3, d4, d5, d6, d7⟩, u0, u1, u2, u3, u4, u5, u6, u7⟩ := row8 hE.t
    have HF4 := Lib.hid hE
    clear hE hx4 HE4
    have T := readIndex_any e E N sx x4 HF4.out.y hxc
    have bz : sx.nv MX ≤ 1099511627776 := Nat.le_trans (nv_le _ _) (by decide)
    clear hxc
    by_cases hx : (sx.num MX).e = 0
    rotate_left
    · have T := Lib.hid (rp_no T hx)
      have HX := Lib.hid hx
      clear hx d0 d1 d2 d3 d4 d5 d6 d7 u0 u1 u2 u3 u4 u5 u6 u7
      go_wp2_with (go_at_call 50; refine T.out.mono ?_; rintro r w9 ⟨rfl, he9, ht9⟩; dsimp only [pan]; have HE9 := Lib.hid he9; have HT9 := Lib.hid ht9; clear he9 ht9)
      exact ⟨rfl, rf_no (by rw [HZ.out]) HX.out HE9.out HF4.out.n HT9.out⟩
    have T := rp_yes T hx
    obtain ⟨z, hz0⟩ : ∃ q, q = sx.nv MX := ⟨_, rfl⟩
    rw [← hz0] at T HZV bz
    obtain ⟨sz, hsp⟩ : ∃ qq, qq = sx.num MX := ⟨_, rfl⟩
    rw [← hsp] at T HZ hx
    try rw [← hsp] at HZV
    have hxc := hx
    clear hz0 hsp hx
    have T := Lib.hid T
    clear d0 d1 d2 d3 d4 d5 d6 d7 u0 u1 u2 u3 u4 u5 u6 u7
    go_wp2_with fail
    refine T.out.mono ?_
    rintro r w5 ⟨v, rfl, rfl, he, ht⟩
    have hE := HF4.out.call HB.out.1 he ht
    obtain ⟨⟨d0, d1, d2, d3, d4, d5, d6, d7⟩, u0, u1, u2, u3, u4, u5, u6, u7⟩ := row8 hE.t
    have HE5 := Lib.hid hE
    clear hE he T HF4
    go_upto_region 20 with fail
    obtain ⟨x5, hx5⟩ : ∃ x5, x5 = (w5.setCell ⟨W + 1, 4, none⟩ (.int .i64 (z : Int))) := ⟨_, rfl⟩
    have hE := (HE5.out.set (C' := #[.int .i64 (n : Int), .int .i64 (t : Int), .int .i64 (x : Int), .int .i64 0, .int .i64 (z : Int), .bool (yesB q), .slice none 0 0, .slice none 0 0]) HB.out.1 HB.out.2 HW.out HN.out 4 (.int .i64 (z : Int)) rfl)
    rw [← hx5] at hE ⊢
    have HS5 := Lib.hid (show Turn (fun i => i = W + 1) w5 x5 by rw [hx5]; exact set_turn _ _ _ _)
    clear d0 d1 d2 d3 d4 d5 d6 d7 u0 u1 u2 u3 u4 u5 u6 u7
    obtain ⟨⟨d0, d1, d2, d3, d4, d5, d6, d7⟩, u0, u1, u2, u3, u4, u5, u6, u7⟩ := row8 hE.t
    have HF5 := Lib.hid hE
    clear hE hx5 HE5
    have HX := Lib.hid hxc
    clear hxc
    obtain ⟨⟨o0, o1, o2, o3, o4, o5, o6, o7⟩, p0, p1, p2, p3, p4, p5, p6, p7⟩ := row8 HF5.out.r
    go_wp2_with fail
    have h9 := set8 HF5.out.r (.int .i64 (n : Int)) (.int .i64 (t : Int)) (.int .i64 (x : Int)) (.int .i64 0) (.int .i64 (z : Int)) (.bool (yesB q)) (.slice none 0 0) (.slice none 0 0)
    refine bodyPost_ret (v := .agg #[.int .i64 (n : Int), .int .i64 (t : Int), .int .i64 (x : Int), .int .i64 0, .int .i64 (z : Int), .bool (yesB q), .slice none 0 0, .slice none 0 0]) ?_ rfl ?_
    rotate_left
    · exact Or.inl ⟨by rw [HZ.out]; exact HX.out, _, rfl, ⟨none, 0, none, 0, by (rw [HZV.out] <;> rfl), by rw [HZV.out]; exact lt_nums (y := 0) ⟨by omega, by omega, by omega, by omega, by omega⟩ ⟨it_nil, fun _ => rfl, Nat.zero_le _, Nat.zero_le _⟩ ⟨bt_nil, Nat.zero_le _⟩⟩, by rw [HZ.out]; exact HF5.out.y.turn h9.2 (by have := HB.out; omega) (by have := HB.out; omega) (fun i hi => HN.out i (by have hi : i = W := hi; omega)), HF5.out.n.trans h9.2 (fun i hi e => by have e : i = W := e; have := HW.out; omega)⟩
    exact results_cell_row Try.results29 _ _ W _ #[.int .i64 (n : Int), .int .i64 (t : Int), .int .i64 (x : Int), .int .i64 0, .int .i64 (z : Int), .bool (yesB q), .slice none 0 0, .slice none 0 0] (0, 0) _ rfl h9.1 Try.underlying25 rfl lt_info
  · have HZ := Lib.hid (show zs = ((s2.num MX).num MX).text 65536 by rw [HRF.out, hk]; rfl)
    have HZV := Lib.hid (show zv = ⟨(n : Int), (t : Int), (s2.nv MX : Int), ((s2.num MX).nv MX : Int), ((0 : Nat) : Int), false, [], ((s2.num MX).num MX).tv 65536⟩ by rw [HRV.out, hk]; rfl)
    have q1 : ((n : Int) == 1) = false := by rw [hk]; rfl
    have q2 : ((n : Int) == 2) = false := by rw [hk]; rfl
    have q3 : ((n : Int) == 3) = false := by rw [hk]; rfl
    have q4 : ((n : Int) == 4) = false := by rw [hk]; rfl
    have q5 : ((n : Int) == 5) = true := by rw [hk]; rfl
    have hxc := hx2
    clear hk hk0 hx2 HRF HRV
    have T := readPlace_any e E N s2 x2 HF2.out.y hxc
    have bx : s2.nv MX ≤ 1099511627776 := Nat.le_trans (nv_le _ _) (by decide)
    have bY : (s2.num MX).nv MX ≤ 1099511627776 := Nat.le_trans (nv_le _ _) (by decide)
    clear hxc
    by_cases hx : ((s2.num MX).num MX).e = 0
    rotate_left
    · have T := Lib.hid (rp_no T hx)
      have HX := Lib.hid hx
      clear hx d0 d1 d2 d3 d4 d5 d6 d7 u0 u1 u2 u3 u4 u5 u6 u7
      go_wp2_with (go_at_call 48; refine T.out.mono ?_; rintro r w9 ⟨rfl, he9, ht9⟩; dsimp only [pan]; have HE9 := Lib.hid he9; have HT9 := Lib.hid ht9; clear he9 ht9)
      exact ⟨rfl, rf_no (by rw [HZ.out, text_err HX.out]) HX.out HE9.out HF2.out.n HT9.out⟩
    have T := rp_yes T hx
    obtain ⟨x, hx0⟩ : ∃ x, x = s2.nv MX := ⟨_, rfl⟩
    obtain ⟨y, hy0⟩ : ∃ y, y = (s2.num MX).nv MX := ⟨_, rfl⟩
    rw [← hx0] at T HZV bx
    rw [← hy0] at T HZV bY
    obtain ⟨sp, hsp⟩ : ∃ sp, sp = (s2.num MX).num MX := ⟨_, rfl⟩
    rw [← hsp] at T HZ hx
    try rw [← hsp] at HZV
    have hxc := hx
    clear hx0 hy0 hsp hx
    have T := Lib.hid T
    clear d0 d1 d2 d3 d4 d5 d6 d7 u0 u1 u2 u3 u4 u5 u6 u7
    go_wp2_with fail
    refine T.out.mono ?_
    rintro r w3 ⟨v, rfl, rfl, he, ht⟩
    have hE := HF2.out.call HB.out.1 he ht
    obtain ⟨⟨d0, d1, d2, d3, d4, d5, d6, d7⟩, u0, u1, u2, u3, u4, u5, u6, u7⟩ := row8 hE.t
    have HE3 := Lib.hid hE
    clear hE he T HF2
    go_upto_region 19 with fail
    obtain ⟨x3, hx3⟩ : ∃ x3, x3 = ((w3.setCell ⟨W + 1, 2, none⟩ (.int .i64 (x : Int))).setCell ⟨W + 1, 3, none⟩ (.int .i64 (y : Int))) := ⟨_, rfl⟩
    have hE := ((HE3.out.set (C' := #[.int .i64 (n : Int), .int .i64 (t : Int), .int .i64 (x : Int), .int .i64 0, .int .i64 0, .bool false, .slice none 0 0, .slice none 0 0]) HB.out.1 HB.out.2 HW.out HN.out 2 (.int .i64 (x : Int)) rfl).set (C' := #[.int .i64 (n : Int), .int .i64 (t : Int), .int .i64 (x : Int), .int .i64 (y : Int), .int .i64 0, .bool false, .slice none 0 0, .slice none 0 0]) HB.out.1 HB.out.2 HW.out HN.out 3 (.int .i64 (y : Int)) rfl)
    rw [← hx3] at hE ⊢
    clear d0 d1 d2 d3 d4 d5 d6 d7 u0 u1 u2 u3 u4 u5 u6 u7
    obtain ⟨⟨d0, d1, d2, d3, d4, d5, d6, d7⟩, u0, u1, u2, u3, u4, u5, u6, u7⟩ := row8 hE.t
    have HF3 := Lib.hid hE
    clear hE hx3 HE3
    have T := eye_text e E N sp 65536 x3 HF3.out.y hxc (by decide)
    have hbl : (sp.tv 65536).length ≤ 65536 := tvm_le _ _
    have hsz : W + 1 < x3.heap.size := lt_of_block HF3.out.t
    clear hxc
    by_cases hx : (sp.text 65536).e = 0
    rotate_left
    · have T := Lib.hid (rp_no T hx)
      have HX := Lib.hid hx
      clear hx d0 d1 d2 d3 d4 d5 d6 d7 u0 u1 u2 u3 u4 u5 u6 u7
      go_wp2_with (go_at_call 52; refine T.out.mono ?_; rintro r w9 ⟨rfl, he9, ht9⟩; dsimp only [pan]; have HE9 := Lib.hid he9; have HT9 := Lib.hid ht9; clear he9 ht9)
      exact ⟨rfl, rf_no (by rw [HZ.out]) HX.out HE9.out HF3.out.n HT9.out⟩
    have T := rp_yes T hx
    obtain ⟨b, hb⟩ : ∃ q, q = sp.tv 65536 := ⟨_, rfl⟩
    rw [← hb] at T HZV hbl
    obtain ⟨st, hst⟩ : ∃ q, q = sp.text 65536 := ⟨_, rfl⟩
    rw [← hst] at T HZ hx
    have hxc := hx
    clear hb hst hx
    have T := Lib.hid T
    clear d0 d1 d2 d3 d4 d5 d6 d7 u0 u1 u2 u3 u4 u5 u6 u7
    go_wp2_with fail
    refine T.out.mono ?_
    rintro r w4 ⟨v, rfl, own9, he, ht⟩
    obtain ⟨A9, k9, rfl, hs9, -, hk9, ha9⟩ := own_sl own9
    have HO9 := Lib.hid own9
    have HKA := Lib.hid (And.intro ha9 hk9)
    clear own9 hs9 hk9 ha9
    have hE := HF3.out.call HB.out.1 he ht
    obtain ⟨⟨d0, d1, d2, d3, d4, d5, d6, d7⟩, u0, u1, u2, u3, u4, u5, u6, u7⟩ := row8 hE.t
    have HE4 := Lib.hid hE
    clear hE he T HF3
    go_upto_region 20 with fail
    obtain ⟨x4, hx4⟩ : ∃ x4, x4 = (w4.setCell ⟨W + 1, 7, none⟩ (.slice A9 b.length k9)) := ⟨_, rfl⟩
    have hE := (HE4.out.set (C' := #[.int .i64 (n : Int), .int .i64 (t : Int), .int .i64 (x : Int), .int .i64 (y : Int), .int .i64 0, .bool false, .slice none 0 0, .slice A9 b.length k9]) HB.out.1 HB.out.2 HW.out HN.out 7 (.slice A9 b.length k9) rfl)
    rw [← hx4] at hE ⊢
    have HS4 := Lib.hid (show Turn (fun i => i = W + 1) w4 x4 by rw [hx4]; exact set_turn _ _ _ _)
    clear d0 d1 d2 d3 d4 d5 d6 d7 u0 u1 u2 u3 u4 u5 u6 u7
    obtain ⟨⟨d0, d1, d2, d3, d4, d5, d6, d7⟩, u0, u1, u2, u3, u4, u5, u6, u7⟩ := row8 hE.t
    have HF4 := Lib.hid hE
    clear hE hx4 HE4
    have HX := Lib.hid hxc
    clear hxc
    obtain ⟨⟨o0, o1, o2, o3, o4, o5, o6, o7⟩, p0, p1, p2, p3, p4, p5, p6, p7⟩ := row8 HF4.out.r
    go_wp2_with fail
    have h9 := set8 HF4.out.r (.int .i64 (n : Int)) (.int .i64 (t : Int)) (.int .i64 (x : Int)) (.int .i64 (y : Int)) (.int .i64 0) (.bool false) (.slice none 0 0) (.slice A9 b.length k9)
    refine bodyPost_ret (v := .agg #[.int .i64 (n : Int), .int .i64 (t : Int), .int .i64 (x : Int), .int .i64 (y : Int), .int .i64 0, .bool false, .slice none 0 0, .slice A9 b.length k9]) ?_ rfl ?_
    rotate_left
    · exact Or.inl ⟨by rw [HZ.out]; exact HX.out, _, rfl, ⟨none, 0, A9, k9, by (rw [HZV.out] <;> rfl), by rw [HZV.out]; exact lt_nums (z := 0) ⟨by omega, by omega, by omega, by omega, by omega⟩ ⟨it_nil, fun _ => rfl, Nat.zero_le _, Nat.zero_le _⟩ ⟨⟨((own_sln HO9.out).turn (N' := fun i => i < x3.heap.size) HS4.out (fun i hi => by have hi : i = W + 1 := hi; show i < _; omega) (fun _ _ h => h)).turn h9.2 (fun i hi => by have hi : i = W := hi; show i < _; omega) (fun i _ h => by have h : i < W := h; show i < _; omega), HKA.out.1, HKA.out.2⟩, hbl⟩⟩, by rw [HZ.out]; exact HF4.out.y.turn h9.2 (by have := HB.out; omega) (by have := HB.out; omega) (fun i hi => HN.out i (by have hi : i = W := hi; omega)), HF4.out.n.trans h9.2 (fun i hi e => by have e : i = W := e; have := HW.out; omega)⟩
    exact results_cell_row Try.results29 _ _ W _ #[.int .i64 (n : Int), .int .i64 (t : Int), .int .i64 (x : Int), .int .i64 (y : Int), .int .i64 0, .bool false, .slice none 0 0, .slice A9 b.length k9] (0, 0) _ rfl h9.1 Try.underlying25 rfl lt_info
end Go.Proofs.Ytaicpclkdpbacaa
