/- The landed letter: Put. -/
import Derived.Test.YtaicpclkdpbacaaLtUX
set_option linter.unusedVariables false
set_option linter.unusedSimpArgs false
namespace Go.Proofs.Ytaicpclkdpbacaa
open Go.RowKit
theorem yesN_le (s : Bool) : yesN s < 18446744073709551616 := by cases s <;> decide
/-- What Put answers. -/
def putL (l : Ltr) : List B8 := if okL l = true then formL l else []
set_option maxRecDepth 100000 in
set_option maxHeartbeats 8000000 in
theorem lput1 (A S : Option Addr) (cA cS : Nat) (N : Nat → Prop) (t x y z : Nat) (s : Bool) (its : List Itm) (b : List B8) (w : World) (h : LtN w N A cA S cS ⟨1, (t : Int), (x : Int), (y : Int), (z : Int), s, its, b⟩) (hok : okL ⟨1, (t : Int), (x : Int), (y : Int), (z : Int), s, its, b⟩ = true) :
    Calls Try.prog 9 #[.agg #[.int .i64 1, .int .i64 (t : Int), .int .i64 (x : Int), .int .i64 (y : Int), .int .i64 (z : Int), .bool s, .slice A its.length cA, .slice S b.length cS]] w fun e w' => ∃ u, e = .returned (.tuple #[u, .bool true]) ∧ w'.ownsRow w.heap.size 5 1 u (formL ⟨1, (t : Int), (x : Int), (y : Int), (z : Int), s, its, b⟩).length ((formL ⟨1, (t : Int), (x : Int), (y : Int), (z : Int), s, its, b⟩).map bv) ∧ Turn (fun _ => False) w w' := by
  obtain ⟨⟨-, -, pt, px, py, pz, n16, nb⟩, hits, -⟩ := okL_parts hok
  obtain ⟨-, pt⟩ := pt
  obtain ⟨-, px⟩ := px
  obtain ⟨-, py⟩ := py
  obtain ⟨-, pz⟩ := pz
  dsimp only at pt px py pz n16 nb hits
  have n0 := numB_le (n := 1) (by omega)
  have n1 := numB_le (n := t) (by omega)
  have n2 := numB_le (n := x) (by omega)
  have n3 := numB_le (n := y) (by omega)
  have n4 := numB_le (n := z) (by omega)
  have n5 := numB_le (yesN_le s)
  have n6 := numB_le (n := its.length) (by omega)
  have n7 := itsF_le hits
  have n8 := numB_le (n := b.length) (by omega)
  have HITS := Lib.hid hits
  have HFM := Lib.hid (show formL ⟨1, (t : Int), (x : Int), (y : Int), (z : Int), s, its, b⟩ = (numB 1 ++ numB t) ++ (numB x ++ numB y) by simp [formL, headF])
  obtain ⟨g, hg⟩ : ∃ g, g = w.heap.size := ⟨_, rfl⟩
  obtain ⟨w0, hw0⟩ : ∃ w0, w0 = w.alloc (.cells #[.int .i64 1, .int .i64 (t : Int), .int .i64 (x : Int), .int .i64 (y : Int), .int .i64 (z : Int), .bool s, .slice A its.length cA, .slice S b.length cS] 25) := ⟨_, rfl⟩
  have hT0 : Turn (fun _ => False) w w0 := by rw [hw0]; exact (Turn.refl _ _).alloc _
  have hg0 : w0.heap[g]? = some (.cells #[.int .i64 1, .int .i64 (t : Int), .int .i64 (x : Int), .int .i64 (y : Int), .int .i64 (z : Int), .bool s, .slice A its.length cA, .slice S b.length cS] 25 (0, 0)) := by rw [hw0, hg]; exact heap_alloc_new _ _
  have HC := right_any A S cA cS N ⟨1, (t : Int), (x : Int), (y : Int), (z : Int), s, its, b⟩ w0 (h.quiet hT0)
  rw [hok] at HC
  have HC := Lib.hid HC
  have HH := Lib.hid h
  have HT0 := Lib.hid hT0
  have HGX := Lib.hid hg0
  have HGG := Lib.hid hg
  obtain ⟨⟨c0, c1, c2, c3, c4, c5, c6, c7⟩, -⟩ := row8 hg0
  clear h hT0 hits hok
  go_enter Try.func9, Try.ntmps9
  go_upto_region 1 with fail
  change Code.wp _ _ _ _ (w.alloc (.cells #[.int .i64 1, .int .i64 (t : Int), .int .i64 (x : Int), .int .i64 (y : Int), .int .i64 (z : Int), .bool s, .slice A its.length cA, .slice S b.length cS] 25))
  rw [← hw0, ← hg]
  clear hw0 hg hg0
  go_wp2_with (go_at_call 11; refine HC.out.mono ?_; rintro r w1 ⟨rfl, t1⟩; have HT1 := Lib.hid t1; clear c0 c1 c2 c3 c4 c5 c6 c7; have g2 := Lib.hid ((t1.alloc (.cells #[.slice none 0 0] 42)).heap HGX.out (fun h => h)); obtain ⟨⟨c0, c1, c2, c3, c4, c5, c6, c7⟩, -⟩ := row8 g2.out; clear t1)
  have hws : g < w1.heap.size := lt_of_block (HT1.out.heap HGX.out (fun h => h))
  have hwg : w.heap.size = g := HGG.out.symm
  obtain ⟨w2, hw2⟩ : ∃ w2, w2 = w1.alloc (.cells #[.slice none 0 0] 42) := ⟨_, rfl⟩
  have hp2 : PenAt w2 w1.heap.size (w1.heap.size + 1) (.slice none 0 0) [] := by rw [hw2]; exact ⟨heap_alloc_new _ _, World.ownsRow_nil _ _ _ _, by omega, by simp⟩
  have ht2 : Turn (fun _ => False) w0 w2 := by rw [hw2]; exact HT1.out.alloc _
  rw [← hw2] at g2 ⊢
  have HT2 := Lib.hid (HT0.out.trans ht2 (fun _ _ h => h))
  have HL2 := Lib.hid (HH.out.turn (N' := fun i => w1.heap.size ≤ i) HT2.out (fun _ h => h.elim) (fun i hi h => absurd h (by omega)))
  have T2 := Lib.hid (pnum_any w1.heap.size _ _ [] 1 w2 hp2 (by omega) (by simp))
  have HP2 := Lib.hid hp2
  have HG2 := Lib.hid g2.out
  have ST2 := Lib.hid (PenStep.refl w2 w1.heap.size (.slice none 0 0))
  have HSZ := Lib.hid (show w.heap.size ≤ w1.heap.size by omega)
  generalize w1.heap.size = p at *
  have HGP := Lib.hid hws
  clear hw2 hp2 ht2 g2 hws hwg HC HT1
  refine T2.out.mono ?_
  rintro r w3 ⟨rfl, v3, hp3, st3⟩
  rw [List.nil_append] at hp3
  have HG3 := Lib.hid (st3.1.heap HG2.out (HP2.out.low HGP.out))
  have HL3 := Lib.hid (HL2.out.pen HP2.out st3)
  have ST3 := Lib.hid (ST2.out.trans st3)
  have HP3 := Lib.hid hp3
  clear c0 c1 c2 c3 c4 c5 c6 c7 hp3 st3 T2 HG2 HL2 ST2 HP2
  obtain ⟨⟨c0, c1, c2, c3, c4, c5, c6, c7⟩, -⟩ := row8 HG3.out
  have T3 := Lib.hid (pnum_any p _ v3 _ t w3 HP3.out (by omega) (by first | omega | (simp only [List.length_append]; omega)))
  go_wp2_with fail
  refine T3.out.mono ?_
  rintro r w4 ⟨rfl, v4, hp4, st4⟩
  have HG4 := Lib.hid (st4.1.heap HG3.out (HP3.out.low HGP.out))
  have HL4 := Lib.hid (HL3.out.pen HP3.out st4)
  have ST4 := Lib.hid (ST3.out.trans st4)
  have HP4 := Lib.hid hp4
  clear c0 c1 c2 c3 c4 c5 c6 c7 hp4 st4 T3 HG3 HL3 ST3 HP3
  obtain ⟨⟨c0, c1, c2, c3, c4, c5, c6, c7⟩, -⟩ := row8 HG4.out
  have T4 := Lib.hid (putPlace_any p _ x y v4 _ A S cA cS ⟨1, (t : Int), (x : Int), (y : Int), (z : Int), s, its, b⟩ w4 HP4.out rfl rfl (by omega) (by omega) (by first | omega | (simp only [List.length_append]; omega)))
  go_wp2_with fail
  refine T4.out.mono ?_
  rintro r w5 ⟨rfl, v5, hp5, st5⟩
  have HG5 := Lib.hid (st5.1.heap HG4.out (HP4.out.low HGP.out))
  have HL5 := Lib.hid (HL4.out.pen HP4.out st5)
  have ST5 := Lib.hid (ST4.out.trans st5)
  have HP5 := Lib.hid hp5
  clear c0 c1 c2 c3 c4 c5 c6 c7 hp5 st5 T4 HG4 HL4 ST4 HP4
  have TB := Lib.hid (pbytes_any p _ v5 _ w5 HP5.out (by first | omega | (simp only [List.length_append]; omega)))
  go_wp2_with fail
  refine TB.out.mono ?_
  rintro r w9 ⟨u, rfl, own9, t9⟩
  have HO9 := Lib.hid own9
  have HT9 := Lib.hid t9
  clear own9 t9 TB
  go_wp2
  go_ret2
  refine ⟨u, rfl, ?_, ?_⟩
  · rw [HFM.out]
    have h := own_more HO9.out (base' := w.heap.size) (by have := HT2.out.size; have := ST5.out.1.size; omega)
    simp only [List.append_assoc] at h ⊢
    exact h
  · refine (HT2.out.trans ST5.out.1 (fun i hi h => ?_)).trans HT9.out (fun _ _ h => h)
    have := HSZ.out
    rcases h with h | h
    · omega
    · cases h
set_option maxRecDepth 100000 in
set_option maxHeartbeats 8000000 in
theorem lput2 (A S : Option Addr) (cA cS : Nat) (N : Nat → Prop) (t x y z : Nat) (s : Bool) (its : List Itm) (b : List B8) (w : World) (h : LtN w N A cA S cS ⟨2, (t : Int), (x : Int), (y : Int), (z : Int), s, its, b⟩) (hok : okL ⟨2, (t : Int), (x : Int), (y : Int), (z : Int), s, its, b⟩ = true) :
    Calls Try.prog 9 #[.agg #[.int .i64 2, .int .i64 (t : Int), .int .i64 (x : Int), .int .i64 (y : Int), .int .i64 (z : Int), .bool s, .slice A its.length cA, .slice S b.length cS]] w fun e w' => ∃ u, e = .returned (.tuple #[u, .bool true]) ∧ w'.ownsRow w.heap.size 5 1 u (formL ⟨2, (t : Int), (x : Int), (y : Int), (z : Int), s, its, b⟩).length ((formL ⟨2, (t : Int), (x : Int), (y : Int), (z : Int), s, its, b⟩).map bv) ∧ Turn (fun _ => False) w w' := by
  obtain ⟨⟨-, -, pt, px, py, pz, n16, nb⟩, hits, -⟩ := okL_parts hok
  obtain ⟨-, pt⟩ := pt
  obtain ⟨-, px⟩ := px
  obtain ⟨-, py⟩ := py
  obtain ⟨-, pz⟩ := pz
  dsimp only at pt px py pz n16 nb hits
  have n0 := numB_le (n := 2) (by omega)
  have n1 := numB_le (n := t) (by omega)
  have n2 := numB_le (n := x) (by omega)
  have n3 := numB_le (n := y) (by omega)
  have n4 := numB_le (n := z) (by omega)
  have n5 := numB_le (yesN_le s)
  have n6 := numB_le (n := its.length) (by omega)
  have n7 := itsF_le hits
  have n8 := numB_le (n := b.length) (by omega)
  have HITS := Lib.hid hits
  have HFM := Lib.hid (show formL ⟨2, (t : Int), (x : Int), (y : Int), (z : Int), s, its, b⟩ = (numB 2 ++ numB t) ++ (numB (yesN s)) by simp [formL, headF])
  obtain ⟨g, hg⟩ : ∃ g, g = w.heap.size := ⟨_, rfl⟩
  obtain ⟨w0, hw0⟩ : ∃ w0, w0 = w.alloc (.cells #[.int .i64 2, .int .i64 (t : Int), .int .i64 (x : Int), .int .i64 (y : Int), .int .i64 (z : Int), .bool s, .slice A its.length cA, .slice S b.length cS] 25) := ⟨_, rfl⟩
  have hT0 : Turn (fun _ => False) w w0 := by rw [hw0]; exact (Turn.refl _ _).alloc _
  have hg0 : w0.heap[g]? = some (.cells #[.int .i64 2, .int .i64 (t : Int), .int .i64 (x : Int), .int .i64 (y : Int), .int .i64 (z : Int), .bool s, .slice A its.length cA, .slice S b.length cS] 25 (0, 0)) := by rw [hw0, hg]; exact heap_alloc_new _ _
  have HC := right_any A S cA cS N ⟨2, (t : Int), (x : Int), (y : Int), (z : Int), s, its, b⟩ w0 (h.quiet hT0)
  rw [hok] at HC
  have HC := Lib.hid HC
  have HH := Lib.hid h
  have HT0 := Lib.hid hT0
  have HGX := Lib.hid hg0
  have HGG := Lib.hid hg
  obtain ⟨⟨c0, c1, c2, c3, c4, c5, c6, c7⟩, -⟩ := row8 hg0
  clear h hT0 hits hok
  go_enter Try.func9, Try.ntmps9
  go_upto_region 1 with fail
  change Code.wp _ _ _ _ (w.alloc (.cells #[.int .i64 2, .int .i64 (t : Int), .int .i64 (x : Int), .int .i64 (y : Int), .int .i64 (z : Int), .bool s, .slice A its.length cA, .slice S b.length cS] 25))
  rw [← hw0, ← hg]
  clear hw0 hg hg0
  go_wp2_with (go_at_call 11; refine HC.out.mono ?_; rintro r w1 ⟨rfl, t1⟩; have HT1 := Lib.hid t1; clear c0 c1 c2 c3 c4 c5 c6 c7; have g2 := Lib.hid ((t1.alloc (.cells #[.slice none 0 0] 42)).heap HGX.out (fun h => h)); obtain ⟨⟨c0, c1, c2, c3, c4, c5, c6, c7⟩, -⟩ := row8 g2.out; clear t1)
  have hws : g < w1.heap.size := lt_of_block (HT1.out.heap HGX.out (fun h => h))
  have hwg : w.heap.size = g := HGG.out.symm
  obtain ⟨w2, hw2⟩ : ∃ w2, w2 = w1.alloc (.cells #[.slice none 0 0] 42) := ⟨_, rfl⟩
  have hp2 : PenAt w2 w1.heap.size (w1.heap.size + 1) (.slice none 0 0) [] := by rw [hw2]; exact ⟨heap_alloc_new _ _, World.ownsRow_nil _ _ _ _, by omega, by simp⟩
  have ht2 : Turn (fun _ => False) w0 w2 := by rw [hw2]; exact HT1.out.alloc _
  rw [← hw2] at g2 ⊢
  have HT2 := Lib.hid (HT0.out.trans ht2 (fun _ _ h => h))
  have HL2 := Lib.hid (HH.out.turn (N' := fun i => w1.heap.size ≤ i) HT2.out (fun _ h => h.elim) (fun i hi h => absurd h (by omega)))
  have T2 := Lib.hid (pnum_any w1.heap.size _ _ [] 2 w2 hp2 (by omega) (by simp))
  have HP2 := Lib.hid hp2
  have HG2 := Lib.hid g2.out
  have ST2 := Lib.hid (PenStep.refl w2 w1.heap.size (.slice none 0 0))
  have HSZ := Lib.hid (show w.heap.size ≤ w1.heap.size by omega)
  generalize w1.heap.size = p at *
  have HGP := Lib.hid hws
  clear hw2 hp2 ht2 g2 hws hwg HC HT1
  refine T2.out.mono ?_
  rintro r w3 ⟨rfl, v3, hp3, st3⟩
  rw [List.nil_append] at hp3
  have HG3 := Lib.hid (st3.1.heap HG2.out (HP2.out.low HGP.out))
  have HL3 := Lib.hid (HL2.out.pen HP2.out st3)
  have ST3 := Lib.hid (ST2.out.trans st3)
  have HP3 := Lib.hid hp3
  clear c0 c1 c2 c3 c4 c5 c6 c7 hp3 st3 T2 HG2 HL2 ST2 HP2
  obtain ⟨⟨c0, c1, c2, c3, c4, c5, c6, c7⟩, -⟩ := row8 HG3.out
  have T3 := Lib.hid (pnum_any p _ v3 _ t w3 HP3.out (by omega) (by first | omega | (simp only [List.length_append]; omega)))
  go_wp2_with fail
  refine T3.out.mono ?_
  rintro r w4 ⟨rfl, v4, hp4, st4⟩
  have HG4 := Lib.hid (st4.1.heap HG3.out (HP3.out.low HGP.out))
  have HL4 := Lib.hid (HL3.out.pen HP3.out st4)
  have ST4 := Lib.hid (ST3.out.trans st4)
  have HP4 := Lib.hid hp4
  clear c0 c1 c2 c3 c4 c5 c6 c7 hp4 st4 T3 HG3 HL3 ST3 HP3
  obtain ⟨⟨c0, c1, c2, c3, c4, c5, c6, c7⟩, -⟩ := row8 HG4.out
  have T4 := Lib.hid (putYes_any p _ v4 _ s w4 HP4.out (by first | omega | (simp only [List.length_append]; omega)))
  go_wp2_with fail
  refine T4.out.mono ?_
  rintro r w5 ⟨rfl, v5, hp5, st5⟩
  have HG5 := Lib.hid (st5.1.heap HG4.out (HP4.out.low HGP.out))
  have HL5 := Lib.hid (HL4.out.pen HP4.out st5)
  have ST5 := Lib.hid (ST4.out.trans st5)
  have HP5 := Lib.hid hp5
  clear c0 c1 c2 c3 c4 c5 c6 c7 hp5 st5 T4 HG4 HL4 ST4 HP4
  have TB := Lib.hid (pbytes_any p _ v5 _ w5 HP5.out (by first | omega | (simp only [List.length_append]; omega)))
  go_wp2_with fail
  refine TB.out.mono ?_
  rintro r w9 ⟨u, rfl, own9, t9⟩
  have HO9 := Lib.hid own9
  have HT9 := Lib.hid t9
  clear own9 t9 TB
  go_wp2
  go_ret2
  refine ⟨u, rfl, ?_, ?_⟩
  · rw [HFM.out]
    have h := own_more HO9.out (base' := w.heap.size) (by have := HT2.out.size; have := ST5.out.1.size; omega)
    simp only [List.append_assoc] at h ⊢
    exact h
  · refine (HT2.out.trans ST5.out.1 (fun i hi h => ?_)).trans HT9.out (fun _ _ h => h)
    have := HSZ.out
    rcases h with h | h
    · omega
    · cases h
set_option maxRecDepth 100000 in
set_option maxHeartbeats 8000000 in
theorem lput3 (A S : Option Addr) (cA cS : Nat) (N : Nat → Prop) (t x y z : Nat) (s : Bool) (its : List Itm) (b : List B8) (w : World) (h : LtN w N A cA S cS ⟨3, (t : Int), (x : Int), (y : Int), (z : Int), s, its, b⟩) (hok : okL ⟨3, (t : Int), (x : Int), (y : Int), (z : Int), s, its, b⟩ = true) :
    Calls Try.prog 9 #[.agg #[.int .i64 3, .int .i64 (t : Int), .int .i64 (x : Int), .int .i64 (y : Int), .int .i64 (z : Int), .bool s, .slice A its.length cA, .slice S b.length cS]] w fun e w' => ∃ u, e = .returned (.tuple #[u, .bool true]) ∧ w'.ownsRow w.heap.size 5 1 u (formL ⟨3, (t : Int), (x : Int), (y : Int), (z : Int), s, its, b⟩).length ((formL ⟨3, (t : Int), (x : Int), (y : Int), (z : Int), s, its, b⟩).map bv) ∧ Turn (fun _ => False) w w' := by
  obtain ⟨⟨-, -, pt, px, py, pz, n16, nb⟩, hits, -⟩ := okL_parts hok
  obtain ⟨-, pt⟩ := pt
  obtain ⟨-, px⟩ := px
  obtain ⟨-, py⟩ := py
  obtain ⟨-, pz⟩ := pz
  dsimp only at pt px py pz n16 nb hits
  have n0 := numB_le (n := 3) (by omega)
  have n1 := numB_le (n := t) (by omega)
  have n2 := numB_le (n := x) (by omega)
  have n3 := numB_le (n := y) (by omega)
  have n4 := numB_le (n := z) (by omega)
  have n5 := numB_le (yesN_le s)
  have n6 := numB_le (n := its.length) (by omega)
  have n7 := itsF_le hits
  have n8 := numB_le (n := b.length) (by omega)
  have HITS := Lib.hid hits
  have HFM := Lib.hid (show formL ⟨3, (t : Int), (x : Int), (y : Int), (z : Int), s, its, b⟩ = (numB 3 ++ numB t) ++ ((numB x ++ numB y) ++ (numB z ++ (numB its.length ++ itsF its))) by simp [formL, headF])
  obtain ⟨g, hg⟩ : ∃ g, g = w.heap.size := ⟨_, rfl⟩
  obtain ⟨w0, hw0⟩ : ∃ w0, w0 = w.alloc (.cells #[.int .i64 3, .int .i64 (t : Int), .int .i64 (x : Int), .int .i64 (y : Int), .int .i64 (z : Int), .bool s, .slice A its.length cA, .slice S b.length cS] 25) := ⟨_, rfl⟩
  have hT0 : Turn (fun _ => False) w w0 := by rw [hw0]; exact (Turn.refl _ _).alloc _
  have hg0 : w0.heap[g]? = some (.cells #[.int .i64 3, .int .i64 (t : Int), .int .i64 (x : Int), .int .i64 (y : Int), .int .i64 (z : Int), .bool s, .slice A its.length cA, .slice S b.length cS] 25 (0, 0)) := by rw [hw0, hg]; exact heap_alloc_new _ _
  have HC := right_any A S cA cS N ⟨3, (t : Int), (x : Int), (y : Int), (z : Int), s, its, b⟩ w0 (h.quiet hT0)
  rw [hok] at HC
  have HC := Lib.hid HC
  have HH := Lib.hid h
  have HT0 := Lib.hid hT0
  have HGX := Lib.hid hg0
  have HGG := Lib.hid hg
  obtain ⟨⟨c0, c1, c2, c3, c4, c5, c6, c7⟩, -⟩ := row8 hg0
  clear h hT0 hits hok
  go_enter Try.func9, Try.ntmps9
  go_upto_region 1 with fail
  change Code.wp _ _ _ _ (w.alloc (.cells #[.int .i64 3, .int .i64 (t : Int), .int .i64 (x : Int), .int .i64 (y : Int), .int .i64 (z : Int), .bool s, .slice A its.length cA, .slice S b.length cS] 25))
  rw [← hw0, ← hg]
  clear hw0 hg hg0
  go_wp2_with (go_at_call 11; refine HC.out.mono ?_; rintro r w1 ⟨rfl, t1⟩; have HT1 := Lib.hid t1; clear c0 c1 c2 c3 c4 c5 c6 c7; have g2 := Lib.hid ((t1.alloc (.cells #[.slice none 0 0] 42)).heap HGX.out (fun h => h)); obtain ⟨⟨c0, c1, c2, c3, c4, c5, c6, c7⟩, -⟩ := row8 g2.out; clear t1)
  have hws : g < w1.heap.size := lt_of_block (HT1.out.heap HGX.out (fun h => h))
  have hwg : w.heap.size = g := HGG.out.symm
  obtain ⟨w2, hw2⟩ : ∃ w2, w2 = w1.alloc (.cells #[.slice none 0 0] 42) := ⟨_, rfl⟩
  have hp2 : PenAt w2 w1.heap.size (w1.heap.size + 1) (.slice none 0 0) [] := by rw [hw2]; exact ⟨heap_alloc_new _ _, World.ownsRow_nil _ _ _ _, by omega, by simp⟩
  have ht2 : Turn (fun _ => False) w0 w2 := by rw [hw2]; exact HT1.out.alloc _
  rw [← hw2] at g2 ⊢
  have HT2 := Lib.hid (HT0.out.trans ht2 (fun _ _ h => h))
  have HL2 := Lib.hid (HH.out.turn (N' := fun i => w1.heap.size ≤ i) HT2.out (fun _ h => h.elim) (fun i hi h => absurd h (by omega)))
  have T2 := Lib.hid (pnum_any w1.heap.size _ _ [] 3 w2 hp2 (by omega) (by simp))
  have HP2 := Lib.hid hp2
  have HG2 := Lib.hid g2.out
  have ST2 := Lib.hid (PenStep.refl w2 w1.heap.size (.slice none 0 0))
  have HSZ := Lib.hid (show w.heap.size ≤ w1.heap.size by omega)
  generalize w1.heap.size = p at *
  have HGP := Lib.hid hws
  clear hw2 hp2 ht2 g2 hws hwg HC HT1
  refine T2.out.mono ?_
  rintro r w3 ⟨rfl, v3, hp3, st3⟩
  rw [List.nil_append] at hp3
  have HG3 := Lib.hid (st3.1.heap HG2.out (HP2.out.low HGP.out))
  have HL3 := Lib.hid (HL2.out.pen HP2.out st3)
  have ST3 := Lib.hid (ST2.out.trans st3)
  have HP3 := Lib.hid hp3
  clear c0 c1 c2 c3 c4 c5 c6 c7 hp3 st3 T2 HG2 HL2 ST2 HP2
  obtain ⟨⟨c0, c1, c2, c3, c4, c5, c6, c7⟩, -⟩ := row8 HG3.out
  have T3 := Lib.hid (pnum_any p _ v3 _ t w3 HP3.out (by omega) (by first | omega | (simp only [List.length_append]; omega)))
  go_wp2_with fail
  refine T3.out.mono ?_
  rintro r w4 ⟨rfl, v4, hp4, st4⟩
  have HG4 := Lib.hid (st4.1.heap HG3.out (HP3.out.low HGP.out))
  have HL4 := Lib.hid (HL3.out.pen HP3.out st4)
  have ST4 := Lib.hid (ST3.out.trans st4)
  have HP4 := Lib.hid hp4
  clear c0 c1 c2 c3 c4 c5 c6 c7 hp4 st4 T3 HG3 HL3 ST3 HP3
  obtain ⟨⟨c0, c1, c2, c3, c4, c5, c6, c7⟩, -⟩ := row8 HG4.out
  have T4 := Lib.hid (putPlace_any p _ x y v4 _ A S cA cS ⟨3, (t : Int), (x : Int), (y : Int), (z : Int), s, its, b⟩ w4 HP4.out rfl rfl (by omega) (by omega) (by first | omega | (simp only [List.length_append]; omega)))
  go_wp2_with fail
  refine T4.out.mono ?_
  rintro r w5 ⟨rfl, v5, hp5, st5⟩
  have HG5 := Lib.hid (st5.1.heap HG4.out (HP4.out.low HGP.out))
  have HL5 := Lib.hid (HL4.out.pen HP4.out st5)
  have ST5 := Lib.hid (ST4.out.trans st5)
  have HP5 := Lib.hid hp5
  clear c0 c1 c2 c3 c4 c5 c6 c7 hp5 st5 T4 HG4 HL4 ST4 HP4
  obtain ⟨⟨c0, c1, c2, c3, c4, c5, c6, c7⟩, -⟩ := row8 HG5.out
  have T5 := Lib.hid (pnum_any p _ v5 _ z w5 HP5.out (by omega) (by first | omega | (simp only [List.length_append]; omega)))
  go_wp2_with fail
  refine T5.out.mono ?_
  rintro r w6 ⟨rfl, v6, hp6, st6⟩
  have HG6 := Lib.hid (st6.1.heap HG5.out (HP5.out.low HGP.out))
  have HL6 := Lib.hid (HL5.out.pen HP5.out st6)
  have ST6 := Lib.hid (ST5.out.trans st6)
  have HP6 := Lib.hid hp6
  clear c0 c1 c2 c3 c4 c5 c6 c7 hp6 st6 T5 HG5 HL5 ST5 HP5
  obtain ⟨⟨c0, c1, c2, c3, c4, c5, c6, c7⟩, -⟩ := row8 HG6.out
  have T6 := Lib.hid (putItems_any p _ v6 _ A cA its w6 HP6.out HL6.out.its n16 HITS.out (by first | omega | (simp only [List.length_append]; omega)))
  go_wp2_with fail
  refine T6.out.mono ?_
  rintro r w7 ⟨rfl, v7, hp7, st7⟩
  have HG7 := Lib.hid (st7.1.heap HG6.out (HP6.out.low HGP.out))
  have HL7 := Lib.hid (HL6.out.pen HP6.out st7)
  have ST7 := Lib.hid (ST6.out.trans st7)
  have HP7 := Lib.hid hp7
  clear c0 c1 c2 c3 c4 c5 c6 c7 hp7 st7 T6 HG6 HL6 ST6 HP6
  have TB := Lib.hid (pbytes_any p _ v7 _ w7 HP7.out (by first | omega | (simp only [List.length_append]; omega)))
  go_wp2_with fail
  refine TB.out.mono ?_
  rintro r w9 ⟨u, rfl, own9, t9⟩
  have HO9 := Lib.hid own9
  have HT9 := Lib.hid t9
  clear own9 t9 TB
  go_wp2
  go_ret2
  refine ⟨u, rfl, ?_, ?_⟩
  · rw [HFM.out]
    have h := own_more HO9.out (base' := w.heap.size) (by have := HT2.out.size; have := ST7.out.1.size; omega)
    simp only [List.append_assoc] at h ⊢
    exact h
  · refine (HT2.out.trans ST7.out.1 (fun i hi h => ?_)).trans HT9.out (fun _ _ h => h)
    have := HSZ.out
    rcases h with h | h
    · omega
    · cases h
set_option maxRecDepth 100000 in
set_option maxHeartbeats 8000000 in
theorem lput4 (A S : Option Addr) (cA cS : Nat) (N : Nat → Prop) (t x y z : Nat) (s : Bool) (its : List Itm) (b : List B8) (w : World) (h : LtN w N A cA S cS ⟨4, (t : Int), (x : Int), (y : Int), (z : Int), s, its, b⟩) (hok : okL ⟨4, (t : Int), (x : Int), (y : Int), (z : Int), s, its, b⟩ = true) :
    Calls Try.prog 9 #[.agg #[.int .i64 4, .int .i64 (t : Int), .int .i64 (x : Int), .int .i64 (y : Int), .int .i64 (z : Int), .bool s, .slice A its.length cA, .slice S b.length cS]] w fun e w' => ∃ u, e = .returned (.tuple #[u, .bool true]) ∧ w'.ownsRow w.heap.size 5 1 u (formL ⟨4, (t : Int), (x : Int), (y : Int), (z : Int), s, its, b⟩).length ((formL ⟨4, (t : Int), (x : Int), (y : Int), (z : Int), s, its, b⟩).map bv) ∧ Turn (fun _ => False) w w' := by
  obtain ⟨⟨-, -, pt, px, py, pz, n16, nb⟩, hits, -⟩ := okL_parts hok
  obtain ⟨-, pt⟩ := pt
  obtain ⟨-, px⟩ := px
  obtain ⟨-, py⟩ := py
  obtain ⟨-, pz⟩ := pz
  dsimp only at pt px py pz n16 nb hits
  have n0 := numB_le (n := 4) (by omega)
  have n1 := numB_le (n := t) (by omega)
  have n2 := numB_le (n := x) (by omega)
  have n3 := numB_le (n := y) (by omega)
  have n4 := numB_le (n := z) (by omega)
  have n5 := numB_le (yesN_le s)
  have n6 := numB_le (n := its.length) (by omega)
  have n7 := itsF_le hits
  have n8 := numB_le (n := b.length) (by omega)
  have HITS := Lib.hid hits
  have HFM := Lib.hid (show formL ⟨4, (t : Int), (x : Int), (y : Int), (z : Int), s, its, b⟩ = (numB 4 ++ numB t) ++ (numB (yesN s) ++ (numB x ++ numB z)) by simp [formL, headF])
  obtain ⟨g, hg⟩ : ∃ g, g = w.heap.size := ⟨_, rfl⟩
  obtain ⟨w0, hw0⟩ : ∃ w0, w0 = w.alloc (.cells #[.int .i64 4, .int .i64 (t : Int), .int .i64 (x : Int), .int .i64 (y : Int), .int .i64 (z : Int), .bool s, .slice A its.length cA, .slice S b.length cS] 25) := ⟨_, rfl⟩
  have hT0 : Turn (fun _ => False) w w0 := by rw [hw0]; exact (Turn.refl _ _).alloc _
  have hg0 : w0.heap[g]? = some (.cells #[.int .i64 4, .int .i64 (t : Int), .int .i64 (x : Int), .int .i64 (y : Int), .int .i64 (z : Int), .bool s, .slice A its.length cA, .slice S b.length cS] 25 (0, 0)) := by rw [hw0, hg]; exact heap_alloc_new _ _
  have HC := right_any A S cA cS N ⟨4, (t : Int), (x : Int), (y : Int), (z : Int), s, its, b⟩ w0 (h.quiet hT0)
  rw [hok] at HC
  have HC := Lib.hid HC
  have HH := Lib.hid h
  have HT0 := Lib.hid hT0
  have HGX := Lib.hid hg0
  have HGG := Lib.hid hg
  obtain ⟨⟨c0, c1, c2, c3, c4, c5, c6, c7⟩, -⟩ := row8 hg0
  clear h hT0 hits hok
  go_enter Try.func9, Try.ntmps9
  go_upto_region 1 with fail
  change Code.wp _ _ _ _ (w.alloc (.cells #[.int .i64 4, .int .i64 (t : Int), .int .i64 (x : Int), .int .i64 (y : Int), .int .i64 (z : Int), .bool s, .slice A its.length cA, .slice S b.length cS] 25))
  rw [← hw0, ← hg]
  clear hw0 hg hg0
  go_wp2_with (go_at_call 11; refine HC.out.mono ?_; rintro r w1 ⟨rfl, t1⟩; have HT1 := Lib.hid t1; clear c0 c1 c2 c3 c4 c5 c6 c7; have g2 := Lib.hid ((t1.alloc (.cells #[.slice none 0 0] 42)).heap HGX.out (fun h => h)); obtain ⟨⟨c0, c1, c2, c3, c4, c5, c6, c7⟩, -⟩ := row8 g2.out; clear t1)
  have hws : g < w1.heap.size := lt_of_block (HT1.out.heap HGX.out (fun h => h))
  have hwg : w.heap.size = g := HGG.out.symm
  obtain ⟨w2, hw2⟩ : ∃ w2, w2 = w1.alloc (.cells #[.slice none 0 0] 42) := ⟨_, rfl⟩
  have hp2 : PenAt w2 w1.heap.size (w1.heap.size + 1) (.slice none 0 0) [] := by rw [hw2]; exact ⟨heap_alloc_new _ _, World.ownsRow_nil _ _ _ _, by omega, by simp⟩
  have ht2 : Turn (fun _ => False) w0 w2 := by rw [hw2]; exact HT1.out.alloc _
  rw [← hw2] at g2 ⊢
  have HT2 := Lib.hid (HT0.out.trans ht2 (fun _ _ h => h))
  have HL2 := Lib.hid (HH.out.turn (N' := fun i => w1.heap.size ≤ i) HT2.out (fun _ h => h.elim) (fun i hi h => absurd h (by omega)))
  have T2 := Lib.hid (pnum_any w1.heap.size _ _ [] 4 w2 hp2 (by omega) (by simp))
  have HP2 := Lib.hid hp2
  have HG2 := Lib.hid g2.out
  have ST2 := Lib.hid (PenStep.refl w2 w1.heap.size (.slice none 0 0))
  have HSZ := Lib.hid (show w.heap.size ≤ w1.heap.size by omega)
  generalize w1.heap.size = p at *
  have HGP := Lib.hid hws
  clear hw2 hp2 ht2 g2 hws hwg HC HT1
  refine T2.out.mono ?_
  rintro r w3 ⟨rfl, v3, hp3, st3⟩
  rw [List.nil_append] at hp3
  have HG3 := Lib.hid (st3.1.heap HG2.out (HP2.out.low HGP.out))
  have HL3 := Lib.hid (HL2.out.pen HP2.out st3)
  have ST3 := Lib.hid (ST2.out.trans st3)
  have HP3 := Lib.hid hp3
  clear c0 c1 c2 c3 c4 c5 c6 c7 hp3 st3 T2 HG2 HL2 ST2 HP2
  obtain ⟨⟨c0, c1, c2, c3, c4, c5, c6, c7⟩, -⟩ := row8 HG3.out
  have T3 := Lib.hid (pnum_any p _ v3 _ t w3 HP3.out (by omega) (by first | omega | (simp only [List.length_append]; omega)))
  go_wp2_with fail
  refine T3.out.mono ?_
  rintro r w4 ⟨rfl, v4, hp4, st4⟩
  have HG4 := Lib.hid (st4.1.heap HG3.out (HP3.out.low HGP.out))
  have HL4 := Lib.hid (HL3.out.pen HP3.out st4)
  have ST4 := Lib.hid (ST3.out.trans st4)
  have HP4 := Lib.hid hp4
  clear c0 c1 c2 c3 c4 c5 c6 c7 hp4 st4 T3 HG3 HL3 ST3 HP3
  obtain ⟨⟨c0, c1, c2, c3, c4, c5, c6, c7⟩, -⟩ := row8 HG4.out
  have T4 := Lib.hid (putYes_any p _ v4 _ s w4 HP4.out (by first | omega | (simp only [List.length_append]; omega)))
  go_wp2_with fail
  refine T4.out.mono ?_
  rintro r w5 ⟨rfl, v5, hp5, st5⟩
  have HG5 := Lib.hid (st5.1.heap HG4.out (HP4.out.low HGP.out))
  have HL5 := Lib.hid (HL4.out.pen HP4.out st5)
  have ST5 := Lib.hid (ST4.out.trans st5)
  have HP5 := Lib.hid hp5
  clear c0 c1 c2 c3 c4 c5 c6 c7 hp5 st5 T4 HG4 HL4 ST4 HP4
  obtain ⟨⟨c0, c1, c2, c3, c4, c5, c6, c7⟩, -⟩ := row8 HG5.out
  have T5 := Lib.hid (pnum_any p _ v5 _ x w5 HP5.out (by omega) (by first | omega | (simp only [List.length_append]; omega)))
  go_wp2_with fail
  refine T5.out.mono ?_
  rintro r w6 ⟨rfl, v6, hp6, st6⟩
  have HG6 := Lib.hid (st6.1.heap HG5.out (HP5.out.low HGP.out))
  have HL6 := Lib.hid (HL5.out.pen HP5.out st6)
  have ST6 := Lib.hid (ST5.out.trans st6)
  have HP6 := Lib.hid hp6
  clear c0 c1 c2 c3 c4 c5 c6 c7 hp6 st6 T5 HG5 HL5 ST5 HP5
  obtain ⟨⟨c0, c1, c2, c3, c4, c5, c6, c7⟩, -⟩ := row8 HG6.out
  have T6 := Lib.hid (pnum_any p _ v6 _ z w6 HP6.out (by omega) (by first | omega | (simp only [List.length_append]; omega)))
  go_wp2_with fail
  refine T6.out.mono ?_
  rintro r w7 ⟨rfl, v7, hp7, st7⟩
  have HG7 := Lib.hid (st7.1.heap HG6.out (HP6.out.low HGP.out))
  have HL7 := Lib.hid (HL6.out.pen HP6.out st7)
  have ST7 := Lib.hid (ST6.out.trans st7)
  have HP7 := Lib.hid hp7
  clear c0 c1 c2 c3 c4 c5 c6 c7 hp7 st7 T6 HG6 HL6 ST6 HP6
  have TB := Lib.hid (pbytes_any p _ v7 _ w7 HP7.out (by first | omega | (simp only [List.length_append]; omega)))
  go_wp2_with fail
  refine TB.out.mono ?_
  rintro r w9 ⟨u, rfl, own9, t9⟩
  have HO9 := Lib.hid own9
  have HT9 := Lib.hid t9
  clear own9 t9 TB
  go_wp2
  go_ret2
  refine ⟨u, rfl, ?_, ?_⟩
  · rw [HFM.out]
    have h := own_more HO9.out (base' := w.heap.size) (by have := HT2.out.size; have := ST7.out.1.size; omega)
    simp only [List.append_assoc] at h ⊢
    exact h
  · refine (HT2.out.trans ST7.out.1 (fun i hi h => ?_)).trans HT9.out (fun _ _ h => h)
    have := HSZ.out
    rcases h with h | h
    · omega
    · cases h
set_option maxRecDepth 100000 in
set_option maxHeartbeats 8000000 in
theorem lput5 (A S : Option Addr) (cA cS : Nat) (N : Nat → Prop) (t x y z : Nat) (s : Bool) (its : List Itm) (b : List B8) (w : World) (h : LtN w N A cA S cS ⟨5, (t : Int), (x : Int), (y : Int), (z : Int), s, its, b⟩) (hok : okL ⟨5, (t : Int), (x : Int), (y : Int), (z : Int), s, its, b⟩ = true) :
    Calls Try.prog 9 #[.agg #[.int .i64 5, .int .i64 (t : Int), .int .i64 (x : Int), .int .i64 (y : Int), .int .i64 (z : Int), .bool s, .slice A its.length cA, .slice S b.length cS]] w fun e w' => ∃ u, e = .returned (.tuple #[u, .bool true]) ∧ w'.ownsRow w.heap.size 5 1 u (formL ⟨5, (t : Int), (x : Int), (y : Int), (z : Int), s, its, b⟩).length ((formL ⟨5, (t : Int), (x : Int), (y : Int), (z : Int), s, its, b⟩).map bv) ∧ Turn (fun _ => False) w w' := by
  obtain ⟨⟨-, -, pt, px, py, pz, n16, nb⟩, hits, -⟩ := okL_parts hok
  obtain ⟨-, pt⟩ := pt
  obtain ⟨-, px⟩ := px
  obtain ⟨-, py⟩ := py
  obtain ⟨-, pz⟩ := pz
  dsimp only at pt px py pz n16 nb hits
  have n0 := numB_le (n := 5) (by omega)
  have n1 := numB_le (n := t) (by omega)
  have n2 := numB_le (n := x) (by omega)
  have n3 := numB_le (n := y) (by omega)
  have n4 := numB_le (n := z) (by omega)
  have n5 := numB_le (yesN_le s)
  have n6 := numB_le (n := its.length) (by omega)
  have n7 := itsF_le hits
  have n8 := numB_le (n := b.length) (by omega)
  have HITS := Lib.hid hits
  have HFM := Lib.hid (show formL ⟨5, (t : Int), (x : Int), (y : Int), (z : Int), s, its, b⟩ = (numB 5 ++ numB t) ++ ((numB x ++ numB y) ++ (numB b.length ++ b)) by simp [formL, headF])
  obtain ⟨g, hg⟩ : ∃ g, g = w.heap.size := ⟨_, rfl⟩
  obtain ⟨w0, hw0⟩ : ∃ w0, w0 = w.alloc (.cells #[.int .i64 5, .int .i64 (t : Int), .int .i64 (x : Int), .int .i64 (y : Int), .int .i64 (z : Int), .bool s, .slice A its.length cA, .slice S b.length cS] 25) := ⟨_, rfl⟩
  have hT0 : Turn (fun _ => False) w w0 := by rw [hw0]; exact (Turn.refl _ _).alloc _
  have hg0 : w0.heap[g]? = some (.cells #[.int .i64 5, .int .i64 (t : Int), .int .i64 (x : Int), .int .i64 (y : Int), .int .i64 (z : Int), .bool s, .slice A its.length cA, .slice S b.length cS] 25 (0, 0)) := by rw [hw0, hg]; exact heap_alloc_new _ _
  have HC := right_any A S cA cS N ⟨5, (t : Int), (x : Int), (y : Int), (z : Int), s, its, b⟩ w0 (h.quiet hT0)
  rw [hok] at HC
  have HC := Lib.hid HC
  have HH := Lib.hid h
  have HT0 := Lib.hid hT0
  have HGX := Lib.hid hg0
  have HGG := Lib.hid hg
  obtain ⟨⟨c0, c1, c2, c3, c4, c5, c6, c7⟩, -⟩ := row8 hg0
  clear h hT0 hits hok
  go_enter Try.func9, Try.ntmps9
  go_upto_region 1 with fail
  change Code.wp _ _ _ _ (w.alloc (.cells #[.int .i64 5, .int .i64 (t : Int), .int .i64 (x : Int), .int .i64 (y : Int), .int .i64 (z : Int), .bool s, .slice A its.length cA, .slice S b.length cS] 25))
  rw [← hw0, ← hg]
  clear hw0 hg hg0
  go_wp2_with (go_at_call 11; refine HC.out.mono ?_; rintro r w1 ⟨rfl, t1⟩; have HT1 := Lib.hid t1; clear c0 c1 c2 c3 c4 c5 c6 c7; have g2 := Lib.hid ((t1.alloc (.cells #[.slice none 0 0] 42)).heap HGX.out (fun h => h)); obtain ⟨⟨c0, c1, c2, c3, c4, c5, c6, c7⟩, -⟩ := row8 g2.out; clear t1)
  have hws : g < w1.heap.size := lt_of_block (HT1.out.heap HGX.out (fun h => h))
  have hwg : w.heap.size = g := HGG.out.symm
  obtain ⟨w2, hw2⟩ : ∃ w2, w2 = w1.alloc (.cells #[.slice none 0 0] 42) := ⟨_, rfl⟩
  have hp2 : PenAt w2 w1.heap.size (w1.heap.size + 1) (.slice none 0 0) [] := by rw [hw2]; exact ⟨heap_alloc_new _ _, World.ownsRow_nil _ _ _ _, by omega, by simp⟩
  have ht2 : Turn (fun _ => False) w0 w2 := by rw [hw2]; exact HT1.out.alloc _
  rw [← hw2] at g2 ⊢
  have HT2 := Lib.hid (HT0.out.trans ht2 (fun _ _ h => h))
  have HL2 := Lib.hid (HH.out.turn (N' := fun i => w1.heap.size ≤ i) HT2.out (fun _ h => h.elim) (fun i hi h => absurd h (by omega)))
  have T2 := Lib.hid (pnum_any w1.heap.size _ _ [] 5 w2 hp2 (by omega) (by simp))
  have HP2 := Lib.hid hp2
  have HG2 := Lib.hid g2.out
  have ST2 := Lib.hid (PenStep.refl w2 w1.heap.size (.slice none 0 0))
  have HSZ := Lib.hid (show w.heap.size ≤ w1.heap.size by omega)
  generalize w1.heap.size = p at *
  have HGP := Lib.hid hws
  clear hw2 hp2 ht2 g2 hws hwg HC HT1
  refine T2.out.mono ?_
  rintro r w3 ⟨rfl, v3, hp3, st3⟩
  rw [List.nil_append] at hp3
  have HG3 := Lib.hid (st3.1.heap HG2.out (HP2.out.low HGP.out))
  have HL3 := Lib.hid (HL2.out.pen HP2.out st3)
  have ST3 := Lib.hid (ST2.out.trans st3)
  have HP3 := Lib.hid hp3
  clear c0 c1 c2 c3 c4 c5 c6 c7 hp3 st3 T2 HG2 HL2 ST2 HP2
  obtain ⟨⟨c0, c1, c2, c3, c4, c5, c6, c7⟩, -⟩ := row8 HG3.out
  have T3 := Lib.hid (pnum_any p _ v3 _ t w3 HP3.out (by omega) (by first | omega | (simp only [List.length_append]; omega)))
  go_wp2_with fail
  refine T3.out.mono ?_
  rintro r w4 ⟨rfl, v4, hp4, st4⟩
  have HG4 := Lib.hid (st4.1.heap HG3.out (HP3.out.low HGP.out))
  have HL4 := Lib.hid (HL3.out.pen HP3.out st4)
  have ST4 := Lib.hid (ST3.out.trans st4)
  have HP4 := Lib.hid hp4
  clear c0 c1 c2 c3 c4 c5 c6 c7 hp4 st4 T3 HG3 HL3 ST3 HP3
  obtain ⟨⟨c0, c1, c2, c3, c4, c5, c6, c7⟩, -⟩ := row8 HG4.out
  have T4 := Lib.hid (putPlace_any p _ x y v4 _ A S cA cS ⟨5, (t : Int), (x : Int), (y : Int), (z : Int), s, its, b⟩ w4 HP4.out rfl rfl (by omega) (by omega) (by first | omega | (simp only [List.length_append]; omega)))
  go_wp2_with fail
  refine T4.out.mono ?_
  rintro r w5 ⟨rfl, v5, hp5, st5⟩
  have HG5 := Lib.hid (st5.1.heap HG4.out (HP4.out.low HGP.out))
  have HL5 := Lib.hid (HL4.out.pen HP4.out st5)
  have ST5 := Lib.hid (ST4.out.trans st5)
  have HP5 := Lib.hid hp5
  clear c0 c1 c2 c3 c4 c5 c6 c7 hp5 st5 T4 HG4 HL4 ST4 HP4
  obtain ⟨⟨c0, c1, c2, c3, c4, c5, c6, c7⟩, -⟩ := row8 HG5.out
  have T5 := Lib.hid (ptextN HP5.out HL5.out.b (by first | omega | (simp only [List.length_append]; omega)))
  go_wp2_with fail
  refine T5.out.mono ?_
  rintro r w6 ⟨rfl, v6, hp6, st6⟩
  have HG6 := Lib.hid (st6.1.heap HG5.out (HP5.out.low HGP.out))
  have HL6 := Lib.hid (HL5.out.pen HP5.out st6)
  have ST6 := Lib.hid (ST5.out.trans st6)
  have HP6 := Lib.hid hp6
  clear c0 c1 c2 c3 c4 c5 c6 c7 hp6 st6 T5 HG5 HL5 ST5 HP5
  have TB := Lib.hid (pbytes_any p _ v6 _ w6 HP6.out (by first | omega | (simp only [List.length_append]; omega)))
  go_wp2_with fail
  refine TB.out.mono ?_
  rintro r w9 ⟨u, rfl, own9, t9⟩
  have HO9 := Lib.hid own9
  have HT9 := Lib.hid t9
  clear own9 t9 TB
  go_wp2
  go_ret2
  refine ⟨u, rfl, ?_, ?_⟩
  · rw [HFM.out]
    have h := own_more HO9.out (base' := w.heap.size) (by have := HT2.out.size; have := ST6.out.1.size; omega)
    simp only [List.append_assoc] at h ⊢
    exact h
  · refine (HT2.out.trans ST6.out.1 (fun i hi h => ?_)).trans HT9.out (fun _ _ h => h)
    have := HSZ.out
    rcases h with h | h
    · omega
    · cases h
set_option maxRecDepth 100000 in
set_option maxHeartbeats 8000000 in
theorem lput_no (A S : Option Addr) (cA cS : Nat) (N : Nat → Prop) (l : Ltr) (w : World) (h : LtN w N A cA S cS l) (hok : okL l = false) :
    Calls Try.prog 9 #[ltV A cA S cS l] w fun e w' => e = .returned (.tuple #[.slice none 0 0, .bool false]) ∧ Turn (fun _ => False) w w' := by
  obtain ⟨g, hg⟩ : ∃ g, g = w.heap.size := ⟨_, rfl⟩
  obtain ⟨w0, hw0⟩ : ∃ w0, w0 = w.alloc (.cells (ltC A cA S cS l) 25) := ⟨_, rfl⟩
  have hT0 : Turn (fun _ => False) w w0 := by rw [hw0]; exact (Turn.refl _ _).alloc _
  have hg0 : LBx w0 g A cA S cS l := by rw [hw0, hg]; exact LBx.new _ _ _ _ _ _
  have HC := right_any A S cA cS N l w0 (h.quiet hT0)
  rw [hok] at HC
  have HC := Lib.hid HC
  have HT0 := Lib.hid hT0
  obtain ⟨c0, c1, c2, c3, c4, c5, c6, c7⟩ := hg0.cells
  clear h hT0 hg0 hok
  go_enter Try.func9, Try.ntmps9
  go_upto_region 1 with fail
  change Code.wp _ _ _ _ (w.alloc (.cells (ltC A cA S cS l) 25))
  rw [← hw0, ← hg]
  clear hw0 hg
  go_wp2_with (go_at_call 11; refine HC.out.mono ?_; rintro r w1 ⟨rfl, t1⟩; have HT1 := Lib.hid t1; clear c0 c1 c2 c3 c4 c5 c6 c7 t1)
  go_ret2
  exact ⟨rfl, HT0.out.trans HT1.out (fun _ _ h => h)⟩
theorem lput_any (A S : Option Addr) (cA cS : Nat) (N : Nat → Prop) (l : Ltr) (w : World) (h : LtN w N A cA S cS l) :
    Calls Try.prog 9 #[ltV A cA S cS l] w fun e w' => ∃ u, e = .returned (.tuple #[u, .bool (okL l)]) ∧ w'.ownsRow w.heap.size 5 1 u (putL l).length ((putL l).map bv) ∧ Turn (fun _ => False) w w' := by
  unfold putL
  cases hok : okL l with
  | false =>
    refine (lput_no A S cA cS N l w h hok).mono ?_
    rintro e w' ⟨rfl, ht⟩
    exact ⟨_, rfl, World.ownsRow_nil _ _ _ _, ht⟩
  | true =>
    rw [if_pos rfl]
    obtain ⟨⟨k1, k5, pt, px, py, pz, -, -⟩, -, -⟩ := okL_parts hok
    unfold inP at pt px py pz
    obtain ⟨k, t, x, y, z, s, its, b⟩ := l
    dsimp only at k1 k5 pt px py pz
    obtain ⟨t, rfl⟩ : ∃ n : Nat, t = (n : Int) := ⟨t.toNat, by omega⟩
    obtain ⟨x, rfl⟩ : ∃ n : Nat, x = (n : Int) := ⟨x.toNat, by omega⟩
    obtain ⟨y, rfl⟩ : ∃ n : Nat, y = (n : Int) := ⟨y.toNat, by omega⟩
    obtain ⟨z, rfl⟩ : ∃ n : Nat, z = (n : Int) := ⟨z.toNat, by omega⟩
    have hk : k = 1 ∨ k = 2 ∨ k = 3 ∨ k = 4 ∨ k = 5 := by omega
    rcases hk with rfl | rfl | rfl | rfl | rfl
    · exact lput1 A S cA cS N t x y z s its b w h hok
    · exact lput2 A S cA cS N t x y z s its b w h hok
    · exact lput3 A S cA cS N t x y z s its b w h hok
    · exact lput4 A S cA cS N t x y z s its b w h hok
    · exact lput5 A S cA cS N t x y z s its b w h hok
end Go.Proofs.Ytaicpclkdpbacaa
