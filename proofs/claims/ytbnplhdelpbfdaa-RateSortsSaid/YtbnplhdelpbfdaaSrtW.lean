/- The library's stable sort at rates: two places exchanged; two stretches exchanged. -/
import Derived.Test.YtbnplhdelpbfdaaSrtT
import Derived.Test.YtbnplhdelpbfdaaSrtP
import Derived.BigRegion
set_option linter.unusedVariables false
set_option linter.unusedSimpArgs false
namespace Go.Proofs.Ytbnplhdelpbfdaa
open Go.RowKit
open Flt (nan key lessB cmpI S)
@[local go_sem] theorem run_store_f (P : Program) (w : World) (a : Addr) (m : Mode) (k : FloatKind) (n : Nat) : (store a (.float k n) m).run P w = stored P w a (.float k n) m := run_store P w a _ m rfl
def fv (n : Nat) : Value := .float .f64 n
/-- The block of rates. -/
def FD (w : World) (g : Nat) (D : List Nat) : Prop := w.heap[g]? = some (.cells (D.map fv).toArray 26 (0, 0))
theorem FD.cell {w : World} {g : Nat} {D : List Nat} (h : FD w g D) {c : Nat} (hc : c < D.length) : w.cell? ⟨g, c, none⟩ = some (.float .f64 (gd D c)) ∧ w.frozen? ⟨g, c, none⟩ = false := by
  refine ⟨?_, frozen_of_row w g c _ _ h⟩
  rw [cell_of_row _ _ _ _ _ _ h, List.getElem?_toArray, List.getElem?_map, gd_some hc]; rfl
theorem FD.set {w : World} {g : Nat} {D : List Nat} (h : FD w g D) (c x : Nat) : FD (w.setCell ⟨g, c, none⟩ (.float .f64 x)) g (D.set c x) := by
  unfold FD
  rw [heap_setCell_same w g c _ _ _ h]
  congr 2
  rw [List.setIfInBounds_toArray]
  congr 1
  rw [show Value.float .f64 x = fv x from rfl, List.map_set]
theorem FD.drew {w : World} {g : Nat} {D : List Nat} (h : FD w g D) : FD w.drew g D := h
theorem FD.turn {w w' : World} {g : Nat} {D : List Nat} {T : Nat → Prop} (h : FD w g D) (t : Turn T w w') (hT : ¬ T g) : FD w' g D := t.heap h hT
theorem FD.swp {w : World} {g : Nat} {D : List Nat} (h : FD w g D) (i j : Nat) : FD ((w.setCell ⟨g, i, none⟩ (.float .f64 (gd D j))).setCell ⟨g, j, none⟩ (.float .f64 (gd D i))) g (swp D i j) := (h.set i _).set j _
theorem swp_turn (w : World) (g i j : Nat) (x y : Value) : Turn (fun k => k = g) w ((w.setCell ⟨g, i, none⟩ x).setCell ⟨g, j, none⟩ y) := ((Turn.refl (fun k => k = g) w).setCell ⟨g, i, none⟩ x (fun _ => rfl)).setCell ⟨g, j, none⟩ y (fun _ => rfl)
abbrev fcmp : Value := .func (.func 15) #[] #[]
/-- The document's order, as the sort asks it: is the first one ahead? -/
theorem cmp_any (a b : Nat) (w : World) (wa : a < 18446744073709551616) (wb : b < 18446744073709551616) :
    Calls Try.prog 15 #[.float .f64 a, .float .f64 b] w fun e w' => e = .returned (.int .i64 (cmpI b a)) ∧ w = w' := by
  have C := Lib.hid (fun w => compare_any b a w wb wa)
  clear wa wb
  go_enter Try.func15, Try.ntmps15
  go_wp2_with fail
  refine (C.out _).mono ?_
  rintro e w' ⟨rfl, rfl⟩
  go_wp2
  go_ret
  exact ⟨rfl, rfl⟩
theorem cmp_neg (a b : Nat) : decide (cmpI b a < 0) = decide (key b < key a) := by
  unfold cmpI
  rw [decide_eq_decide]
  (repeat' split) <;> omega
set_option maxRecDepth 100000 in
set_option maxHeartbeats 4000000 in
theorem swapRange_any (g a b n c N : Nat) (f : Value) (D : List Nat) (w : World) (hD : FD w g D) (hN : D.length = N) (h1 : a + n ≤ N) (h2 : b + n ≤ N) (hN2 : N ≤ 1099511627776) (hab : a + n ≤ b) :
    Calls Try.prog 27 #[.slice (some ⟨g, 0, none⟩) N c, .int .i64 (a : Int), .int .i64 (b : Int), .int .i64 (n : Int), f] w fun e w' => e = .returned (.tuple #[]) ∧ FD w' g ((List.range n).foldl (fun D i => swp D (a + i) (b + i)) D) ∧ Turn (fun i => i = g) w w' := by
  have HD := Lib.hid hD
  have HN := Lib.hid hN
  clear hD hN
  go_enter Try.func27, Try.ntmps27
  go_wp2_with fail
  go_loopw [10] (fun i wr => ∃ k : Nat, k ≤ n ∧ i = .int .i64 k ∧ FD wr g ((List.range k).foldl (fun D i => swp D (a + i) (b + i)) D) ∧ Turn (fun i => i = g) w wr) (fun i _ => n - (intOf i).toNat)
  case atStart => exact ⟨0, Nat.zero_le _, rfl, HD.out, Turn.refl _ _⟩
  case round =>
    obtain ⟨k, hk, rfl, hF, ht⟩ := hrel
    by_cases hlt : k < n
    · have t0 : decide ((k : Int) < (n : Int)) = true := by rw [decide_eq_true_eq]; omega
      obtain ⟨E, hE⟩ : ∃ E, E = (List.range k).foldl (fun D i => swp D (a + i) (b + i)) D := ⟨_, rfl⟩
      have hEl : E.length = N := by
        rw [hE, ← HN.out]
        clear t0 hF hE hlt hk
        induction k with
        | zero => rfl
        | succ k ih => rw [List.range_succ, List.foldl_append, List.foldl_cons, List.foldl_nil, swp_len]; exact ih
      rw [← hE] at hF
      obtain ⟨c1, z1⟩ := hF.cell (c := a + k) (by omega)
      obtain ⟨c2, z2⟩ := hF.cell (c := b + k) (by omega)
      have HF := Lib.hid hF
      have HT := Lib.hid ht
      have HE := Lib.hid hE
      obtain ⟨x, hx⟩ : ∃ x, x = gd E (a + k) := ⟨_, rfl⟩
      obtain ⟨y, hy⟩ : ∃ y, y = gd E (b + k) := ⟨_, rfl⟩
      rw [← hx] at c1
      rw [← hy] at c2
      have HXY := Lib.hid (And.intro hx hy)
      clear hF ht hE hEl hx hy
      go_upto_region 3 with fail
      go_region
      go_wp2_with fail
      go_roundw
      case rel =>
        refine ⟨k + 1, by omega, by go_num, ?_, (HT.out.trans (swp_turn wr g (a + k) (b + k) (.float .f64 y) (.float .f64 x)) (fun _ _ h => h)).drew⟩
        rw [List.range_succ, List.foldl_append, List.foldl_cons, List.foldl_nil, ← HE.out, HXY.out.1, HXY.out.2]
        exact (HF.out.swp (a + k) (b + k)).drew
      case measure => simp [intOf]; omega
    · obtain rfl : k = n := by omega
      have t0 : decide ((k : Int) < (k : Int)) = false := by rw [decide_eq_false_iff_not]; omega
      have HF := Lib.hid hF
      have HT := Lib.hid ht
      clear hF ht
      go_wp2
      go_end0
      exact ⟨rfl, HF.out, HT.out⟩
/-- Two stretches of one length exchanged. -/
theorem swp_lots (P X M Y R : List Nat) (h : X.length = Y.length) {a b n : Nat} (ha : a = P.length) (hb : b = P.length + X.length + M.length) (hn : n = X.length) :
    (List.range n).foldl (fun D i => swp D (a + i) (b + i)) (P ++ (X ++ (M ++ (Y ++ R)))) = P ++ (Y ++ (M ++ (X ++ R))) := by
  subst ha hb hn
  have key : ∀ k, k ≤ X.length → (List.range k).foldl (fun D i => swp D (P.length + i) (P.length + X.length + M.length + i)) (P ++ (X ++ (M ++ (Y ++ R)))) = P ++ (Y.take k ++ (X.drop k ++ (M ++ (X.take k ++ (Y.drop k ++ R))))) := by
    intro k
    induction k with
    | zero => intro _; simp
    | succ k ih =>
      intro hk
      rw [List.range_succ, List.foldl_append, List.foldl_cons, List.foldl_nil, ih (by omega)]
      have hx : X.drop k = gd X k :: X.drop (k + 1) := by
        rw [List.drop_eq_getElem_cons (by omega)]
        congr 1
        have := gd_some (l := X) (i := k) (by omega)
        rw [List.getElem?_eq_getElem (by omega)] at this
        exact Option.some.inj this
      have hy : Y.drop k = gd Y k :: Y.drop (k + 1) := by
        rw [List.drop_eq_getElem_cons (by omega)]
        congr 1
        have := gd_some (l := Y) (i := k) (by omega)
        rw [List.getElem?_eq_getElem (by omega)] at this
        exact Option.some.inj this
      have tx : X.take (k + 1) = X.take k ++ [gd X k] := by
        rw [List.take_add_one, gd_some (by omega)]; rfl
      have ty : Y.take (k + 1) = Y.take k ++ [gd Y k] := by
        rw [List.take_add_one, gd_some (by omega)]; rfl
      rw [hx, hy, tx, ty]
      have := swp_at (a := P ++ Y.take k) (m := X.drop (k + 1) ++ (M ++ X.take k)) (b := Y.drop (k + 1) ++ R) (x := gd X k) (y := gd Y k) (i := P.length + k) (j := P.length + X.length + M.length + k)
        (by simp; omega) (by simp; omega)
      simpa [List.append_assoc] using this
  have := key X.length (Nat.le_refl _)
  rw [this, h, List.take_length, List.drop_length, ← h, List.drop_length, List.take_length]
  rfl
/-- The stretches' exchange, as a call. -/
theorem swapLots_any (g c N : Nat) (f : Value) (P X M Y R : List Nat) (w : World) (hD : FD w g (P ++ (X ++ (M ++ (Y ++ R))))) (hN : (P ++ (X ++ (M ++ (Y ++ R)))).length = N) (hN2 : N ≤ 1099511627776) (h : X.length = Y.length) (a b n : Nat) (ha : a = P.length) (hb : b = P.length + X.length + M.length) (hn : n = X.length) :
    Calls Try.prog 27 #[.slice (some ⟨g, 0, none⟩) N c, .int .i64 (a : Int), .int .i64 (b : Int), .int .i64 (n : Int), f] w fun e w' => e = .returned (.tuple #[]) ∧ FD w' g (P ++ (Y ++ (M ++ (X ++ R)))) ∧ Turn (fun i => i = g) w w' := by
  have hl : P.length + (X.length + (M.length + (Y.length + R.length))) = N := by rw [← hN]; simp
  refine (swapRange_any g a b n c N f _ w hD hN (by omega) (by omega) hN2 (by omega)).mono ?_
  rintro e w' ⟨rfl, hF, t⟩
  exact ⟨rfl, by rw [swp_lots P X M Y R h ha hb hn] at hF; exact hF, t⟩
end Go.Proofs.Ytbnplhdelpbfdaa
