/- The document's 'Take'. -/
import Derived.Test.YtmkpoodhhpfgpaaFwB
set_option linter.unusedVariables false
namespace Go.Proofs.Ytmkpoodhhpfgpaa
open Go.RowKit
/-- What was read, as it lies. -/
structure Gt where
  f : Fd
  e : Nat
  A : Option Addr
  c : Nat
  l : List B8
def Gt.cells (g : Gt) : List Value := g.f.cells ++ [.int .i64 (g.e : Int), .slice g.A g.l.length g.c]
set_option maxRecDepth 100000 in
theorem Gt.len (g : Gt) (h : g.f.d.length = 32) : g.cells.length = 37 := by simp [Gt.cells, g.f.len h]
set_option maxRecDepth 100000 in
theorem Gt.one (g : Gt) : g.cells.toArray.all (·.oneCell') = true := by
  rw [Array.all_eq_true_iff_forall_mem]
  intro u hu
  simp only [Gt.cells, List.mem_toArray, List.mem_append, List.mem_cons, List.not_mem_nil, or_false] at hu
  rcases hu with h | rfl | rfl
  · have := Fd.one g.f
    rw [Array.all_eq_true_iff_forall_mem] at this
    exact this u (by simpa using h)
  · rfl
  · rfl
def F0 : Fd := ⟨0, 0, none, 0, [], zeros 32⟩
def Gx (x : Nat) : Gt := ⟨F0, x, none, 0, []⟩
def Z37 : Array Value := (Gx 0).cells.toArray
set_option maxRecDepth 100000 in
theorem zero_got (w : World) : (zeroValue 76).run Try.prog w = .ok (.agg (Gx 0).cells.toArray) w := by kernel_rfl
set_option maxRecDepth 100000 in
theorem Gx.set (x : Nat) : Z37.setIfInBounds 35 (.int .i64 (x : Int)) = (Gx x).cells.toArray := rfl
set_option maxRecDepth 100000 in
theorem Gx.D (x : Nat) (D : Array Value) (h : D = (Gx x).cells.toArray) : (Try.prog.info? 76).map (·.size) = some D.size ∧ Z37.size = D.size ∧ D.all (·.oneCell') = true := by
  have sD : D.size = 37 := by rw [h, List.size_toArray, (Gx x).len (by rfl)]
  exact ⟨by rw [sD]; kernel_rfl, by rw [sD]; rfl, by rw [h]; exact (Gx x).one⟩
set_option maxRecDepth 100000 in
theorem GX : ∃ DX : Nat → Array Value, (∀ x, DX x = (Gx x).cells.toArray) ∧ ∀ x, (Try.prog.info? 76).map (·.size) = some (DX x).size ∧ Z37.size = (DX x).size ∧ (DX x).all (·.oneCell') = true :=
  ⟨fun x => (Gx x).cells.toArray, fun _ => rfl, fun x => Gx.D x _ rfl⟩
set_option maxRecDepth 100000 in
theorem take_short (A : Option Addr) (c : Nat) (l : List B8) (f : Fd) (w : World) (hd : f.d.length = 32) (hk : f.k = 2) (hl : l.length < 32) :
    Calls Try.prog 36 #[.slice A l.length c, .agg f.cells.toArray] w fun r w' => r = .returned (.agg (Gx 2).cells.toArray) ∧ Turn (fun _ => False) w w' := by
  obtain ⟨C, hC⟩ : ∃ C, C = f.cells.toArray := ⟨_, rfl⟩
  obtain ⟨DX, HD, H⟩ := GX
  have sC : C.size = 35 := by rw [hC, List.size_toArray, f.len hd]
  have g1 := heap_alloc2_old w (.cells C 74) (.cells Z37 76)
  have g2 := Lib.hid (heap_alloc2_new w (.cells C 74) (.cells Z37 76))
  have c0 : ((w.alloc (.cells C 74)).alloc (.cells Z37 76)).cell? ⟨w.heap.size, 0, none⟩ = some (.int .i64 f.k) := by rw [cell_of_row _ _ _ _ _ _ g1, hC]; rfl
  have c1 : ((w.alloc (.cells C 74)).alloc (.cells Z37 76)).cell? ⟨w.heap.size, 1, none⟩ = some (.int .u64 (f.n : Int)) := by rw [cell_of_row _ _ _ _ _ _ g1, hC]; rfl
  have t1 := (((Turn.refl (fun _ => False) w).alloc (.cells C 74)).alloc (.cells Z37 76))
  have hzd := zero_got
  change ∀ w, _ = Result.ok (Value.agg Z37) w at hzd
  have hb2 : Z37.setIfInBounds 35 (.int .i64 2) = DX 2 := by rw [HD]; exact Gx.set 2
  have hb3 : Z37.setIfInBounds 35 (.int .i64 3) = DX 3 := by rw [HD]; exact Gx.set 3
  have hb5 : Z37.setIfInBounds 35 (.int .i64 5) = DX 5 := by rw [HD]; exact Gx.set 5
  rw [← hC]
  have HDX := Lib.hid HD
  have HH := Lib.hid H
  clear g1 HD H hC sC
  rw [hk] at c0
  go_enter Try.func36, Try.ntmps36
  go_wp2_with (refine wpList_store_row rfl _ _ _ rfl (w.heap.size + 1) (DX 2) rfl rfl 76 _ g2.out (HH.out 2).1 (HH.out 2).2.1 (HH.out 2).2.2 ?_)
  refine bodyPost_ret (v := .agg (DX 2)) ?_ rfl ⟨by rw [HDX.out], (((Turn.refl (fun _ => False) w).alloc _).alloc _).setRow _ _ (fun h => by omega)⟩
  exact results_cell_row Try.results36 _ _ (w.heap.size + 1) _ (DX 2) (0, 0) _ rfl (setRow_heap _ _ _ _ _ _ g2.out) Try.underlying76 rfl (HH.out 2).1
set_option maxRecDepth 100000 in
/-- A number's bytes, as the document reads them. -/
theorem numE_cases (l : List B8) : (l = [] ∧ numE l = 2) ∨ ∃ k r, l = k :: r ∧ ((8 < k.toNat ∧ numE l = 3) ∨ (k.toNat ≤ 8 ∧ r.length < k.toNat ∧ numE l = 2) ∨ (k.toNat ≤ 8 ∧ k.toNat ≤ r.length ∧ 0 < k.toNat ∧ r[0]? = some 0 ∧ numE l = 3) ∨ (k.toNat ≤ 8 ∧ k.toNat ≤ r.length ∧ (0 < k.toNat → ∃ x, r[0]? = some x ∧ x ≠ 0) ∧ numE l = 0)) := by
  cases l with
  | nil => exact .inl ⟨rfl, rfl⟩
  | cons k r =>
    refine .inr ⟨k, r, rfl, ?_⟩
    simp only [numE]
    by_cases h1 : 8 < k.toNat
    · exact .inl ⟨h1, by rw [if_pos h1]⟩
    by_cases h2 : r.length < k.toNat
    · exact .inr (.inl ⟨by omega, h2, by rw [if_neg h1, if_pos h2]⟩)
    rw [if_neg h1, if_neg h2]
    by_cases h0 : 0 < k.toNat
    · have e : (r.take k.toNat).head? = r[0]? := by rw [List.head?_eq_getElem?, List.getElem?_take, if_pos h0]
      rw [e]
      by_cases h3 : r[0]? = some 0
      · exact .inr (.inr (.inl ⟨by omega, by omega, h0, h3, by rw [if_pos h3]⟩))
      · exact .inr (.inr (.inr ⟨by omega, by omega, fun _ => ⟨r[0]'(by omega), List.getElem?_eq_getElem _, fun h => h3 (by rw [List.getElem?_eq_getElem (by omega), h])⟩, by rw [if_neg h3]⟩))
    · have e : k.toNat = 0 := by omega
      refine .inr (.inr (.inr ⟨by omega, by omega, fun h => absurd h h0, ?_⟩))
      rw [e]; simp
set_option maxRecDepth 100000 in
theorem take_numx (A : Option Addr) (c : Nat) (l : List B8) (f : Fd) (w : World) (hd : f.d.length = 32) (hk : f.k ≠ 2) (hs : SlN w (fun _ => False) A (l.map bv)) (hx : numE l ≠ 0) (hm : l.length ≤ 1099511627776) :
    Calls Try.prog 36 #[.slice A l.length c, .agg f.cells.toArray] w fun r w' => r = .returned (.agg (Gx (numE l)).cells.toArray) ∧ Turn (fun _ => False) w w' := by
  obtain ⟨C, hC⟩ : ∃ C, C = f.cells.toArray := ⟨_, rfl⟩
  obtain ⟨DX, HD, H⟩ := GX
  have sC : C.size = 35 := by rw [hC, List.size_toArray, f.len hd]
  have g1 := heap_alloc2_old w (.cells C 74) (.cells Z37 76)
  have g2 := Lib.hid (heap_alloc2_new w (.cells C 74) (.cells Z37 76))
  have c0 : ((w.alloc (.cells C 74)).alloc (.cells Z37 76)).cell? ⟨w.heap.size, 0, none⟩ = some (.int .i64 f.k) := by rw [cell_of_row _ _ _ _ _ _ g1, hC]; rfl
  have c1 : ((w.alloc (.cells C 74)).alloc (.cells Z37 76)).cell? ⟨w.heap.size, 1, none⟩ = some (.int .u64 (f.n : Int)) := by rw [cell_of_row _ _ _ _ _ _ g1, hC]; rfl
  have t1 := (((Turn.refl (fun _ => False) w).alloc (.cells C 74)).alloc (.cells Z37 76))
  have hzd := zero_got
  change ∀ w, _ = Result.ok (Value.agg Z37) w at hzd
  have hb2 : Z37.setIfInBounds 35 (.int .i64 2) = DX 2 := by rw [HD]; exact Gx.set 2
  have hb3 : Z37.setIfInBounds 35 (.int .i64 3) = DX 3 := by rw [HD]; exact Gx.set 3
  have hb5 : Z37.setIfInBounds 35 (.int .i64 5) = DX 5 := by rw [HD]; exact Gx.set 5
  rw [← hC]
  have HDX := Lib.hid HD
  have HH := Lib.hid H
  clear g1 HD H hC sC
  have hk2 : ¬ f.k = 2 := hk
  generalize f.k = kk at *
  rcases numE_cases l with ⟨rfl, e⟩ | ⟨k, r, rfl, h⟩
  · rw [e]
    go_enter Try.func36, Try.ntmps36
    go_wp2_with (refine wpList_store_row rfl _ _ _ rfl (w.heap.size + 1) (DX 2) rfl rfl 76 _ g2.out (HH.out 2).1 (HH.out 2).2.1 (HH.out 2).2.2 ?_)
    refine bodyPost_ret (v := .agg (DX 2)) ?_ rfl ⟨by rw [HDX.out], (((Turn.refl (fun _ => False) w).alloc _).alloc _).setRow _ _ (fun h => by omega)⟩
    exact results_cell_row Try.results36 _ _ (w.heap.size + 1) _ (DX 2) (0, 0) _ rfl (setRow_heap _ _ _ _ _ _ g2.out) Try.underlying76 rfl (HH.out 2).1
  · obtain ⟨ad, rfl, -, hc⟩ := hs.at (show ((k :: r).map bv)[0]? = some (bv k) from rfl)
    rw [add_zero] at hc
    have b0 := t1.cell hc (fun h => h)
    have hn0 : ¬ ((k :: r).length : Int) = 0 := by simp; omega
    have hn1 : ((k :: r).length : Int) = (r.length : Int) + 1 := by simp
    have hkn := k.isLt
    have hmr : r.length ≤ 1099511627776 := by simp at hm; omega
    rcases h with ⟨h8, e⟩ | ⟨h8, hl, e⟩ | ⟨h8, hl, h0, hz, e⟩ | ⟨-, -, -, e⟩
    · rw [e]
      unfold bv at b0
      generalize (k :: r).length = n at *
      clear hs hc e hx t1
      generalize k.toNat = kn at *
      generalize r.length = m at *
      go_enter Try.func36, Try.ntmps36
      go_wp2_with (refine wpList_store_row rfl _ _ _ rfl (w.heap.size + 1) (DX 3) rfl rfl 76 _ g2.out (HH.out 3).1 (HH.out 3).2.1 (HH.out 3).2.2 ?_)
      refine bodyPost_ret (v := .agg (DX 3)) ?_ rfl ⟨by rw [HDX.out], (((Turn.refl (fun _ => False) w).alloc _).alloc _).setRow _ _ (fun h => by omega)⟩
      exact results_cell_row Try.results36 _ _ (w.heap.size + 1) _ (DX 3) (0, 0) _ rfl (setRow_heap _ _ _ _ _ _ g2.out) Try.underlying76 rfl (HH.out 3).1
    · rw [e]
      unfold bv at b0
      generalize (k :: r).length = n at *
      clear hs hc e hx t1
      generalize k.toNat = kn at *
      generalize r.length = m at *
      go_enter Try.func36, Try.ntmps36
      go_wp2_with (refine wpList_store_row rfl _ _ _ rfl (w.heap.size + 1) (DX 2) rfl rfl 76 _ g2.out (HH.out 2).1 (HH.out 2).2.1 (HH.out 2).2.2 ?_)
      refine bodyPost_ret (v := .agg (DX 2)) ?_ rfl ⟨by rw [HDX.out], (((Turn.refl (fun _ => False) w).alloc _).alloc _).setRow _ _ (fun h => by omega)⟩
      exact results_cell_row Try.results36 _ _ (w.heap.size + 1) _ (DX 2) (0, 0) _ rfl (setRow_heap _ _ _ _ _ _ g2.out) Try.underlying76 rfl (HH.out 2).1
    · obtain ⟨ad', e', -, hc1⟩ := hs.at (show ((k :: r).map bv)[1]? = some (bv 0) by rw [List.map_cons, List.getElem?_cons_succ, List.getElem?_map, hz]; rfl)
      injection e' with e'; subst e'
      have b1 := t1.cell hc1 (fun h => h)
      change World.cell? _ ⟨ad.block, ad.off + 1, none⟩ = some (Value.int .u8 0) at b1
      rw [e]
      clear hc1 hz
      unfold bv at b0
      generalize (k :: r).length = n at *
      clear hs hc e hx t1
      generalize k.toNat = kn at *
      generalize r.length = m at *
      go_enter Try.func36, Try.ntmps36
      go_wp2_with (refine wpList_store_row rfl _ _ _ rfl (w.heap.size + 1) (DX 3) rfl rfl 76 _ g2.out (HH.out 3).1 (HH.out 3).2.1 (HH.out 3).2.2 ?_)
      refine bodyPost_ret (v := .agg (DX 3)) ?_ rfl ⟨by rw [HDX.out], (((Turn.refl (fun _ => False) w).alloc _).alloc _).setRow _ _ (fun h => by omega)⟩
      exact results_cell_row Try.results36 _ _ (w.heap.size + 1) _ (DX 3) (0, 0) _ rfl (setRow_heap _ _ _ _ _ _ g2.out) Try.underlying76 rfl (HH.out 3).1
    · exact absurd e hx
end Go.Proofs.Ytmkpoodhhpfgpaa
