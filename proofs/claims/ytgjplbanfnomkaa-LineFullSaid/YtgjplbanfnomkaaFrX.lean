/- Merged: The document's 'Take'. What the fields of a record of 37 cells become. The document's 'Take': a number and a text. -/
import Derived.Test.YtgjplbanfnomkaaFwX
import Derived.KernelRfl
namespace Go.Proofs.Ytgjplbanfnomkaa
section
set_option linter.unusedVariables false

open Go.RowKit
/-- What was read, as it lies. -/
structure Gt where
  f : Fd
  e : Nat
  A : Option Addr
  c : Nat
  l : List B8
def Gt.cells (g : Gt) : List Value := g.f.cells ++ [.int .i64 (g.e : Int), .slice g.A g.l.length g.c]
set_option maxRecDepth 100000 in
theorem Gt.len (g : Gt) (h : g.f.d.length = 32) : g.cells.length = 37 := by simp [Gt.cells, g.f.len h]
set_option maxRecDepth 100000 in
theorem Gt.one (g : Gt) : g.cells.toArray.all (·.oneCell') = true := by
  rw [Array.all_eq_true_iff_forall_mem]
  intro u hu
  simp only [Gt.cells, List.mem_toArray, List.mem_append, List.mem_cons, List.not_mem_nil, or_false] at hu
  rcases hu with h | rfl | rfl
  · have := Fd.one g.f
    rw [Array.all_eq_true_iff_forall_mem] at this
    exact this u (by simpa using h)
  · rfl
  · rfl
def F0 : Fd := ⟨0, 0, none, 0, [], zeros 32⟩
def Gx (x : Nat) : Gt := ⟨F0, x, none, 0, []⟩
def Z37 : Array Value := (Gx 0).cells.toArray
set_option maxRecDepth 100000 in
theorem zero_got (w : World) : (zeroValue 94).run Try.prog w = .ok (.agg (Gx 0).cells.toArray) w := by kernel_rfl
set_option maxRecDepth 100000 in
theorem Gx.set (x : Nat) : Z37.setIfInBounds 35 (.int .i64 (x : Int)) = (Gx x).cells.toArray := rfl
set_option maxRecDepth 100000 in
theorem Gx.D (x : Nat) (D : Array Value) (h : D = (Gx x).cells.toArray) : (Try.prog.info? 94).map (·.size) = some D.size ∧ Z37.size = D.size ∧ D.all (·.oneCell') = true := by
  have sD : D.size = 37 := by rw [h, List.size_toArray, (Gx x).len (by rfl)]
  exact ⟨by rw [sD]; kernel_rfl, by rw [sD]; rfl, by rw [h]; exact (Gx x).one⟩
set_option maxRecDepth 100000 in
theorem GX : ∃ DX : Nat → Array Value, (∀ x, DX x = (Gx x).cells.toArray) ∧ ∀ x, (Try.prog.info? 94).map (·.size) = some (DX x).size ∧ Z37.size = (DX x).size ∧ (DX x).all (·.oneCell') = true :=
  ⟨fun x => (Gx x).cells.toArray, fun _ => rfl, fun x => Gx.D x _ rfl⟩
set_option maxRecDepth 100000 in
theorem take_short (A : Option Addr) (c : Nat) (l : List B8) (f : Fd) (w : World) (hd : f.d.length = 32) (hk : f.k = 2) (hl : l.length < 32) :
    Calls Try.prog 58 #[.slice A l.length c, .agg f.cells.toArray] w fun r w' => r = .returned (.agg (Gx 2).cells.toArray) ∧ Turn (fun _ => False) w w' := by
  obtain ⟨C, hC⟩ : ∃ C, C = f.cells.toArray := ⟨_, rfl⟩
  obtain ⟨DX, HD, H⟩ := GX
  have sC : C.size = 35 := by rw [hC, List.size_toArray, f.len hd]
  have g1 := heap_alloc2_old w (.cells C 92) (.cells Z37 94)
  have g2 := Lib.hid (heap_alloc2_new w (.cells C 92) (.cells Z37 94))
  have c0 : ((w.alloc (.cells C 92)).alloc (.cells Z37 94)).cell? ⟨w.heap.size, 0, none⟩ = some (.int .i64 f.k) := by rw [cell_of_row _ _ _ _ _ _ g1, hC]; rfl
  have c1 : ((w.alloc (.cells C 92)).alloc (.cells Z37 94)).cell? ⟨w.heap.size, 1, none⟩ = some (.int .u64 (f.n : Int)) := by rw [cell_of_row _ _ _ _ _ _ g1, hC]; rfl
  have t1 := (((Turn.refl (fun _ => False) w).alloc (.cells C 92)).alloc (.cells Z37 94))
  have hzd := zero_got
  change ∀ w, _ = Result.ok (Value.agg Z37) w at hzd
  have hb2 : Z37.setIfInBounds 35 (.int .i64 2) = DX 2 := by rw [HD]; exact Gx.set 2
  have hb3 : Z37.setIfInBounds 35 (.int .i64 3) = DX 3 := by rw [HD]; exact Gx.set 3
  have hb5 : Z37.setIfInBounds 35 (.int .i64 5) = DX 5 := by rw [HD]; exact Gx.set 5
  rw [← hC]
  have HDX := Lib.hid HD
  have HH := Lib.hid H
  clear g1 HD H hC sC
  rw [hk] at c0
  go_enter Try.func58, Try.ntmps58
  go_wp2_with (refine wpList_store_row rfl _ _ _ rfl (w.heap.size + 1) (DX 2) rfl rfl 94 _ g2.out (HH.out 2).1 (HH.out 2).2.1 (HH.out 2).2.2 ?_)
  refine bodyPost_ret (v := .agg (DX 2)) ?_ rfl ⟨by rw [HDX.out], (((Turn.refl (fun _ => False) w).alloc _).alloc _).setRow _ _ (fun h => by omega)⟩
  exact results_cell_row Try.results58 _ _ (w.heap.size + 1) _ (DX 2) (0, 0) _ rfl (setRow_heap _ _ _ _ _ _ g2.out) Try.underlying94 rfl (HH.out 2).1
set_option maxRecDepth 100000 in
/-- A number's bytes, as the document reads them. -/
theorem numE_cases (l : List B8) : (l = [] ∧ numE l = 2) ∨ ∃ k r, l = k :: r ∧ ((8 < k.toNat ∧ numE l = 3) ∨ (k.toNat ≤ 8 ∧ r.length < k.toNat ∧ numE l = 2) ∨ (k.toNat ≤ 8 ∧ k.toNat ≤ r.length ∧ 0 < k.toNat ∧ r[0]? = some 0 ∧ numE l = 3) ∨ (k.toNat ≤ 8 ∧ k.toNat ≤ r.length ∧ (0 < k.toNat → ∃ x, r[0]? = some x ∧ x ≠ 0) ∧ numE l = 0)) := by
  cases l with
  | nil => exact .inl ⟨rfl, rfl⟩
  | cons k r =>
    refine .inr ⟨k, r, rfl, ?_⟩
    simp only [numE]
    by_cases h1 : 8 < k.toNat
    · exact .inl ⟨h1, by rw [if_pos h1]⟩
    by_cases h2 : r.length < k.toNat
    · exact .inr (.inl ⟨by omega, h2, by rw [if_neg h1, if_pos h2]⟩)
    rw [if_neg h1, if_neg h2]
    by_cases h0 : 0 < k.toNat
    · have e : (r.take k.toNat).head? = r[0]? := by rw [List.head?_eq_getElem?, List.getElem?_take, if_pos h0]
      rw [e]
      by_cases h3 : r[0]? = some 0
      · exact .inr (.inr (.inl ⟨by omega, by omega, h0, h3, by rw [if_pos h3]⟩))
      · exact .inr (.inr (.inr ⟨by omega, by omega, fun _ => ⟨r[0]'(by omega), List.getElem?_eq_getElem _, fun h => h3 (by rw [List.getElem?_eq_getElem (by omega), h])⟩, by rw [if_neg h3]⟩))
    · have e : k.toNat = 0 := by omega
      refine .inr (.inr (.inr ⟨by omega, by omega, fun h => absurd h h0, ?_⟩))
      rw [e]; simp
set_option maxRecDepth 100000 in
theorem take_numx (A : Option Addr) (c : Nat) (l : List B8) (f : Fd) (w : World) (hd : f.d.length = 32) (hk : f.k ≠ 2) (hs : SlN w (fun _ => False) A (l.map bv)) (hx : numE l ≠ 0) (hm : l.length ≤ 1099511627776) :
    Calls Try.prog 58 #[.slice A l.length c, .agg f.cells.toArray] w fun r w' => r = .returned (.agg (Gx (numE l)).cells.toArray) ∧ Turn (fun _ => False) w w' := by
  obtain ⟨C, hC⟩ : ∃ C, C = f.cells.toArray := ⟨_, rfl⟩
  obtain ⟨DX, HD, H⟩ := GX
  have sC : C.size = 35 := by rw [hC, List.size_toArray, f.len hd]
  have g1 := heap_alloc2_old w (.cells C 92) (.cells Z37 94)
  have g2 := Lib.hid (heap_alloc2_new w (.cells C 92) (.cells Z37 94))
  have c0 : ((w.alloc (.cells C 92)).alloc (.cells Z37 94)).cell? ⟨w.heap.size, 0, none⟩ = some (.int .i64 f.k) := by rw [cell_of_row _ _ _ _ _ _ g1, hC]; rfl
  have c1 : ((w.alloc (.cells C 92)).alloc (.cells Z37 94)).cell? ⟨w.heap.size, 1, none⟩ = some (.int .u64 (f.n : Int)) := by rw [cell_of_row _ _ _ _ _ _ g1, hC]; rfl
  have t1 := (((Turn.refl (fun _ => False) w).alloc (.cells C 92)).alloc (.cells Z37 94))
  have hzd := zero_got
  change ∀ w, _ = Result.ok (Value.agg Z37) w at hzd
  have hb2 : Z37.setIfInBounds 35 (.int .i64 2) = DX 2 := by rw [HD]; exact Gx.set 2
  have hb3 : Z37.setIfInBounds 35 (.int .i64 3) = DX 3 := by rw [HD]; exact Gx.set 3
  have hb5 : Z37.setIfInBounds 35 (.int .i64 5) = DX 5 := by rw [HD]; exact Gx.set 5
  rw [← hC]
  have HDX := Lib.hid HD
  have HH := Lib.hid H
  clear g1 HD H hC sC
  have hk2 : ¬ f.k = 2 := hk
  generalize f.k = kk at *
  rcases numE_cases l with ⟨rfl, e⟩ | ⟨k, r, rfl, h⟩
  · rw [e]
    go_enter Try.func58, Try.ntmps58
    go_wp2_with (refine wpList_store_row rfl _ _ _ rfl (w.heap.size + 1) (DX 2) rfl rfl 94 _ g2.out (HH.out 2).1 (HH.out 2).2.1 (HH.out 2).2.2 ?_)
    refine bodyPost_ret (v := .agg (DX 2)) ?_ rfl ⟨by rw [HDX.out], (((Turn.refl (fun _ => False) w).alloc _).alloc _).setRow _ _ (fun h => by omega)⟩
    exact results_cell_row Try.results58 _ _ (w.heap.size + 1) _ (DX 2) (0, 0) _ rfl (setRow_heap _ _ _ _ _ _ g2.out) Try.underlying94 rfl (HH.out 2).1
  · obtain ⟨ad, rfl, -, hc⟩ := hs.at (show ((k :: r).map bv)[0]? = some (bv k) from rfl)
    rw [add_zero] at hc
    have b0 := t1.cell hc (fun h => h)
    have hn0 : ¬ ((k :: r).length : Int) = 0 := by simp; omega
    have hn1 : ((k :: r).length : Int) = (r.length : Int) + 1 := by simp
    have hkn := k.isLt
    have hmr : r.length ≤ 1099511627776 := by simp at hm; omega
    rcases h with ⟨h8, e⟩ | ⟨h8, hl, e⟩ | ⟨h8, hl, h0, hz, e⟩ | ⟨-, -, -, e⟩
    · rw [e]
      unfold bv at b0
      generalize (k :: r).length = n at *
      clear hs hc e hx t1
      generalize k.toNat = kn at *
      generalize r.length = m at *
      go_enter Try.func58, Try.ntmps58
      go_wp2_with (refine wpList_store_row rfl _ _ _ rfl (w.heap.size + 1) (DX 3) rfl rfl 94 _ g2.out (HH.out 3).1 (HH.out 3).2.1 (HH.out 3).2.2 ?_)
      refine bodyPost_ret (v := .agg (DX 3)) ?_ rfl ⟨by rw [HDX.out], (((Turn.refl (fun _ => False) w).alloc _).alloc _).setRow _ _ (fun h => by omega)⟩
      exact results_cell_row Try.results58 _ _ (w.heap.size + 1) _ (DX 3) (0, 0) _ rfl (setRow_heap _ _ _ _ _ _ g2.out) Try.underlying94 rfl (HH.out 3).1
    · rw [e]
      unfold bv at b0
      generalize (k :: r).length = n at *
      clear hs hc e hx t1
      generalize k.toNat = kn at *
      generalize r.length = m at *
      go_enter Try.func58, Try.ntmps58
      go_wp2_with (refine wpList_store_row rfl _ _ _ rfl (w.heap.size + 1) (DX 2) rfl rfl 94 _ g2.out (HH.out 2).1 (HH.out 2).2.1 (HH.out 2).2.2 ?_)
      refine bodyPost_ret (v := .agg (DX 2)) ?_ rfl ⟨by rw [HDX.out], (((Turn.refl (fun _ => False) w).alloc _).alloc _).setRow _ _ (fun h => by omega)⟩
      exact results_cell_row Try.results58 _ _ (w.heap.size + 1) _ (DX 2) (0, 0) _ rfl (setRow_heap _ _ _ _ _ _ g2.out) Try.underlying94 rfl (HH.out 2).1
    · obtain ⟨ad', e', -, hc1⟩ := hs.at (show ((k :: r).map bv)[1]? = some (bv 0) by rw [List.map_cons, List.getElem?_cons_succ, List.getElem?_map, hz]; rfl)
      injection e' with e'; subst e'
      have b1 := t1.cell hc1 (fun h => h)
      change World.cell? _ ⟨ad.block, ad.off + 1, none⟩ = some (Value.int .u8 0) at b1
      rw [e]
      clear hc1 hz
      unfold bv at b0
      generalize (k :: r).length = n at *
      clear hs hc e hx t1
      generalize k.toNat = kn at *
      generalize r.length = m at *
      go_enter Try.func58, Try.ntmps58
      go_wp2_with (refine wpList_store_row rfl _ _ _ rfl (w.heap.size + 1) (DX 3) rfl rfl 94 _ g2.out (HH.out 3).1 (HH.out 3).2.1 (HH.out 3).2.2 ?_)
      refine bodyPost_ret (v := .agg (DX 3)) ?_ rfl ⟨by rw [HDX.out], (((Turn.refl (fun _ => False) w).alloc _).alloc _).setRow _ _ (fun h => by omega)⟩
      exact results_cell_row Try.results58 _ _ (w.heap.size + 1) _ (DX 3) (0, 0) _ rfl (setRow_heap _ _ _ _ _ _ g2.out) Try.underlying94 rfl (HH.out 3).1
    · exact absurd e hx

end
section
set_option linter.unusedVariables false

open Go.RowKit
set_option maxRecDepth 100000 in
theorem fold_num (V : Nat) : Array.foldl (fun (cs : Array Value) (x : Value × Nat) => cs.setIfInBounds x.snd x.fst) Z37 (Z35.setIfInBounds 1 (.int .u64 (V : Int))).zipIdx 0 35 = (Gt.cells ⟨⟨0, V, none, 0, [], zeros 32⟩, 0, none, 0, []⟩).toArray := by
  kernel_rfl
set_option maxRecDepth 100000 in
theorem fold_text (A : Option Addr) (n c : Nat) : Array.foldl (fun (cs : Array Value) (x : Value × Nat) => cs.setIfInBounds x.snd x.fst) Z37 ((Z35.setIfInBounds 0 (.int .i64 1)).setIfInBounds 2 (.slice A n c)).zipIdx 0 35 = (([.int .i64 1, .int .u64 0, .slice A n c] ++ (zeros 32).map bv ++ [.int .i64 0, .slice none 0 0] : List Value)).toArray := by
  kernel_rfl
set_option maxRecDepth 100000 in
theorem fold_id : Array.foldl (fun (cs : Array Value) (x : Value × Nat) => cs.setIfInBounds x.snd x.fst) Z37 (Z35.setIfInBounds 0 (.int .i64 2)).zipIdx 0 35 = (([.int .i64 2, .int .u64 0, .slice none 0 0] ++ (zeros 32).map bv ++ [.int .i64 0, .slice none 0 0] : List Value)).toArray := by
  kernel_rfl
set_option maxRecDepth 100000 in
theorem fold_end (x : List Value) (h : x.length = 35) (A : Option Addr) (n c : Nat) : (x ++ [Value.int .i64 0, Value.slice none 0 0]).toArray.setIfInBounds 36 (.slice A n c) = (x ++ [Value.int .i64 0, Value.slice A n c]).toArray := by
  simp [h]

end
section
set_option linter.unusedVariables false

open Go.RowKit
def numK : List B8 → Nat
  | [] => 0
  | k :: _ => 1 + k.toNat
def takeG (A : Option Addr) (c : Nat) (l : List B8) (f : Fd) : Gt :=
  if numE l ≠ 0 then Gx (numE l) else if f.n < numV l then Gx 5 else
  if f.k = 0 then ⟨⟨0, numV l, none, 0, [], zeros 32⟩, 0, cutA A c (numK l), c - numK l, numR l⟩ else
  if (numR l).length < numV l then Gx 2 else
  ⟨⟨1, 0, cutA A c (numK l), c - numK l, (numR l).take (numV l), zeros 32⟩, 0, cutA (cutA A c (numK l)) (c - numK l) (numV l), c - numK l - numV l, (numR l).drop (numV l)⟩
set_option maxRecDepth 100000 in
set_option maxHeartbeats 1000000 in
theorem take_numg (A : Option Addr) (c : Nat) (l : List B8) (f : Fd) (w : World) (hd : f.d.length = 32) (hk : f.k ≠ 2) (hfn : f.n < 18446744073709551616) (hs : SlN w (fun _ => False) A (l.map bv)) (hc : l.length ≤ c) (hx : numE l = 0) (hlast : f.n < numV l ∨ f.k = 0 ∨ (numR l).length < numV l) (hm : l.length ≤ 1099511627776) :
    Calls Try.prog 58 #[.slice A l.length c, .agg f.cells.toArray] w fun r w' => r = .returned (.agg (takeG A c l f).cells.toArray) ∧ Turn (fun _ => False) w w' := by
  obtain ⟨C, hC⟩ : ∃ C, C = f.cells.toArray := ⟨_, rfl⟩
  obtain ⟨DX, HD, H⟩ := GX
  have sC : C.size = 35 := by rw [hC, List.size_toArray, f.len hd]
  have g1 := heap_alloc2_old w (.cells C 92) (.cells Z37 94)
  have g2 := Lib.hid (heap_alloc2_new w (.cells C 92) (.cells Z37 94))
  have c0 : ((w.alloc (.cells C 92)).alloc (.cells Z37 94)).cell? ⟨w.heap.size, 0, none⟩ = some (.int .i64 f.k) := by rw [cell_of_row _ _ _ _ _ _ g1, hC]; rfl
  have c1 : ((w.alloc (.cells C 92)).alloc (.cells Z37 94)).cell? ⟨w.heap.size, 1, none⟩ = some (.int .u64 (f.n : Int)) := by rw [cell_of_row _ _ _ _ _ _ g1, hC]; rfl
  have t1 := (((Turn.refl (fun _ => False) w).alloc (.cells C 92)).alloc (.cells Z37 94))
  have hzd := zero_got
  change ∀ w, _ = Result.ok (Value.agg Z37) w at hzd
  have hb2 : Z37.setIfInBounds 35 (.int .i64 2) = DX 2 := by rw [HD]; exact Gx.set 2
  have hb3 : Z37.setIfInBounds 35 (.int .i64 3) = DX 3 := by rw [HD]; exact Gx.set 3
  have hb5 : Z37.setIfInBounds 35 (.int .i64 5) = DX 5 := by rw [HD]; exact Gx.set 5
  rw [← hC]
  have HDX := Lib.hid HD
  have HH := Lib.hid H
  clear g1 HD H hC sC
  have hk2 : ¬ f.k = 2 := hk
  rcases numE_cases l with ⟨rfl, e⟩ | ⟨k, r, rfl, h⟩
  · rw [e] at hx; cases hx
  rcases h with ⟨h8, e⟩ | ⟨h8, hl, e⟩ | ⟨h8, hl, h0, hz, e⟩ | ⟨h8, hl, hz, -⟩
  · omega
  · omega
  · omega
  obtain ⟨ad, rfl, -, hc0⟩ := hs.at (show ((k :: r).map bv)[0]? = some (bv k) from rfl)
  rw [add_zero] at hc0
  have b0 := t1.cell hc0 (fun h => h)
  have hkn := k.isLt
  have hmr : r.length ≤ 1099511627776 := by simp at hm; omega
  have hn1 : ((k :: r).length : Int) = (r.length : Int) + 1 := by simp
  have hz1 : 0 < k.toNat → ∃ x : B8, ((w.alloc (.cells C 92)).alloc (.cells Z37 94)).cell? ⟨ad.block, ad.off + 1, none⟩ = some (.int .u8 (x.toNat : Int)) ∧ ¬ (x.toNat : Int) = 0 := by
    intro h0
    obtain ⟨x, hx1, hx0⟩ := hz h0
    obtain ⟨ad', e', -, hc1⟩ := hs.at (show ((k :: r).map bv)[1]? = some (bv x) by rw [List.map_cons, List.getElem?_cons_succ, List.getElem?_map, hx1]; rfl)
    injection e' with e'; subst e'
    refine ⟨x, t1.cell hc1 (fun h => h), fun h => hx0 (BitVec.eq_of_toNat_eq (by simpa using h))⟩
  have hcell : ∀ (j : Nat) (hj : j < r.length), ((w.alloc (.cells C 92)).alloc (.cells Z37 94)).cell? ⟨ad.block, ad.off + (j + 1), none⟩ = some (.int .u8 (r[j].toNat : Int)) := by
    intro j hj
    obtain ⟨ad', e', -, hc1⟩ := hs.at (show ((k :: r).map bv)[j + 1]? = some (bv r[j]) by simp [hj])
    injection e' with e'; subst e'
    have ea : ad.add (j + 1) = ⟨ad.block, ad.off + (j + 1), none⟩ := by unfold Addr.add; rw [if_neg (by omega)]
    rw [← ea]
    exact t1.cell hc1 (fun h => h)
  have HCELL := Lib.hid hcell
  obtain ⟨G, hG⟩ : ∃ G, G = takeG (some ad) c (k :: r) f := ⟨_, rfl⟩
  rw [← hG]
  have HG := Lib.hid hG
  have HX := Lib.hid hx
  unfold bv at b0
  obtain ⟨n, hn⟩ : ∃ n, n = (k :: r).length := ⟨_, rfl⟩
  rw [← hn] at hn1 hc hm ⊢
  obtain ⟨kn, hkk⟩ : ∃ kn, kn = k.toNat := ⟨_, rfl⟩
  rw [← hkk] at hz1 b0 hkn h8 hl
  obtain ⟨m, hmm⟩ : ∃ m, m = r.length := ⟨_, rfl⟩
  rw [← hmm] at hn1 hmr hl
  have HK := Lib.hid (And.intro hn (And.intro hkk hmm))
  clear hs hc0 hcell hx hG hz hn hkk hmm t1
  by_cases h0 : 0 < kn
  · obtain ⟨x, b1, hx0⟩ := hz1 h0
    generalize x.toNat = xn at *
    clear hz1
    go_enter Try.func58, Try.ntmps58
    go_wp2
    go_loop [8, 9] (fun v i => ∃ j : Nat, j ≤ kn ∧ i = .int .i64 ((j : Int) + 1) ∧ v = .int .u64 (valB (r.take j) : Int)) (fun _ i => kn + 1 - (intOf i).toNat)
    case atStart => exact ⟨0, Nat.zero_le _, rfl, rfl⟩
    case round =>
      obtain ⟨j, hj, rfl, rfl⟩ := hrel
      by_cases hlt : j < kn
      · have hjr : j < r.length := by have := HK.out.2.2; omega
        have hc := HCELL.out j hjr
        have hv := valB_take r j hjr
        have hb := valB_lt (r.take j)
        have hl7 : (r.take j).length ≤ 7 := by simp; omega
        have hp : 256 ^ (r.take j).length ≤ 256 ^ 7 := Nat.pow_le_pow_right (by decide) hl7
        have hlt7 : valB (r.take j) < 72057594037927936 := by have : (256 : Nat) ^ 7 = 72057594037927936 := by decide
                                                              omega
        have hx := r[j].isLt
        have hja : (j : Int) + 1 ≤ (kn : Int) := by omega
        obtain ⟨q, hq⟩ : ∃ q, q = valB (r.take (j + 1)) := ⟨_, rfl⟩
        rw [← hq] at hv
        have HV := Lib.hid (And.intro hq hv)
        clear hv hb hp hl7 hq
        generalize valB (r.take j) = V at *
        generalize r[j].toNat = x at *
        go_wp2
        go_round
        case rel => exact ⟨j + 1, by omega, by go_num, by rw [← HV.out.1, HV.out.2]; go_num⟩
        case measure => simp [intOf]; omega
      · obtain rfl : j = kn := by omega
        have hV : valB (r.take j) = numV (k :: r) := by rw [HK.out.2.1]; rfl
        have hVl := numV_lt (k :: r) HX.out
        rw [← hV] at hVl
        have hnm : n = m + 1 := by omega
        have HL := Lib.hid (show (numR (k :: r)).length = m - j by rw [HK.out.2.1, HK.out.2.2]; simp [numR])
        have HKK := Lib.hid (show numK (k :: r) = 1 + j by rw [HK.out.2.1]; rfl)
        obtain ⟨V, hVV⟩ : ∃ V, V = valB (r.take j) := ⟨_, rfl⟩
        rw [← hVV] at hVl hV ⊢
        have HV := Lib.hid hV
        clear hV hVV
        generalize hA0 : some ad = A0 at *
        obtain ⟨A1, hA1⟩ : ∃ A1, (if c = 1 + j then A0 else Option.map (fun x => x.add (1 + j)) A0) = A1 := ⟨_, rfl⟩
        obtain ⟨m1, hm1⟩ : ∃ m1, n - (1 + j) = m1 := ⟨_, rfl⟩
        obtain ⟨c1', hc1'⟩ : ∃ c1', c - (1 + j) = c1' := ⟨_, rfl⟩
        have hmc : m1 ≤ c1' := by omega
        have hm1m : m1 ≤ m := by omega
        have hm2 : m + 1 - (1 + j) = m1 := by omega
        have HA1 := Lib.hid (show cutA A0 c (1 + j) = A1 ∧ c - (1 + j) = c1' ∧ m - j = m1 from ⟨hA1, hc1', by omega⟩)
        clear hnm
        by_cases hbig : f.n < V
        · have hG : G = Gx 5 := by rw [HG.out, takeG, if_neg (by rw [HX.out]; simp), if_pos (by rw [← HV.out]; exact hbig)]
          have HGG := Lib.hid hG
          clear hG
          go_wp2_with (refine wpList_store_row rfl _ _ _ rfl (w.heap.size + 1) (DX 5) rfl rfl 94 _ g2.out (HH.out 5).1 (HH.out 5).2.1 (HH.out 5).2.2 ?_)
          refine bodyPost_ret (v := .agg (DX 5)) ?_ rfl ⟨by rw [HDX.out, HGG.out], (((Turn.refl (fun _ => False) w).alloc _).alloc _).setRow _ _ (fun h => by omega)⟩
          exact results_cell_row Try.results58 _ _ (w.heap.size + 1) _ (DX 5) (0, 0) _ rfl (setRow_heap _ _ _ _ _ _ g2.out) Try.underlying94 rfl (HH.out 5).1
        go_upto_region 27 with fail
        rw [hA1, hm1, hc1']
        by_cases hk0 : f.k = 0
        · rw [hk0] at c0
          have hG : G = ⟨⟨0, V, none, 0, [], zeros 32⟩, 0, A1, c1', numR (k :: r)⟩ := by rw [HG.out, takeG, if_neg (by rw [HX.out]; simp), if_neg (by rw [← HV.out]; exact hbig), if_pos hk0, HKK.out, HA1.out.1, HA1.out.2.1, ← HV.out]
          have hz3 := zero_field
          change ∀ w, _ = Result.ok (Value.agg Z35) w at hz3
          have hz35 : Z35.size = 35 := rfl
          have hz37 : Z37.size = 37 := rfl
          obtain ⟨FD, hFD⟩ : ∃ FD, Z35.setIfInBounds 1 (.int .u64 (V : Int)) = FD := ⟨_, rfl⟩
          have sFD : FD.size = 35 := by rw [← hFD]; rfl
          obtain ⟨GD1, hGD1⟩ : ∃ GD1, Array.foldl (fun (cs : Array Value) (x : Value × Nat) => cs.setIfInBounds x.snd x.fst) Z37 FD.zipIdx 0 35 = GD1 := ⟨_, rfl⟩
          have e1 : GD1 = (Gt.cells ⟨⟨0, V, none, 0, [], zeros 32⟩, 0, none, 0, []⟩).toArray := by rw [← hGD1, ← hFD]; exact fold_num V
          have sGD : GD1.size = 37 := by rw [e1]; rfl
          obtain ⟨GD, hGD⟩ : ∃ GD, GD1.setIfInBounds 36 (.slice A1 m1 c1') = GD := ⟨_, rfl⟩
          have e2 : GD = G.cells.toArray := by
            rw [← hGD, e1, hG]
            refine (fold_end (Fd.cells ⟨0, V, none, 0, [], zeros 32⟩) rfl A1 m1 c1').trans ?_
            rw [Gt.cells, HL.out, HA1.out.2.2]; rfl
          have s2 : GD.size = 37 := by rw [← hGD, Array.size_setIfInBounds, sGD]
          have H1 := Lib.hid (show (Try.prog.info? 94).map (·.size) = some GD.size by rw [s2]; kernel_rfl)
          have H2 := Lib.hid (show Z37.size = GD.size by rw [s2]; rfl)
          have H3 := Lib.hid (show GD.all (·.oneCell') = true by rw [e2]; exact G.one)
          have E2 := Lib.hid e2
          clear e1 e2 s2 hG
          go_wp2_with (refine wpList_store_row rfl _ _ _ rfl (w.heap.size + 1) GD rfl rfl 94 _ g2.out H1.out H2.out H3.out ?_)
          refine bodyPost_ret (v := .agg GD) ?_ rfl ⟨by rw [E2.out], (((Turn.refl (fun _ => False) w).alloc _).alloc _).setRow _ _ (fun h => by omega)⟩
          exact results_cell_row Try.results58 _ _ (w.heap.size + 1) _ GD (0, 0) _ rfl (setRow_heap _ _ _ _ _ _ g2.out) Try.underlying94 rfl H1.out
        have hsh : m1 < V := by
          rcases hlast with h | h | h
          · rw [← HV.out] at h; exact absurd h hbig
          · exact absurd h hk0
          · rw [HL.out, HA1.out.2.2, ← HV.out] at h; exact h
        have hG : G = Gx 2 := by rw [HG.out, takeG, if_neg (by rw [HX.out]; simp), if_neg (by rw [← HV.out]; exact hbig), if_neg hk0, if_pos (by rw [HL.out, HA1.out.2.2, ← HV.out]; exact hsh)]
        have HGG := Lib.hid hG
        clear hG hlast
        go_wp2_with (refine wpList_store_row rfl _ _ _ rfl (w.heap.size + 1) (DX 2) rfl rfl 94 _ g2.out (HH.out 2).1 (HH.out 2).2.1 (HH.out 2).2.2 ?_)
        refine bodyPost_ret (v := .agg (DX 2)) ?_ rfl ⟨by rw [HDX.out, HGG.out], (((Turn.refl (fun _ => False) w).alloc _).alloc _).setRow _ _ (fun h => by omega)⟩
        exact results_cell_row Try.results58 _ _ (w.heap.size + 1) _ (DX 2) (0, 0) _ rfl (setRow_heap _ _ _ _ _ _ g2.out) Try.underlying94 rfl (HH.out 2).1
  · clear hz1
    go_enter Try.func58, Try.ntmps58
    go_wp2
    go_loop [8, 9] (fun v i => ∃ j : Nat, j ≤ kn ∧ i = .int .i64 ((j : Int) + 1) ∧ v = .int .u64 (valB (r.take j) : Int)) (fun _ i => kn + 1 - (intOf i).toNat)
    case atStart => exact ⟨0, Nat.zero_le _, rfl, rfl⟩
    case round =>
      obtain ⟨j, hj, rfl, rfl⟩ := hrel
      by_cases hlt : j < kn
      · omega
      · obtain rfl : j = kn := by omega
        have hV : valB (r.take j) = numV (k :: r) := by rw [HK.out.2.1]; rfl
        have hVl := numV_lt (k :: r) HX.out
        rw [← hV] at hVl
        have hnm : n = m + 1 := by omega
        have HL := Lib.hid (show (numR (k :: r)).length = m - j by rw [HK.out.2.1, HK.out.2.2]; simp [numR])
        have HKK := Lib.hid (show numK (k :: r) = 1 + j by rw [HK.out.2.1]; rfl)
        obtain ⟨V, hVV⟩ : ∃ V, V = valB (r.take j) := ⟨_, rfl⟩
        rw [← hVV] at hVl hV ⊢
        have HV := Lib.hid hV
        clear hV hVV
        generalize hA0 : some ad = A0 at *
        obtain ⟨A1, hA1⟩ : ∃ A1, (if c = 1 + j then A0 else Option.map (fun x => x.add (1 + j)) A0) = A1 := ⟨_, rfl⟩
        obtain ⟨m1, hm1⟩ : ∃ m1, n - (1 + j) = m1 := ⟨_, rfl⟩
        obtain ⟨c1', hc1'⟩ : ∃ c1', c - (1 + j) = c1' := ⟨_, rfl⟩
        have hmc : m1 ≤ c1' := by omega
        have hm1m : m1 ≤ m := by omega
        have hm2 : m + 1 - (1 + j) = m1 := by omega
        have HA1 := Lib.hid (show cutA A0 c (1 + j) = A1 ∧ c - (1 + j) = c1' ∧ m - j = m1 from ⟨hA1, hc1', by omega⟩)
        clear hnm
        by_cases hbig : f.n < V
        · have hG : G = Gx 5 := by rw [HG.out, takeG, if_neg (by rw [HX.out]; simp), if_pos (by rw [← HV.out]; exact hbig)]
          have HGG := Lib.hid hG
          clear hG
          go_wp2_with (refine wpList_store_row rfl _ _ _ rfl (w.heap.size + 1) (DX 5) rfl rfl 94 _ g2.out (HH.out 5).1 (HH.out 5).2.1 (HH.out 5).2.2 ?_)
          refine bodyPost_ret (v := .agg (DX 5)) ?_ rfl ⟨by rw [HDX.out, HGG.out], (((Turn.refl (fun _ => False) w).alloc _).alloc _).setRow _ _ (fun h => by omega)⟩
          exact results_cell_row Try.results58 _ _ (w.heap.size + 1) _ (DX 5) (0, 0) _ rfl (setRow_heap _ _ _ _ _ _ g2.out) Try.underlying94 rfl (HH.out 5).1
        go_upto_region 27 with fail
        rw [hA1, hm1, hc1']
        by_cases hk0 : f.k = 0
        · rw [hk0] at c0
          have hG : G = ⟨⟨0, V, none, 0, [], zeros 32⟩, 0, A1, c1', numR (k :: r)⟩ := by rw [HG.out, takeG, if_neg (by rw [HX.out]; simp), if_neg (by rw [← HV.out]; exact hbig), if_pos hk0, HKK.out, HA1.out.1, HA1.out.2.1, ← HV.out]
          have hz3 := zero_field
          change ∀ w, _ = Result.ok (Value.agg Z35) w at hz3
          have hz35 : Z35.size = 35 := rfl
          have hz37 : Z37.size = 37 := rfl
          obtain ⟨FD, hFD⟩ : ∃ FD, Z35.setIfInBounds 1 (.int .u64 (V : Int)) = FD := ⟨_, rfl⟩
          have sFD : FD.size = 35 := by rw [← hFD]; rfl
          obtain ⟨GD1, hGD1⟩ : ∃ GD1, Array.foldl (fun (cs : Array Value) (x : Value × Nat) => cs.setIfInBounds x.snd x.fst) Z37 FD.zipIdx 0 35 = GD1 := ⟨_, rfl⟩
          have e1 : GD1 = (Gt.cells ⟨⟨0, V, none, 0, [], zeros 32⟩, 0, none, 0, []⟩).toArray := by rw [← hGD1, ← hFD]; exact fold_num V
          have sGD : GD1.size = 37 := by rw [e1]; rfl
          obtain ⟨GD, hGD⟩ : ∃ GD, GD1.setIfInBounds 36 (.slice A1 m1 c1') = GD := ⟨_, rfl⟩
          have e2 : GD = G.cells.toArray := by
            rw [← hGD, e1, hG]
            refine (fold_end (Fd.cells ⟨0, V, none, 0, [], zeros 32⟩) rfl A1 m1 c1').trans ?_
            rw [Gt.cells, HL.out, HA1.out.2.2]; rfl
          have s2 : GD.size = 37 := by rw [← hGD, Array.size_setIfInBounds, sGD]
          have H1 := Lib.hid (show (Try.prog.info? 94).map (·.size) = some GD.size by rw [s2]; kernel_rfl)
          have H2 := Lib.hid (show Z37.size = GD.size by rw [s2]; rfl)
          have H3 := Lib.hid (show GD.all (·.oneCell') = true by rw [e2]; exact G.one)
          have E2 := Lib.hid e2
          clear e1 e2 s2 hG
          go_wp2_with (refine wpList_store_row rfl _ _ _ rfl (w.heap.size + 1) GD rfl rfl 94 _ g2.out H1.out H2.out H3.out ?_)
          refine bodyPost_ret (v := .agg GD) ?_ rfl ⟨by rw [E2.out], (((Turn.refl (fun _ => False) w).alloc _).alloc _).setRow _ _ (fun h => by omega)⟩
          exact results_cell_row Try.results58 _ _ (w.heap.size + 1) _ GD (0, 0) _ rfl (setRow_heap _ _ _ _ _ _ g2.out) Try.underlying94 rfl H1.out
        have hsh : m1 < V := by
          rcases hlast with h | h | h
          · rw [← HV.out] at h; exact absurd h hbig
          · exact absurd h hk0
          · rw [HL.out, HA1.out.2.2, ← HV.out] at h; exact h
        have hG : G = Gx 2 := by rw [HG.out, takeG, if_neg (by rw [HX.out]; simp), if_neg (by rw [← HV.out]; exact hbig), if_neg hk0, if_pos (by rw [HL.out, HA1.out.2.2, ← HV.out]; exact hsh)]
        have HGG := Lib.hid hG
        clear hG hlast
        go_wp2_with (refine wpList_store_row rfl _ _ _ rfl (w.heap.size + 1) (DX 2) rfl rfl 94 _ g2.out (HH.out 2).1 (HH.out 2).2.1 (HH.out 2).2.2 ?_)
        refine bodyPost_ret (v := .agg (DX 2)) ?_ rfl ⟨by rw [HDX.out, HGG.out], (((Turn.refl (fun _ => False) w).alloc _).alloc _).setRow _ _ (fun h => by omega)⟩
        exact results_cell_row Try.results58 _ _ (w.heap.size + 1) _ (DX 2) (0, 0) _ rfl (setRow_heap _ _ _ _ _ _ g2.out) Try.underlying94 rfl (HH.out 2).1

end
end Go.Proofs.Ytgjplbanfnomkaa
