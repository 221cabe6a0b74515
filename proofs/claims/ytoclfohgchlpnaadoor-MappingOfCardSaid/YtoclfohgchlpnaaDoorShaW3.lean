/- The contract of the code's 'mix': a block is stirred into the words. -/
import Derived.Test.YtoclfohgchlpnaaDoorShaW2
import Derived.Deep.WholeRow
namespace Go.Proofs.YtoclfohgchlpnaaDoor
open Go.RowKit

/-- The cells of a digester. -/
def dcells (v : V8) (m : List B8) (f l : Nat) : Array Value :=
  ([wv v.a, wv v.b, wv v.c, wv v.d, wv v.e, wv v.f, wv v.g, wv v.h] ++ (m.map bv ++ [Value.int .i64 (f : Int), Value.int .u64 (l : Int)])).toArray
/-- In block 1 (the variable roundWords) stand the constants. -/
def Glob (w : World) : Prop := 2 ≤ w.heap.size ∧ (∀ i, i < 64 → w.cell? ⟨1, i, none⟩ = some (wv (K64.getD i 0))) ∧ ∀ i, i < 8 → w.cell? ⟨0, i, none⟩ = some (wv (H8.list.getD i 0))
theorem wnotx (x : W) : bits .xor .u32 4294967295 (x.toNat : Int) = ((~~~x).toNat : Int) := by
  have h := wxor (BitVec.allOnes 32) x
  rw [BitVec.allOnes_xor] at h
  exact h
theorem wsum5 (a b c d e : W) : ((a.toNat : Int) + b.toNat + c.toNat + d.toNat + e.toNat) % 4294967296 = ((a + b + c + d + e).toNat : Int) := by
  simp only [BitVec.toNat_add]; omega
theorem grown_of_below {w w' : World} (h : Below w.heap.size w w') (r : Option Nat) : w.grownBy w' r := ⟨h.os, h.tape, h.output, h.size, fun k hk _ => h.block k hk⟩
theorem grown_set {w w1 : World} {g : Nat} (h : w.grownBy w1 (some g)) (i : Nat) (v : Value) : w.grownBy (w1.setCell ⟨g, i, none⟩ v) (some g) :=
  ⟨h.os, h.tape, h.output, by simpa [World.setCell] using h.size, fun k hk hne => (Below.heap_setCell _ _ _ _ (by intro e; exact hne (by rw [e]))).trans (h.block k hk hne)⟩
theorem grown_drew {w w1 : World} {r : Option Nat} (h : w.grownBy w1 r) : w.grownBy w1.drew r := ⟨h.os, h.tape, h.output, h.size, h.block⟩
theorem grown_drews {w w1 w2 : World} {r : Option Nat} (h : w.grownBy w1 r) (e1 : w2.os = w1.os) (e2 : w2.tape = w1.tape) (e3 : w2.output = w1.output) (e4 : w2.heap = w1.heap) : w.grownBy w2 r :=
  ⟨e1.trans h.os, e2.trans h.tape, e3.trans h.output, by rw [e4]; exact h.size, fun k hk hne => by rw [e4]; exact h.block k hk hne⟩
theorem set8 (w : World) (g : Nat) (v u : V8) (m : List B8) (f l : Nat) (t : TypeId) (h : w.heap[g]? = some (.cells (dcells v m f l) t (0, 0))) :
    ((((((((w.setCell ⟨g, 0, none⟩ (.int .u32 ((v.a + u.a).toNat : Int))).setCell ⟨g, 1, none⟩ (.int .u32 ((v.b + u.b).toNat : Int))).setCell ⟨g, 2, none⟩ (.int .u32 ((v.c + u.c).toNat : Int))).setCell ⟨g, 3, none⟩ (.int .u32 ((v.d + u.d).toNat : Int))).setCell ⟨g, 4, none⟩ (.int .u32 ((v.e + u.e).toNat : Int))).setCell
      ⟨g, 5, none⟩ (.int .u32 ((v.f + u.f).toNat : Int))).setCell ⟨g, 6, none⟩ (.int .u32 ((v.g + u.g).toNat : Int))).setCell ⟨g, 7, none⟩ (.int .u32 ((v.h + u.h).toNat : Int))).heap[g]? = some (.cells (dcells (v.add u) m f l) t (0, 0)) := by
  have h1 := heap_setCell_same _ g 0 _ t (.int .u32 ((v.a + u.a).toNat : Int)) h
  have h2 := heap_setCell_same _ g 1 _ t (.int .u32 ((v.b + u.b).toNat : Int)) h1
  have h3 := heap_setCell_same _ g 2 _ t (.int .u32 ((v.c + u.c).toNat : Int)) h2
  have h4 := heap_setCell_same _ g 3 _ t (.int .u32 ((v.d + u.d).toNat : Int)) h3
  have h5 := heap_setCell_same _ g 4 _ t (.int .u32 ((v.e + u.e).toNat : Int)) h4
  have h6 := heap_setCell_same _ g 5 _ t (.int .u32 ((v.f + u.f).toNat : Int)) h5
  have h7 := heap_setCell_same _ g 6 _ t (.int .u32 ((v.g + u.g).toNat : Int)) h6
  have h8 := heap_setCell_same _ g 7 _ t (.int .u32 ((v.h + u.h).toNat : Int)) h7
  rw [h8]
  simp only [dcells, List.setIfInBounds_toArray, List.cons_append, List.nil_append, List.set_cons_zero, List.set_cons_succ, V8.add, wv]
theorem Glob.below {w w' : World} {B : Nat} (h : Glob w) (hb : Below B w w') (hB : 2 ≤ B) : Glob w' :=
  ⟨Nat.le_trans h.1 hb.size, fun i hi => (hb.cell (p := ⟨1, i, none⟩) (by show 1 < B; omega)).trans (h.2.1 i hi),
    fun i hi => (hb.cell (p := ⟨0, i, none⟩) (by show 0 < B; omega)).trans (h.2.2 i hi)⟩
theorem dcell (v : V8) (m : List B8) (f l : Nat) (w : World) (g : Nat) (t : TypeId) (h : w.heap[g]? = some (.cells (dcells v m f l) t (0, 0))) :
    (w.cell? ⟨g, 0, none⟩ = some (wv v.a) ∧ w.cell? ⟨g, 1, none⟩ = some (wv v.b) ∧ w.cell? ⟨g, 2, none⟩ = some (wv v.c) ∧ w.cell? ⟨g, 3, none⟩ = some (wv v.d) ∧
     w.cell? ⟨g, 4, none⟩ = some (wv v.e) ∧ w.cell? ⟨g, 5, none⟩ = some (wv v.f) ∧ w.cell? ⟨g, 6, none⟩ = some (wv v.g) ∧ w.cell? ⟨g, 7, none⟩ = some (wv v.h)) ∧
    (∀ i, i < m.length → w.cell? ⟨g, 8 + i, none⟩ = some (bv (m.getD i 0))) := by
  refine ⟨⟨?_, ?_, ?_, ?_, ?_, ?_, ?_, ?_⟩, fun i hi => ?_⟩
  iterate 8 rw [cell_of_row w g _ _ _ _ h]; rfl
  rw [cell_of_row w g _ _ _ _ h]
  unfold dcells
  rw [List.getElem?_toArray, List.getElem?_append_right (by simp), List.getElem?_append_left (by simp; omega)]
  simp [hi]
set_option maxHeartbeats 2000000 in
set_option maxRecDepth 10000 in
theorem mix_any (g : Nat) (v : V8) (m : List B8) (f l : Nat) (w : World) (hm : m.length = 64) (hg : w.heap[g]? = some (.cells (dcells v m f l) 72 (0, 0))) (hG : Glob w) (h2 : 2 ≤ g) :
    Calls Tryd.prog 45 #[.pointer (some ⟨g, 0, none⟩)] w fun e w' => e = .returned (.tuple #[]) ∧
      w'.heap[g]? = some (.cells (dcells (comp K64 v m) m f l) 72 (0, 0)) ∧ w.grownBy w' (some g) := by
  have hlt : g < w.heap.size := lt_of_block hg
  obtain ⟨⟨c0, c1, c2, c3, c4, c5, c6, c7⟩, hb8⟩ := dcell v m f l w g _ hg
  have E1 := Lib.hid (schedule_any g m w (fun i hi => hb8 i (by omega)) hlt)
  have HG := Lib.hid hg
  have HGl := Lib.hid hG
  have H2 := Lib.hid h2
  clear hb8 hg hG h2 c0 c1 c2 c3 c4 c5 c6 c7
  obtain ⟨C, hC⟩ : ∃ C, C = arrW (sch m 64) 64 := ⟨_, rfl⟩
  rw [← hC] at E1
  have H1 := Lib.hid (show (Tryd.prog.info? 99).map (·.size) = some C.size by rw [hC, arrW_size _ _ (sch_len m 64) (by omega)]; kernel_rfl)
  have H3 := Lib.hid (show 64 = C.size by rw [hC, arrW_size _ _ (sch_len m 64) (by omega)])
  have H4 := Lib.hid (show C.all (·.oneCell') = true by rw [hC]; exact arrW_one (sch m 64) 64)
  have HCC := Lib.hid hC
  clear hC
  go_enter Tryd.func45, Tryd.ntmps45
  go_wp2_with fail
  refine E1.out.mono ?_
  rintro e w1 ⟨rfl, hb1⟩
  go_wp2_with (refine wpList_store_row rfl _ _ _ rfl w1.heap.size C rfl rfl 99 _ (heap_alloc_new w1 _) H1.out H3.out H4.out ?_)
  rw [World.setRow_alloc_new]
  obtain ⟨wz, hwz⟩ : ∃ wz, wz = w1.alloc (.cells C 99) := ⟨_, rfl⟩
  have hzg : wz.heap[g]? = some (.cells (dcells v m f l) 72 (0, 0)) := by
    rw [hwz, Below.heap_alloc _ _ _ (Nat.lt_of_lt_of_le hlt hb1.size), hb1.block g hlt]; exact HG.out
  have hzC : wz.heap[w1.heap.size]? = some (.cells C 99 (0, 0)) := by rw [hwz]; exact heap_alloc_new _ _
  have hbz : Below w.heap.size w wz := by rw [hwz]; exact hb1.alloc hb1.size _
  have hGz : Glob wz := HGl.out.below hbz HGl.out.1
  rw [← hwz]
  have HZG := Lib.hid hzg
  have HBZ := Lib.hid hbz
  have hK := Lib.hid (fun i hi => hGz.2.1 i hi)
  have hM := Lib.hid (fun i (hi : i < 64) => show wz.cell? ⟨w1.heap.size, i, none⟩ = some (wv ((sch m 64).getD i 0)) by
    rw [cell_of_row wz _ i _ _ _ hzC, HCC.out]; exact arrW_at _ _ _ (sch_len m 64) hi)
  obtain ⟨⟨c0, c1, c2, c3, c4, c5, c6, c7⟩, -⟩ := dcell v m f l wz g _ hzg
  have g1 : w1.heap.size ≠ g := by have := hb1.size; omega
  clear hzg hwz hzC hbz hGz H1 H3 H4 E1 HG HCC HGl hb1 hm
  generalize w1.heap.size = B at *
  unfold wv at c0 c1 c2 c3 c4 c5 c6 c7
  go_quiet (fail)
  go_wp2_with fail
  go_quiet (fail)
  go_wp2_with fail
  go_loopw [3, 4, 5, 6, 7, 8, 9, 10, 58] (fun a b c d e f0 g0 h0 i wr => ∃ (k n : Nat) (u : V8), k ≤ 64 ∧ i = .int .i64 k ∧ u = V8.run K64 (sch m 64) v k ∧ a = .int .u32 (u.a.toNat : Int) ∧ b = .int .u32 (u.b.toNat : Int) ∧ c = .int .u32 (u.c.toNat : Int) ∧
      d = .int .u32 (u.d.toNat : Int) ∧ e = .int .u32 (u.e.toNat : Int) ∧ f0 = .int .u32 (u.f.toNat : Int) ∧ g0 = .int .u32 (u.g.toNat : Int) ∧ h0 = .int .u32 (u.h.toNat : Int) ∧ wr = wz.drewN n) (fun _ _ _ _ _ _ _ _ i _ => 64 - (intOf i).toNat)
  case atStart => exact ⟨0, _, v, by omega, rfl, rfl, rfl, rfl, rfl, rfl, rfl, rfl, rfl, rfl, World.drewN_drewN ..⟩
  case round =>
    obtain ⟨k, n, u, hk, rfl, hu, rfl, rfl, rfl, rfl, rfl, rfl, rfl, rfl, rfl⟩ := hrel
    have HU := Lib.hid hu
    clear hu
    by_cases hlt : k < 64
    · have HS := Lib.hid (show V8.run K64 (sch m 64) v (k + 1) = u.step (K64.getD k 0) ((sch m 64).getD k 0) by rw [HU.out]; rfl)
      obtain ⟨wq, hq⟩ : ∃ wq, wq = wz.drewN n := ⟨_, rfl⟩
      have d1 : wq.cell? ⟨1, k, none⟩ = _ := (show wq.cell? _ = wz.cell? _ by rw [hq]; rfl).trans (hK.out k hlt)
      have d2 : wq.cell? ⟨B, k, none⟩ = _ := (show wq.cell? _ = wz.cell? _ by rw [hq]; rfl).trans (hM.out k hlt)
      rw [← hq]
      have HQ := Lib.hid hq
      clear hq
      generalize K64.getD k 0 = x at *
      generalize (sch m 64).getD k 0 = y at *
      unfold wv at d1 d2
      have E1 := Lib.hid (fun w => bs0_any u.a w)
      have E2 := Lib.hid (fun w => bs1_any u.e w)
      go_wp2
      have hu : (if IntKind.u32.signed = true then (-1 : Int) else IntKind.u32.max) = 4294967295 := by decide
      go_quiet ((go_at_call 58; exact Calls.quiet_of_same (E2.out _)))
      go_wp2_with (go_at_call 58; ((with_reducible refine (E1.out _).mono ?_); rintro e w' ⟨rfl, rfl⟩))
      go_roundw
      case rel => 
        refine ⟨k + 1, _, _, by omega, by go_num, HS.out.symm, ?_, rfl, rfl, rfl, ?_, rfl, rfl, rfl, by rw [HQ.out, World.drewN_drewN]⟩
        · simp only [wnotx, wand, wxor, wsum5, wadd]; rfl
        · simp only [wnotx, wand, wxor, wsum5, wadd]; rfl
      case measure => simp [intOf]; omega
    · have HR := Lib.hid (show u = V8.run K64 (sch m 64) v 64 by rw [HU.out, show k = 64 by omega])
      obtain ⟨wq, hq⟩ : ∃ wq, wq = wz.drewN n := ⟨_, rfl⟩
      have hg0 : wq.heap[g]? = some (.cells (dcells v m f l) 72 (0, 0)) := by rw [hq]; exact HZG.out
      have HB0 := Lib.hid (show Below w.heap.size w wq by rw [hq]; exact below_drewN HBZ.out)
      have z0 := frozen_of_row wq g 0 _ _ hg0
      have z1 := frozen_of_row wq g 1 _ _ hg0
      have z2 := frozen_of_row wq g 2 _ _ hg0
      have z3 := frozen_of_row wq g 3 _ _ hg0
      have z4 := frozen_of_row wq g 4 _ _ hg0
      have z5 := frozen_of_row wq g 5 _ _ hg0
      have z6 := frozen_of_row wq g 6 _ _ hg0
      have z7 := frozen_of_row wq g 7 _ _ hg0
      clear c0 c1 c2 c3 c4 c5 c6 c7
      obtain ⟨⟨c0, c1, c2, c3, c4, c5, c6, c7⟩, -⟩ := dcell v m f l wq g _ hg0
      unfold wv at c0 c1 c2 c3 c4 c5 c6 c7
      have HG0 := Lib.hid hg0
      rw [← hq]
      clear hq hg0 HBZ HZG HU hK hM
      iterate 8
        go_wp2
        go_region
      clear c0 c1 c2 c3 c4 c5 c6 c7 z0 z1 z2 z3 z4 z5 z6 z7
      go_end0
      simp only [wadd]
      refine ⟨trivial, ?_, ?_⟩
      · rw [show comp K64 v m = v.add u by rw [HR.out]; rfl]
        simp only [heap_drew]
        with_reducible exact set8 wq g v u m f l _ HG0.out
      · have h0 := grown_of_below HB0.out (some g)
        refine grown_drew (grown_drew (grown_drew (grown_drew (grown_drew (grown_drew (grown_drew (grown_drew ?_)))))))
        with_reducible exact grown_set (grown_set (grown_set (grown_set (grown_set (grown_set (grown_set (grown_set h0 _ _) _ _) _ _) _ _) _ _) _ _) _ _) _ _
end Go.Proofs.YtoclfohgchlpnaaDoor
