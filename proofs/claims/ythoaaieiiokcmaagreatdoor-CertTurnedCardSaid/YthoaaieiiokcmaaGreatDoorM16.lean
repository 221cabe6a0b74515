/- Merged: Merged: Headers as plain records: how they lie in memory, loads of them as one rule, and the language's own == of them. The document's 'Right' and 'Put' of headers. The document's digest of a header. The document's leaves of a block. The document's header of a next block. Reading a header, as plain functions; small laws of records read by the document's Take. The contract of the document's 'Read' of headers. A header's form is read as the header; headers and entries that came in, opened. -/
import Derived.Test.YthoaaieiiokcmaaGreatDoorM12
import Derived.Test.YthoaaieiiokcmaaGreatDoorM13
import Derived.Laws.StructEq
import Derived.Laws.ResultCell
import Derived.Laws.Rows
import Derived.Laws.Tables
import Derived.Test.YthoaaieiiokcmaaGreatDoorM09
import Derived.Test.YthoaaieiiokcmaaGreatDoorM10
import Derived.Test.YthoaaieiiokcmaaGreatDoorM15
import Derived.OpenShut
import Derived.ChangeSlices
namespace Go.Proofs.YthoaaieiiokcmaaGreatDoor
section

section
set_option linter.unusedVariables false
set_option linter.unusedSimpArgs false

open Go.RowKit
/-- A header, plain: shard, height, epoch, the digest ahead, the root. -/
structure Hdr where
  s : Int
  t : Int
  p : Int
  d : List B8
  r : List B8
instance : DecidableEq Hdr := fun a b => decidable_of_iff (a.s = b.s ∧ a.t = b.t ∧ a.p = b.p ∧ a.d = b.d ∧ a.r = b.r) (by cases a; cases b; simp)
/-- Both digests are of 32 bytes. -/
def Hdr.L (h : Hdr) : Prop := h.d.length = 32 ∧ h.r.length = 32
def Hdr.cells (e : Hdr) : List Value := [.int .i64 e.s, .int .i64 e.t, .int .i64 e.p] ++ (e.d.map bv ++ e.r.map bv)
theorem Hdr.len (e : Hdr) (h : e.L) : e.cells.length = 67 := by simp [Hdr.cells, h.1, h.2]
set_option maxRecDepth 100000 in
theorem Hdr.one (e : Hdr) : e.cells.toArray.all (·.oneCell') = true := by
  rw [Array.all_eq_true_iff_forall_mem]
  intro u hu
  simp only [Hdr.cells, List.mem_toArray, List.mem_append, List.mem_cons, List.not_mem_nil, or_false, List.mem_map] at hu
  rcases hu with (rfl | rfl | rfl) | ⟨x, -, rfl⟩ | ⟨x, -, rfl⟩ <;> rfl
set_option maxRecDepth 100000 in
theorem Hdr.at (e : Hdr) : e.cells[0]? = some (.int .i64 e.s) ∧ e.cells[1]? = some (.int .i64 e.t) ∧ e.cells[2]? = some (.int .i64 e.p) := ⟨rfl, rfl, rfl⟩
set_option maxRecDepth 100000 in
theorem Hdr.mid (e : Hdr) (h : e.L) : (e.cells.drop 3).take 32 = e.d.map bv := by
  show (e.d.map bv ++ _).take 32 = _
  rw [List.take_append_of_le_length (by simp [h.1]), List.take_of_length_le (by simp [h.1])]
set_option maxRecDepth 100000 in
theorem Hdr.low (e : Hdr) (h : e.L) : (e.cells.drop 35).take 32 = e.r.map bv := by
  have : e.cells.drop 35 = e.r.map bv := by
    show (e.d.map bv ++ e.r.map bv).drop 32 = _
    exact List.drop_left' (by simp [h.1])
  rw [this, List.take_of_length_le (by simp [h.2])]
theorem hd_info : (Tryz.prog.info? 33).map (·.size) = some 67 := by kernel_rfl
/-- A header's block. -/
def HAt (w : World) (b : Nat) (e : Hdr) : Prop := w.heap[b]? = some (.cells e.cells.toArray 33 (0, 0))
section
variable {w w' : World} {b : Nat} {e : Hdr}
theorem HAt.turn {S : Nat → Prop} (h : HAt w b e) (t : Turn S w w') (hb : ¬ S b) : HAt w' b e := t.heap h hb
set_option maxRecDepth 100000 in
theorem HAt.c (h : HAt w b e) : w.cell? ⟨b, 0, none⟩ = some (.int .i64 e.s) ∧ w.cell? ⟨b, 1, none⟩ = some (.int .i64 e.t) ∧ w.cell? ⟨b, 2, none⟩ = some (.int .i64 e.p) := by
  obtain ⟨a0, a1, a2⟩ := e.at
  refine ⟨?_, ?_, ?_⟩ <;> (rw [cell_of_row _ _ _ _ _ _ h, List.getElem?_toArray]; assumption)
theorem HAt.f (h : HAt w b e) (i : Nat) : w.frozen? ⟨b, i, none⟩ = false := frozen_of_row w b i _ _ h
set_option maxRecDepth 100000 in
theorem HAt.row (h : HAt w b e) (hd : e.L) : rowOf w b 0 67 = some e.cells.toArray := by
  have := rowOf_block h 0 67 (by rw [e.len hd]; omega)
  rwa [List.drop_zero, List.take_of_length_le (by rw [e.len hd]; omega)] at this
set_option maxRecDepth 100000 in
theorem HAt.dig (h : HAt w b e) (hd : e.L) : rowOf w b 3 32 = some (e.d.map bv).toArray := by
  have := rowOf_block h 3 32 (by rw [e.len hd]; omega)
  rwa [e.mid hd] at this
set_option maxRecDepth 100000 in
theorem HAt.rot (h : HAt w b e) (hd : e.L) : rowOf w b 35 32 = some (e.r.map bv).toArray := by
  have := rowOf_block h 35 32 (by rw [e.len hd]; omega)
  rwa [e.low hd] at this
theorem HAt.lt (h : HAt w b e) : b < w.heap.size := lt_of_block h
end
/-- A load of a header, behind a name that the walk does not open. -/
def hdLoad (v : Value) : Sem Value := Instr.loadAt 33 v
set_option maxRecDepth 100000 in
theorem loadAt_hd (v : Value) : Instr.loadAt 33 v = hdLoad v := rfl
set_option maxRecDepth 100000 in
theorem run_hdLoad (w : World) (b o : Nat) : (hdLoad (.pointer (some ⟨b, o, none⟩))).run Tryz.prog w = (match rowOf w b o 67 with | some C => .ok (.agg C) w | none => loadRest Tryz.prog 33 b o w) := by
  unfold hdLoad
  cases h : rowOf w b o 67 with
  | none => rfl
  | some C =>
    obtain ⟨hs, hr⟩ := rowOf_some h
    have := run_loadAt_mid w b o 33 C.toList _ hr Tryz.underlying33 rfl (by rw [Array.length_toList, hs]; kernel_rfl)
    simpa using this
section
variable {w : World} {b : Nat} {e : Hdr}
set_option maxRecDepth 100000 in
theorem HAt.set0 (h : HAt w b e) (z : Int) : HAt (w.setCell ⟨b, 0, none⟩ (.int .i64 z)) b { e with s := z } ∧ Turn (fun i => i = b) w (w.setCell ⟨b, 0, none⟩ (.int .i64 z)) := by
  refine ⟨?_, (Turn.refl _ _).setCell _ _ (fun _ => rfl)⟩
  unfold HAt
  rw [heap_setCell_same w b 0 _ _ _ h]; rfl
set_option maxRecDepth 100000 in
theorem HAt.set1 (h : HAt w b e) (z : Int) : HAt (w.setCell ⟨b, 1, none⟩ (.int .i64 z)) b { e with t := z } ∧ Turn (fun i => i = b) w (w.setCell ⟨b, 1, none⟩ (.int .i64 z)) := by
  refine ⟨?_, (Turn.refl _ _).setCell _ _ (fun _ => rfl)⟩
  unfold HAt
  rw [heap_setCell_same w b 1 _ _ _ h]; rfl
set_option maxRecDepth 100000 in
theorem HAt.set2 (h : HAt w b e) (z : Int) : HAt (w.setCell ⟨b, 2, none⟩ (.int .i64 z)) b { e with p := z } ∧ Turn (fun i => i = b) w (w.setCell ⟨b, 2, none⟩ (.int .i64 z)) := by
  refine ⟨?_, (Turn.refl _ _).setCell _ _ (fun _ => rfl)⟩
  unfold HAt
  rw [heap_setCell_same w b 2 _ _ _ h]; rfl
end
theorem Turn.setCells {S : Nat → Prop} {a : World} (g : Nat) (hS : g < a.heap.size → S g) : ∀ (vs : List Value) (o : Nat) (b : World), Turn S a b → Turn S a (b.setCells g o vs)
  | [], _, _, h => h
  | v :: vs, o, b, h => Turn.setCells g hS vs (o + 1) (b.setCell ⟨g, o, none⟩ v) (h.setCell _ _ hS)
set_option maxRecDepth 100000 in
theorem setCells_block (x : Nat) (t : TypeId) (post : List Value) : ∀ (vs mid pre : List Value) (w : World), mid.length = vs.length → w.heap[x]? = some (.cells (pre ++ (mid ++ post)).toArray t (0, 0)) → (w.setCells x pre.length vs).heap[x]? = some (.cells (pre ++ (vs ++ post)).toArray t (0, 0))
  | [], mid, pre, w, hm, h => by
    obtain rfl : mid = [] := List.eq_nil_of_length_eq_zero (by simpa using hm)
    exact h
  | v :: r, mid, pre, w, hm, h => by
    cases mid with
    | nil => simp at hm
    | cons m mid =>
      have h1 := heap_setCell_same w x pre.length _ _ v h
      have e : (pre ++ (m :: mid ++ post)).toArray.setIfInBounds pre.length v = ((pre ++ [v]) ++ (mid ++ post)).toArray := by
        rw [List.setIfInBounds_toArray, List.set_append, if_neg (by omega)]
        simp
      rw [e] at h1
      have h2 := setCells_block x t post r mid (pre ++ [v]) (w.setCell ⟨x, pre.length, none⟩ v) (by simpa using hm) h1
      rw [World.setCells]
      rw [List.length_append, List.length_singleton] at h2
      rw [h2]
      simp
section
variable {w : World} {b : Nat} {e : Hdr}
set_option maxRecDepth 100000 in
theorem HAt.setD (h : HAt w b e) (hd : e.L) (d : List B8) (hd' : d.length = 32) : HAt (w.setCells b 3 (d.map bv)) b { e with d := d } ∧ Turn (fun i => i = b) w (w.setCells b 3 (d.map bv)) := by
  refine ⟨?_, Turn.setCells (S := fun i => i = b) b (fun _ => rfl) _ _ _ (Turn.refl _ _)⟩
  exact setCells_block b _ _ (d.map bv) (e.d.map bv) [.int .i64 e.s, .int .i64 e.t, .int .i64 e.p] w (by simp [hd.1, hd']) h
set_option maxRecDepth 100000 in
theorem HAt.setR (h : HAt w b e) (hd : e.L) (d : List B8) (hd' : d.length = 32) : HAt (w.setCells b 35 (d.map bv)) b { e with r := d } ∧ Turn (fun i => i = b) w (w.setCells b 35 (d.map bv)) := by
  refine ⟨?_, Turn.setCells (S := fun i => i = b) b (fun _ => rfl) _ _ _ (Turn.refl _ _)⟩
  have h' : w.heap[b]? = some (.cells (([Value.int .i64 e.s, .int .i64 e.t, .int .i64 e.p] ++ e.d.map bv) ++ (e.r.map bv ++ [])).toArray 33 (0, 0)) := by
    unfold HAt Hdr.cells at h
    rw [h]; simp
  have := setCells_block b _ _ (d.map bv) (e.r.map bv) ([.int .i64 e.s, .int .i64 e.t, .int .i64 e.p] ++ e.d.map bv) w (by simp [hd.2, hd']) h'
  rw [show ([Value.int .i64 e.s, .int .i64 e.t, .int .i64 e.p] ++ e.d.map bv).length = 35 by simp [hd.1]] at this
  unfold HAt Hdr.cells
  rw [this]; simp
end
def HZ : Hdr := ⟨0, 0, 0, zeros 32, zeros 32⟩
theorem HZ_L : HZ.L := ⟨rfl, rfl⟩
abbrev Z67H : Array Value := #[.int .i64 0, .int .i64 0, .int .i64 0, .int .u8 0, .int .u8 0, .int .u8 0, .int .u8 0, .int .u8 0, .int .u8 0, .int .u8 0, .int .u8 0, .int .u8 0, .int .u8 0, .int .u8 0, .int .u8 0, .int .u8 0, .int .u8 0, .int .u8 0, .int .u8 0, .int .u8 0, .int .u8 0, .int .u8 0, .int .u8 0, .int .u8 0, .int .u8 0, .int .u8 0, .int .u8 0, .int .u8 0, .int .u8 0, .int .u8 0, .int .u8 0, .int .u8 0, .int .u8 0, .int .u8 0, .int .u8 0, .int .u8 0, .int .u8 0, .int .u8 0, .int .u8 0, .int .u8 0, .int .u8 0, .int .u8 0, .int .u8 0, .int .u8 0, .int .u8 0, .int .u8 0, .int .u8 0, .int .u8 0, .int .u8 0, .int .u8 0, .int .u8 0, .int .u8 0, .int .u8 0, .int .u8 0, .int .u8 0, .int .u8 0, .int .u8 0, .int .u8 0, .int .u8 0, .int .u8 0, .int .u8 0, .int .u8 0, .int .u8 0, .int .u8 0, .int .u8 0, .int .u8 0, .int .u8 0]
set_option maxRecDepth 100000 in
theorem HZ_eq : HZ.cells.toArray = Z67H := rfl
set_option maxRecDepth 100000 in
theorem hd_zero (w : World) : (zeroValue 33).run Tryz.prog w = .ok (.agg Z67H) w := by kernel_rfl

end
section
set_option linter.unusedVariables false
set_option linter.unusedSimpArgs false

open Go.RowKit
attribute [local go_sem ↓] loadAt_hd loadAt_id
attribute [local go_sem] run_hdLoad run_idLoad rowOf_drew rowOf_drewN
def okH (e : Hdr) : Prop := 0 ≤ e.s ∧ e.s ≤ 63 ∧ 1 ≤ e.t ∧ e.t ≤ 1099511627776 ∧ 0 ≤ e.p ∧ e.p ≤ 1099511627776
instance (e : Hdr) : Decidable (okH e) := by unfold okH; infer_instance
set_option maxRecDepth 100000 in
set_option maxHeartbeats 4000000 in
theorem hrright_any (e : Hdr) (w : World) (hd : e.L) : Calls Tryz.prog 34 #[.agg e.cells.toArray] w fun r w' => r = .returned (.bool (decide (okH e))) ∧ Turn (fun _ => False) w w' := by
  obtain ⟨C, hC⟩ : ∃ C, C = e.cells.toArray := ⟨_, rfl⟩
  rw [← hC]
  obtain ⟨w2, hw2⟩ : ∃ w2, w2 = w.alloc (.cells C 33) := ⟨_, rfl⟩
  have t2 : Turn (fun _ => False) w w2 := by rw [hw2]; exact (Turn.refl _ _).alloc _
  have e2 : HAt w2 w.heap.size e := by rw [hw2, hC]; exact heap_alloc_new _ _
  obtain ⟨c0, c1, c2⟩ := e2.c
  have T2 := Lib.hid t2
  clear t2 e2 hC hd
  go_enter Tryz.func34, Tryz.ntmps34
  go_upto_region 1 with fail
  change Code.wp _ _ _ _ (w.alloc (.cells C 33))
  rw [← hw2]
  clear hw2
  go_wp2
  all_goals
    go_ret
    refine ⟨?_, T2.out⟩
    clear c0 c1 c2
    first
      | (have hb : decide (okH e) = false := decide_eq_false (by unfold okH; omega)
         rw [hb]; rfl)
      | (have hb : decide (okH e) = decide (e.p ≤ 1099511627776) := by
           rw [decide_eq_decide]; unfold okH; omega
         rw [hb]; rfl)
def formH (e : Hdr) : List B8 := numB e.s.toNat ++ (numB e.t.toNat ++ (numB e.p.toNat ++ (e.d ++ e.r)))
def hE (s t p : Nat) (d r : List B8) : List B8 := numB s ++ (numB t ++ (numB p ++ (d ++ r)))
def hN (s t p : Nat) (d r : List B8) : Hdr := ⟨(s : Int), (t : Int), (p : Int), d, r⟩
theorem hN_of {e : Hdr} (h : okH e) : ∃ s t p : Nat, e = hN s t p e.d e.r ∧ s ≤ 63 ∧ 1 ≤ t ∧ t ≤ 1099511627776 ∧ p ≤ 1099511627776 := by
  unfold okH at h
  refine ⟨e.s.toNat, e.t.toNat, e.p.toNat, ?_, by omega, by omega, by omega, by omega⟩
  cases e
  simp only [hN, Hdr.mk.injEq, and_true]
  simp only at h
  omega
theorem hE_eq (s t p : Nat) (d r : List B8) : hE s t p d r = formH (hN s t p d r) := by
  unfold hE formH hN; simp
set_option maxRecDepth 100000 in
set_option maxHeartbeats 8000000 in
theorem hrput_n (s t p : Nat) (d r : List B8) (w : World) (hd : d.length = 32) (hr : r.length = 32) (hs : s ≤ 63) (ht : t ≤ 1099511627776) (hp : p ≤ 1099511627776) :
    Calls Tryz.prog 21 #[.agg (hN s t p d r).cells.toArray] w fun q w' => ∃ u, q = .returned u ∧ w'.ownsRow w.heap.size 5 1 u (hE s t p d r).length ((hE s t p d r).map bv) ∧ Turn (fun _ => False) w w' := by
  obtain ⟨i0, hi, hz0, hz1, hz2⟩ := info_parts info_u8
  obtain ⟨C, hC⟩ : ∃ C, C = (hN s t p d r).cells.toArray := ⟨_, rfl⟩
  rw [← hC]
  obtain ⟨w0, hw0⟩ : ∃ w0, w0 = w.alloc (.cells C 33) := ⟨_, rfl⟩
  have t0 : Turn (fun _ => False) w w0 := by rw [hw0]; exact (Turn.refl _ _).alloc _
  have e0 : HAt w0 w.heap.size (hN s t p d r) := by rw [hw0, hC]; exact heap_alloc_new _ _
  have CF := Lib.hid (show ∀ w' : World, Turn (fun _ => False) w0 w' → (w'.cell? ⟨w.heap.size, 0, none⟩ = some (.int .i64 (s : Int)) ∧ w'.cell? ⟨w.heap.size, 1, none⟩ = some (.int .i64 (t : Int)) ∧ w'.cell? ⟨w.heap.size, 2, none⟩ = some (.int .i64 (p : Int))) ∧ rowOf w' w.heap.size 3 32 = some (d.map bv).toArray ∧ rowOf w' w.heap.size 35 32 = some (r.map bv).toArray from fun w' t => have g := e0.turn t (fun h => h); ⟨g.c, g.dig ⟨hd, hr⟩, g.rot ⟨hd, hr⟩⟩)
  have n1 := numB_le (n := s) (by omega)
  have n2 := numB_le (n := t) (by omega)
  have n3 := numB_le (n := p) (by omega)
  have NS := Lib.hid (fun w => rnum_any s w (by omega))
  have NT := Lib.hid (fun w => rnum_any t w (by omega))
  have NP := Lib.hid (fun w => rnum_any p w (by omega))
  have ND := Lib.hid (fun w => rbytesId_any d w hd)
  have NR := Lib.hid (fun w => rbytesId_any r w hr)
  have HD := Lib.hid hd
  have HR := Lib.hid hr
  have HF := Lib.hid (show hE s t p d r = numB s ++ (numB t ++ (numB p ++ (d ++ r))) from rfl)
  have hbs : w.heap.size < w0.heap.size := e0.lt
  generalize hE s t p d r = F at *
  obtain ⟨D, hDD⟩ : ∃ D, D = (d.map bv).toArray := ⟨_, rfl⟩
  obtain ⟨R, hRR⟩ : ∃ R, R = (r.map bv).toArray := ⟨_, rfl⟩
  rw [← hDD, ← hRR] at CF
  rw [← hDD] at ND
  rw [← hRR] at NR
  have T0 := Lib.hid t0
  have HWS := Lib.hid (fun (w' : World) (k : Stp w0.drew w') => show Turn (fun _ => False) w0 w' from Turn.of_below (stp_start k (Below.refl _ _)))
  clear t0 e0 hC hd hr hDD hRR
  go_enter Tryz.func21, Tryz.ntmps21
  go_upto_region 1 with fail
  change Code.wp _ _ _ _ (w.alloc (.cells C 33))
  rw [← hw0]
  clear hw0
  refine wp_region_rel_tail 8 29 (by kernel_rfl) (by kernel_rfl) Stp [.one ?_, .one ?_, .one ?_, .rel (fun v w => w.ownsRow w0.heap.size 5 1 v (numB s).length ((numB s).map bv)), .one ?_, .one ?_, .one ?_, .rel (fun v w => w.ownsRow w0.heap.size 5 1 v (numB t).length ((numB t).map bv))] (by kernel_rfl) rfl (by kernel_rfl) Stp.refl Stp.trans ⟨fun v w w' h1 h2 => own_below h1 h2, fun v w w' h1 h2 => own_below h1 h2, trivial⟩ ?main
  case main =>
  simp only [List.take_succ_cons, List.take_zero, List.drop_succ_cons, List.drop_zero]
  iterate 1
    refine wpR_one (A' := ?_) Stp.refl (by rfl) _ rfl 29 (by rfl) (by rfl) ?_ ?_ ?_
    rotate_left 1
    · simp only [Act.put, List.setIfInBounds_toArray, List.set_cons_zero, List.set_cons_succ]; rfl
    · intro w1 hs hf K hK
      go_big_quiet_op
      first
        | go_big_quiet_on
        | (refine ⟨_, fun _ _ => rfl, ?_⟩; go_big_quiet_on)
      rfl
  refine wpR_one (A' := ?_) Stp.refl (by rfl) _ rfl 29 (by rfl) (by rfl) ?_ ?_ ?_
  rotate_left 1
  · simp only [Act.put, List.setIfInBounds_toArray, List.set_cons_zero, List.set_cons_succ]; rfl
  · intro w1 hs hf K hK
    refine cls_load_cell 3 (.tmp 4) rfl ⟨w.heap.size, 0, none⟩ rfl (.int .i64 (s : Int)) (fun w h => by simp [go_sem, h]) (fun w2 h2 => (CF.out w2 (HWS.out w2 (Stp.trans _ _ _ hs h2))).1.1) ?_
    refine hK _ ?_
    simp only [Act.put, List.setIfInBounds_toArray, List.set_cons_zero, List.set_cons_succ]
    rfl
  iterate 1
    refine wpR_one (A' := ?_) Stp.refl (by rfl) _ rfl 29 (by rfl) (by rfl) ?_ ?_ ?_
    rotate_left 1
    · simp only [Act.put, List.setIfInBounds_toArray, List.set_cons_zero, List.set_cons_succ]; rfl
    · intro w1 hs hf K hK
      go_big_quiet_op
      first
        | go_big_quiet_on
        | (refine ⟨_, fun _ _ => rfl, ?_⟩; go_big_quiet_on)
      rfl
  refine wpR_rel (A' := ?_) (by rfl) ?_ ?_ ?_
  · intro w1 hs hf
    have hz : w0.heap.size ≤ w1.heap.size := Below.size (w := w0.drew) hs
    refine does_call (w' := w1) (f := 52) (args := #[.int .u64 (s : Int)]) (by kernel_rfl) ((NS.out w1).mono ?_)
    rintro e w3 ⟨v, rfl, ho, h3⟩
    exact ⟨v, rfl, own_more ho hz, turn_stp' h3⟩
  rotate_left 1
  · intro x
    simp only [Act.put, List.setIfInBounds_toArray, List.set_cons_zero, List.set_cons_succ]; rfl
  intro x7
  iterate 1
    refine wpR_one (A' := ?_) Stp.refl (by rfl) _ rfl 29 (by rfl) (by rfl) ?_ ?_ ?_
    rotate_left 1
    · simp only [Act.put, List.setIfInBounds_toArray, List.set_cons_zero, List.set_cons_succ]; rfl
    · intro w1 hs hf K hK
      go_big_quiet_op
      first
        | go_big_quiet_on
        | (refine ⟨_, fun _ _ => rfl, ?_⟩; go_big_quiet_on)
      rfl
  refine wpR_one (A' := ?_) Stp.refl (by rfl) _ rfl 29 (by rfl) (by rfl) ?_ ?_ ?_
  rotate_left 1
  · simp only [Act.put, List.setIfInBounds_toArray, List.set_cons_zero, List.set_cons_succ]; rfl
  · intro w1 hs hf K hK
    refine cls_load_cell 3 (.tmp 8) rfl ⟨w.heap.size, 1, none⟩ rfl (.int .i64 (t : Int)) (fun w h => by simp [go_sem, h]) (fun w2 h2 => (CF.out w2 (HWS.out w2 (Stp.trans _ _ _ hs h2))).1.2.1) ?_
    refine hK _ ?_
    simp only [Act.put, List.setIfInBounds_toArray, List.set_cons_zero, List.set_cons_succ]
    rfl
  iterate 1
    refine wpR_one (A' := ?_) Stp.refl (by rfl) _ rfl 29 (by rfl) (by rfl) ?_ ?_ ?_
    rotate_left 1
    · simp only [Act.put, List.setIfInBounds_toArray, List.set_cons_zero, List.set_cons_succ]; rfl
    · intro w1 hs hf K hK
      go_big_quiet_op
      first
        | go_big_quiet_on
        | (refine ⟨_, fun _ _ => rfl, ?_⟩; go_big_quiet_on)
      rfl
  refine wpR_rel (A' := ?_) (by rfl) ?_ ?_ ?_
  · intro w1 hs hf
    have hz : w0.heap.size ≤ w1.heap.size := Below.size (w := w0.drew) hs
    refine does_call (w' := w1) (f := 52) (args := #[.int .u64 (t : Int)]) (by kernel_rfl) ((NT.out w1).mono ?_)
    rintro e w3 ⟨v, rfl, ho, h3⟩
    exact ⟨v, rfl, own_more ho hz, turn_stp' h3⟩
  rotate_left 1
  · intro x
    simp only [Act.put, List.setIfInBounds_toArray, List.set_cons_zero, List.set_cons_succ]; rfl
  intro x11
  intro w1 hs1 hf
  obtain ⟨h11, h7, -⟩ := hf
  obtain ⟨A11, c11, rfl, sl11, -, hc11, ha11⟩ := own_sl h11
  have HT1 := Lib.hid (HWS.out w1 hs1)
  have O7 := Lib.hid h7
  have S11 := Lib.hid sl11
  have AN11 := Lib.hid ha11
  clear h7 h11 sl11 hc11 ha11 hs1
  refine wpList_append_any_at (o := ⟨some 12, _, _, _, _, _⟩) rfl _ _ 22 rfl w0.heap.size 5 i0 (.int .u8 0) 1 Tryz.underlying22 hi hz0 hz1 hz2 rfl _ _ _ rfl O7.out A11 _ c11 ((numB t).map bv) rfl AN11.out (by rw [List.length_map]) (fun j u hu => (S11.out j u hu).elim fun ad h => ⟨ad, h.1, h.2.2⟩) (bv_one _) (by unfold maxLen; (try simp only [List.length_append]); have := HD.out; have := HR.out; omega) (by (try simp only [List.length_append]); have := HD.out; have := HR.out; omega) (HT1.out.size) ?_
  intro v2 w2 g1 g2 g3
  have HO2 := Lib.hid (show w2.ownsRow w0.heap.size 5 1 v2 (numB s ++ numB t).length ((numB s ++ numB t).map bv) by rw [List.length_append, List.map_append]; exact g1)
  have HT2 := Lib.hid (HT1.out.grown g2 (fun i hi e => by have := (O7.out.lt i e.symm).1; omega))
  clear g1 g2 g3
  obtain ⟨⟨c0, c1, c2⟩, cd, ce⟩ := CF.out w2 HT2.out
  go_wp2_with fail
  refine (NP.out _).mono ?_
  rintro q w3 ⟨u3, rfl, om, tm⟩
  obtain ⟨A3, cc3, rfl, sl3, -, hc3, ha3⟩ := own_sl om
  have O3 := Lib.hid (tm.own HO2.out (fun _ _ h => h))
  have S3 := Lib.hid sl3
  have AN3 := Lib.hid ha3
  have HT3 := Lib.hid (HT2.out.trans tm (fun _ _ h => h))
  clear om tm sl3 hc3 ha3 c0 c1 c2 cd ce HO2 HT2
  go_wp2_with (at_builtin; refine stop ?_)
  unfold Stop
  refine wpList_append_any_at (o := ⟨some 18, _, _, _, _, _⟩) rfl _ _ 22 rfl w0.heap.size 5 i0 (.int .u8 0) 1 Tryz.underlying22 hi hz0 hz1 hz2 rfl _ _ _ rfl O3.out A3 _ cc3 ((numB p).map bv) rfl AN3.out (by rw [List.length_map]) (fun j u hu => (S3.out j u hu).elim fun ad h => ⟨ad, h.1, h.2.2⟩) (bv_one _) (by unfold maxLen; (try simp only [List.length_append]); have := HD.out; have := HR.out; omega) (by (try simp only [List.length_append]); have := HD.out; have := HR.out; omega) (HT3.out.size) ?_
  intro v4 w4 g1 g2 g3
  have HO4 := Lib.hid (show w4.ownsRow w0.heap.size 5 1 v4 ((numB s ++ numB t) ++ numB p).length (((numB s ++ numB t) ++ numB p).map bv) by rw [List.length_append, List.map_append]; exact g1)
  have HT4 := Lib.hid (HT3.out.grown g2 (fun i hi e => by have := (O3.out.lt i e.symm).1; omega))
  clear g1 g2 g3
  obtain ⟨⟨c0, c1, c2⟩, cd, ce⟩ := CF.out w4 HT4.out
  go_wp2_with fail
  refine (ND.out _).mono ?_
  rintro q w5 ⟨u5, rfl, om, tm⟩
  have tm := Turn.of_below tm
  obtain ⟨A5, cc5, rfl, sl5, -, hc5, ha5⟩ := own_sl om
  have O5 := Lib.hid (tm.own HO4.out (fun _ _ h => h))
  have S5 := Lib.hid sl5
  have AN5 := Lib.hid ha5
  have HT5 := Lib.hid (HT4.out.trans tm (fun _ _ h => h))
  clear om tm sl5 hc5 ha5 c0 c1 c2 cd ce HO4 HT4
  go_wp2_with (at_builtin; refine stop ?_)
  unfold Stop
  refine wpList_append_any_at (o := ⟨some 23, _, _, _, _, _⟩) rfl _ _ 22 rfl w0.heap.size 5 i0 (.int .u8 0) 1 Tryz.underlying22 hi hz0 hz1 hz2 rfl _ _ _ rfl O5.out A5 _ cc5 ((d).map bv) rfl AN5.out (by rw [List.length_map, HD.out]) (fun j u hu => (S5.out j u hu).elim fun ad h => ⟨ad, h.1, h.2.2⟩) (bv_one _) (by unfold maxLen; (try simp only [List.length_append]); have := HD.out; have := HR.out; omega) (by (try simp only [List.length_append]); have := HD.out; have := HR.out; omega) (HT5.out.size) ?_
  intro v6 w6 g1 g2 g3
  have HO6 := Lib.hid (show w6.ownsRow w0.heap.size 5 1 v6 (((numB s ++ numB t) ++ numB p) ++ d).length ((((numB s ++ numB t) ++ numB p) ++ d).map bv) by rw [List.length_append, List.map_append, HD.out]; exact g1)
  have HT6 := Lib.hid (HT5.out.grown g2 (fun i hi e => by have := (O5.out.lt i e.symm).1; omega))
  clear g1 g2 g3
  obtain ⟨⟨c0, c1, c2⟩, cd, ce⟩ := CF.out w6 HT6.out
  go_wp2_with fail
  refine (NR.out _).mono ?_
  rintro q w7 ⟨u7, rfl, om, tm⟩
  have tm := Turn.of_below tm
  obtain ⟨A7, cc7, rfl, sl7, -, hc7, ha7⟩ := own_sl om
  have O7 := Lib.hid (tm.own HO6.out (fun _ _ h => h))
  have S7 := Lib.hid sl7
  have AN7 := Lib.hid ha7
  have HT7 := Lib.hid (HT6.out.trans tm (fun _ _ h => h))
  clear om tm sl7 hc7 ha7 c0 c1 c2 cd ce HO6 HT6
  go_wp2_with (at_builtin; refine stop ?_)
  unfold Stop
  refine wpList_append_any_at (o := ⟨some 28, _, _, _, _, _⟩) rfl _ _ 22 rfl w0.heap.size 5 i0 (.int .u8 0) 1 Tryz.underlying22 hi hz0 hz1 hz2 rfl _ _ _ rfl O7.out A7 _ cc7 ((r).map bv) rfl AN7.out (by rw [List.length_map, HR.out]) (fun j u hu => (S7.out j u hu).elim fun ad h => ⟨ad, h.1, h.2.2⟩) (bv_one _) (by unfold maxLen; (try simp only [List.length_append]); have := HD.out; have := HR.out; omega) (by (try simp only [List.length_append]); have := HD.out; have := HR.out; omega) (HT7.out.size) ?_
  intro v8 w8 g1 g2 g3
  have HO8 := Lib.hid (show w8.ownsRow w0.heap.size 5 1 v8 ((((numB s ++ numB t) ++ numB p) ++ d) ++ r).length (((((numB s ++ numB t) ++ numB p) ++ d) ++ r).map bv) by rw [List.length_append, List.map_append, HR.out]; exact g1)
  have HT8 := Lib.hid (HT7.out.grown g2 (fun i hi e => by have := (O7.out.lt i e.symm).1; omega))
  clear g1 g2 g3
  go_wp2
  go_ret
  refine ⟨_, rfl, ?_, T0.out.trans HT8.out (fun _ _ h => h)⟩
  rw [HF.out]
  have h := own_more HO8.out (base' := w.heap.size) (by omega)
  simp only [List.append_assoc] at h ⊢
  exact h
theorem formH_le (e : Hdr) (hd : e.L) (h : okH e) : (formH e).length ≤ 91 := by
  unfold okH at h
  unfold formH
  have n1 := numB_le (n := e.s.toNat) (by omega)
  have n2 := numB_le (n := e.t.toNat) (by omega)
  have n3 := numB_le (n := e.p.toNat) (by omega)
  simp only [List.length_append]
  have := hd.1
  have := hd.2
  omega
set_option maxRecDepth 100000 in
theorem hrput_any (e : Hdr) (w : World) (hd : e.L) (h : okH e) :
    Calls Tryz.prog 21 #[.agg e.cells.toArray] w fun r w' => ∃ u, r = .returned u ∧ w'.ownsRow w.heap.size 5 1 u (formH e).length ((formH e).map bv) ∧ Turn (fun _ => False) w w' := by
  obtain ⟨s, t, p, he, h1, h2, h3, h4⟩ := hN_of h
  have := hrput_n s t p e.d e.r w hd.1 hd.2 h1 h3 h4
  rw [hE_eq, ← he] at this
  exact this

end
section
set_option linter.unusedVariables false
set_option linter.unusedSimpArgs false

open Go.RowKit
attribute [local go_sem ↓] loadAt_hd loadAt_id
attribute [local go_sem] run_hdLoad run_idLoad rowOf_drew rowOf_drewN
/-- A header's digest; zeros of one that isn't right. -/
def hid (e : Hdr) : List B8 := if okH e then dig (11 :: longP (formH e)) else zeros 32
theorem hid_len (e : Hdr) : (hid e).length = 32 := by
  unfold hid
  split
  · exact dig_len _
  · rfl
theorem of_turn {w w' : World} (h : Below w.heap.size w w') : Turn (fun _ => False) w w' := Turn.of_below h
set_option maxRecDepth 100000 in
set_option maxHeartbeats 4000000 in
theorem hrid_any (e : Hdr) (w : World) (hd : e.L) :
    Calls Tryz.prog 54 #[.agg e.cells.toArray] w fun r w' => r = .returned (.agg ((hid e).map bv).toArray) ∧ Turn (fun _ => False) w w' := by
  obtain ⟨i0, hi, hz0, hz1, hz2⟩ := info_parts info_u8
  have TR := Lib.hid (fun w => hrright_any e w hd)
  have TP := Lib.hid (fun w h => hrput_any e w hd h)
  have FL := Lib.hid (fun h => formH_le e hd h)
  have HI := Lib.hid (show hid e = if okH e then dig (11 :: longP (formH e)) else zeros 32 from rfl)
  have HIL := Lib.hid (hid_len e)
  obtain ⟨C, hC⟩ : ∃ C, C = e.cells.toArray := ⟨_, rfl⟩
  rw [← hC] at TR TP ⊢
  obtain ⟨w1, hw1⟩ : ∃ w1, w1 = (w.alloc (.cells C 33)).alloc (.cells ZIdT 24) := ⟨_, rfl⟩
  have t1 : Turn (fun _ => False) w w1 := by rw [hw1]; exact ((Turn.refl _ _).alloc _).alloc _
  have e1 : HAt w1 w.heap.size e := by rw [hw1, hC]; exact heap_alloc2_old _ _ _
  have z1 : w1.heap[w.heap.size + 1]? = some (.cells ZIdT 24 (0, 0)) := by rw [hw1]; exact heap_alloc2_new _ _ _
  have s1 : w1.heap.size = w.heap.size + 2 := by rw [hw1]; simp
  have RF := Lib.hid (show ∀ w' : World, Turn (fun _ => False) w1 w' → rowOf w' w.heap.size 0 67 = some C from fun w' t => by rw [hC]; exact (e1.turn t (fun h => h)).row hd)
  obtain ⟨D, hD⟩ : ∃ D, D = ((hid e).map bv).toArray := ⟨_, rfl⟩
  have sD : D.size = 32 := by rw [hD]; simp [hid_len]
  have K1 := Lib.hid (show (Tryz.prog.info? 24).map (·.size) = some D.size by rw [sD]; kernel_rfl)
  have K2 := Lib.hid (show ZIdT.size = D.size by rw [sD]; rfl)
  have K3 := Lib.hid (show D.all (·.oneCell') = true by rw [hD]; exact all_oneCell_toArray (bv_one _))
  have HD := Lib.hid hD
  rw [← hD]
  have T1 := Lib.hid t1
  have Z1 := Lib.hid z1
  have S1 := Lib.hid s1
  clear t1 e1 z1 s1 hC sD hd hD
  have r1 := RF.out w1 (Turn.refl _ _)
  by_cases hok : okH e
  · rw [decide_eq_true hok] at TR
    obtain ⟨F, hF⟩ : ∃ F, F = formH e := ⟨_, rfl⟩
    have fl := FL.out hok
    have TP := Lib.hid (fun w => TP.out w hok)
    have hx := HI.out
    rw [if_pos hok] at hx
    rw [← hF] at TP fl hx
    have hdg : D = ((dig (11 :: longP F)).map bv).toArray := by rw [HD.out, hx]
    obtain ⟨fn, hfn⟩ : ∃ fn, fn = F.length := ⟨_, rfl⟩
    have O := Lib.hid (fun (g cap : Nat) (w : World) (h : Bts w (some ⟨g, 0, none⟩) (11 :: longP F)) (hc : 1 + (4 + F.length) ≤ cap) => of_any (some ⟨g, 0, none⟩) cap (11 :: longP F) w h (fun h => by cases h) (by rw [List.length_cons, longP_len]; omega) (by rw [List.length_cons, longP_len]; omega))
    have e1 : (11 :: longP F).length = 1 + (4 + F.length) := by rw [List.length_cons, longP_len]; omega
    rw [e1, ← hdg] at O
    have L := Lib.hid (fun (A : Option Addr) (c : Nat) (w : World) (hB : Bts w A F) (hA : A = none → c = 0) => long_any A c F w hB hA (by omega))
    have FN := Lib.hid fl
    rw [← hfn] at TP O L
    have HFN := Lib.hid hfn
    clear hok hF hx hdg e1 hfn FL HI
    go_enter Tryz.func54, Tryz.ntmps54
    go_upto_region 1 with fail
    change Code.wp _ _ _ _ ((w.alloc (.cells C 33)).alloc (.cells ZIdT 24))
    rw [← hw1]
    clear hw1
    go_wp2_with (go_at_call 34; refine stop ?_)
    unfold Stop
    refine (TR.out w1).mono ?_
    rintro r w2 ⟨rfl, t2⟩
    have T2 := Lib.hid t2
    clear t2 r1
    obtain ⟨w3, hw3⟩ : ∃ w3, w3 = w2.alloc (.cells #[bv 11] 5) := ⟨_, rfl⟩
    have T3 := Lib.hid (show Turn (fun _ => False) w1 w3 by rw [hw3]; exact T2.out.alloc _)
    have HO3 := Lib.hid (show w3.ownsRow w2.heap.size 5 1 (.slice (some ⟨w2.heap.size, 0, none⟩) 1 1) 1 [bv 11] by
      rw [hw3]; exact own_new w2 w2.heap.size 5 [bv 11] 1 rfl (Nat.le_refl _) (by unfold maxLen; omega))
    have r3 := RF.out w3 T3.out
    have HB2 := Lib.hid T2.out.size
    change w3 = w2.alloc (.cells #[.int .u8 11] 5) at hw3
    have r2 := RF.out w2 T2.out
    have r3' : rowOf (w2.alloc (.cells #[.int .u8 11] 5)) w.heap.size 0 67 = some C := by rw [← hw3]; exact r3
    go_wp2_with (go_at_call 21; refine stop ?_)
    unfold Stop
    rw [← hw3]
    have HW3 := Lib.hid (show w2.heap.size ≤ w3.heap.size by rw [hw3]; simp)
    clear hw3 r3 r3' r2
    generalize Value.slice (some ⟨w2.heap.size, 0, none⟩) 1 1 = v7 at *
    generalize w2.heap.size = B at *
    refine (TP.out w3).mono ?_
    rintro r w4 ⟨u4, rfl, o4, t4⟩
    obtain ⟨A4, c4, rfl, s4, -, hc4, ha4⟩ := own_sl o4
    have HO4 := Lib.hid (t4.own HO3.out (fun _ _ h => h))
    have T4 := Lib.hid (T3.out.trans t4 (fun _ _ h => h))
    have HW4 := Lib.hid (Nat.le_trans HW3.out t4.size)
    have BT := Lib.hid (show Bts w4 A4 F from Bts.of_sl s4)
    have HA4 := Lib.hid ha4
    clear o4 s4 hc4 ha4 t4 HO3
    go_wp2_with (go_at_call 62; refine stop ?_)
    unfold Stop
    refine (L.out A4 c4 w4 BT.out HA4.out).mono ?_
    rintro r w5 ⟨v5, rfl, o5, b5⟩
    obtain ⟨g5, cap5, rfl, hg1, hg2⟩ := o5.form (by omega)
    have HO5 := Lib.hid (own_below HO4.out b5)
    have T5 := Lib.hid (T4.out.trans (of_turn b5) (fun _ _ h => h))
    have HW5 := Lib.hid (Nat.le_trans HW4.out b5.size)
    have H5 := Lib.hid (own_bts o5)
    clear o5 b5 HO4 BT
    go_wp2_with (at_builtin; refine stop ?_)
    unfold Stop
    refine wpList_append_any (o := ⟨some 11, _, _, _, _, _⟩) rfl _ _ 22 rfl B 5 i0 (.int .u8 0) 1 Tryz.underlying22 hi hz0 hz1 hz2 rfl _ 1 _ rfl HO5.out (some ⟨g5, 0, none⟩) (4 + fn) cap5 ((longB F).map bv) rfl (fun h => by cases h) (by rw [List.length_map, long_len, HFN.out]) H5.out (bv_one _) ?_ ?_ ?_ ?_
    · have := FN.out; have := HFN.out; unfold maxLen; omega
    · have := FN.out; have := HFN.out; omega
    · exact HW5.out
    intro v6 w6 g1 g2
    obtain ⟨g', cap', rfl, hg3, hg4⟩ := World.ownsRow.form g1 (by omega)
    have HX := Lib.hid (show Bts w6 (some ⟨g', 0, none⟩) (11 :: longP F) from own_bts (l := 11 :: longP F) (by rw [← HFN.out] at *; exact g1))
    have T6 := Lib.hid (T5.out.grown g2 (fun i hi e => by have := (HO5.out.lt i e.symm).1; have := HB2.out; omega))
    have hcap := own_cap g1
    clear g1 g2 H5 HO5
    go_wp2_with (go_at_call 64; refine stop ?_)
    unfold Stop
    refine (O.out g' cap' w6 HX.out hcap).mono ?_
    rintro r w7 ⟨rfl, b7⟩
    have T7 := Lib.hid (T6.out.trans (of_turn b7) (fun _ _ h => h))
    have Z7 := Lib.hid (T7.out.heap Z1.out (fun h => h))
    clear b7
    go_wp2_with (refine wpList_store_row rfl _ _ _ rfl (w.heap.size + 1) D rfl rfl _ ZIdT Z7.out K1.out K2.out K3.out ?_)
    have h3 := setRow_heap w7 (w.heap.size + 1) ZIdT D 24 (0, 0) Z7.out
    refine bodyPost_ret (v := .agg D) ?_ rfl ⟨rfl, (T1.out.trans T7.out (fun _ _ h => h)).trans ((Turn.refl (fun i => i = w.heap.size + 1) _).setRow _ _ (fun _ => rfl)) (fun i hi h => by have h' : i = w.heap.size + 1 := h; omega)⟩
    exact results_cell_row Tryz.results54 _ _ (w.heap.size + 1) _ D (0, 0) _ rfl h3 Tryz.underlying24 rfl K1.out
  · rw [decide_eq_false hok] at TR
    have hx := HI.out
    rw [if_neg hok] at hx
    have HDZ := Lib.hid (show D = ZIdT by rw [HD.out, hx]; rfl)
    clear hok hx FL HI TP
    go_enter Tryz.func54, Tryz.ntmps54
    go_upto_region 1 with fail
    change Code.wp _ _ _ _ ((w.alloc (.cells C 33)).alloc (.cells ZIdT 24))
    rw [← hw1]
    clear hw1
    go_wp2_with (go_at_call 34; refine stop ?_)
    unfold Stop
    refine (TR.out w1).mono ?_
    rintro r w7 ⟨rfl, t7⟩
    have T7 := Lib.hid t7
    have Z7 := Lib.hid (t7.heap Z1.out (fun h => h))
    clear t7 r1
    go_wp2_with (refine wpList_store_row rfl _ _ _ rfl (w.heap.size + 1) D rfl (by rw [HDZ.out]; rfl) _ ZIdT Z7.out K1.out K2.out K3.out ?_)
    have h3 := setRow_heap w7 (w.heap.size + 1) ZIdT D 24 (0, 0) Z7.out
    refine bodyPost_ret (v := .agg D) ?_ rfl ⟨rfl, (T1.out.trans T7.out (fun _ _ h => h)).trans ((Turn.refl (fun i => i = w.heap.size + 1) _).setRow _ _ (fun _ => rfl)) (fun i hi h => by have h' : i = w.heap.size + 1 := h; omega)⟩
    exact results_cell_row Tryz.results54 _ _ (w.heap.size + 1) _ D (0, 0) _ rfl h3 Tryz.underlying24 rfl K1.out

end
section
set_option linter.unusedVariables false
set_option linter.unusedSimpArgs false

open Go.RowKit
attribute [local go_sem ↓] loadAt_en loadAt_id
attribute [local go_sem] run_enLoad run_idLoad rowOf_drew rowOf_drewN
set_option maxRecDepth 100000 in
theorem rput_e (e : Ent) (w : World) (hd : e.d.length = 32) (h : okB e) :
    Calls Tryz.prog 37 #[.agg e.cells.toArray] w fun r w' => ∃ u, r = .returned u ∧ w'.ownsRow w.heap.size 5 1 u (formE e).length ((formE e).map bv) ∧ Turn (fun _ => False) w w' := by
  obtain ⟨k, s, y, p, he, h1, h2, h3, h4, h5, h6⟩ := eN_of h
  have := rput_any k s e.d e.a y p w hd h2 h3 h4 h5 h6
  rw [fE_eq, ← he] at this
  exact this
theorem lstn_three {w : World} (A B C : Option Addr) (a b c : List B8) (x y z : Nat) (hA : Bts w A a) (hB : Bts w B b) (hC : Bts w C c) (ha : a.length ≤ x) (hb : b.length ≤ y) (hc : c.length ≤ z) (na : A = none → x = 0) (nb : B = none → y = 0) (nc : C = none → z = 0) (t : TypeId) :
    LstN (w.alloc (.cells #[.slice A a.length x, .slice B b.length y, .slice C c.length z] t)) (some ⟨w.heap.size, 0, none⟩) [a, b, c] := by
  intro i xs hi
  have hbl : Below w.heap.size w (w.alloc (.cells #[.slice A a.length x, .slice B b.length y, .slice C c.length z] t)) := (Below.refl _ _).alloc (Nat.le_refl _) _
  have hg := heap_alloc_new w (.cells #[.slice A a.length x, .slice B b.length y, .slice C c.length z] t)
  match i, hi with
  | 0, hi =>
    obtain rfl : a = xs := by simpa using hi
    exact ⟨_, A, x, rfl, by rw [show (⟨w.heap.size, 0, none⟩ : Addr).add 0 = ⟨w.heap.size, 0, none⟩ from rfl, cell_of_row _ _ _ _ _ _ hg]; rfl, ha, na, hA.below hbl⟩
  | 1, hi =>
    obtain rfl : b = xs := by simpa using hi
    exact ⟨_, B, y, rfl, by rw [show (⟨w.heap.size, 0, none⟩ : Addr).add 1 = ⟨w.heap.size, 1, none⟩ from rfl, cell_of_row _ _ _ _ _ _ hg]; rfl, hb, nb, hB.below hbl⟩
  | 2, hi =>
    obtain rfl : c = xs := by simpa using hi
    exact ⟨_, C, z, rfl, by rw [show (⟨w.heap.size, 0, none⟩ : Addr).add 2 = ⟨w.heap.size, 2, none⟩ from rfl, cell_of_row _ _ _ _ _ _ hg]; rfl, hc, nc, hC.below hbl⟩
  | n + 3, hi => simp at hi
/-- May there be leaves of this entry and this number? -/
def okL (e : Ent) (n : Nat) : Prop := okB e ∧ n ≤ 4611686018427387904
instance (e : Ent) (n : Nat) : Decidable (okL e n) := by unfold okL; infer_instance
set_option maxRecDepth 100000 in
set_option maxHeartbeats 4000000 in
theorem rleaves_any (A : Option Addr) (c : Nat) (b : List B8) (e : Ent) (n : Nat) (w : World) (hB : Bts w A b) (hA : A = none → c = 0) (hc : b.length ≤ c) (hd : e.d.length = 32) (hn : n < 18446744073709551616) :
    Calls Tryz.prog 17 #[.slice A b.length c, .agg e.cells.toArray, .int .u64 (n : Int)] w fun r w' => Turn (fun _ => False) w w' ∧ (if okL e n then ∃ g, r = .returned (.slice (some ⟨g, 0, none⟩) 3 3) ∧ w.heap.size ≤ g ∧ LstN w' (some ⟨g, 0, none⟩) [b, formE e, numB n] else r = .returned (.slice none 0 0)) := by
  have TR := Lib.hid (fun w => rright_any e w hd)
  have TP := Lib.hid (fun w h => rput_e e w hd h)
  have TN := Lib.hid (fun w => rnum_any n w hn)
  obtain ⟨C, hC⟩ : ∃ C, C = e.cells.toArray := ⟨_, rfl⟩
  rw [← hC] at TR TP ⊢
  obtain ⟨w1, hw1⟩ : ∃ w1, w1 = w.alloc (.cells C 27) := ⟨_, rfl⟩
  have t1 : Turn (fun _ => False) w w1 := by rw [hw1]; exact (Turn.refl _ _).alloc _
  have e1 : EAt w1 w.heap.size e := by rw [hw1, hC]; exact heap_alloc_new _ _
  have RF := Lib.hid (show ∀ w' : World, Turn (fun _ => False) w1 w' → rowOf w' w.heap.size 0 37 = some C from fun w' t => by rw [hC]; exact (e1.turn t (fun h => h)).row hd)
  have T1 := Lib.hid t1
  have HBT := Lib.hid (show Bts w1 A b from fun j u hu => by
    obtain ⟨ad, h1, h2⟩ := hB j u hu
    exact ⟨ad, h1, t1.cell h2 (fun h => h)⟩)
  have HAC := Lib.hid (And.intro hA hc)
  clear t1 e1 hC hd hB hA hc
  have r1 := RF.out w1 (Turn.refl _ _)
  obtain ⟨bl, hbl⟩ : ∃ bl, bl = b.length := ⟨_, rfl⟩
  rw [← hbl]
  have HBL := Lib.hid hbl
  by_cases hok : okB e
  · rw [decide_eq_true hok] at TR
    have TP := Lib.hid (fun w => TP.out w hok)
    by_cases hbig : 4611686018427387904 < n
    · have q1 : decide ((4611686018427387904 : Int) < (n : Int)) = true := by rw [decide_eq_true_eq]; omega
      have HI := Lib.hid (show ¬ okL e n from fun h => by have := h.2; omega)
      clear hok hbig TP hbl
      go_enter Tryz.func17, Tryz.ntmps17
      go_upto_region 1 with fail
      change Code.wp _ _ _ _ (w.alloc (.cells C 27))
      rw [← hw1]
      clear hw1
      go_wp2_with (go_at_call 33; refine stop ?_)
      unfold Stop
      refine (TR.out w1).mono ?_
      rintro r w2 ⟨rfl, t2⟩
      have T2 := Lib.hid t2
      clear t2 r1
      go_wp2
      go_ret
      exact ⟨T1.out.trans T2.out (fun _ _ h => h), rfl⟩
    · have q1 : decide ((4611686018427387904 : Int) < (n : Int)) = false := by rw [decide_eq_false_iff_not]; omega
      have HI := Lib.hid (show okL e n from ⟨hok, by omega⟩)
      obtain ⟨F, hF⟩ : ∃ F, F = formE e := ⟨_, rfl⟩
      obtain ⟨G, hG⟩ : ∃ G, G = numB n := ⟨_, rfl⟩
      rw [← hF] at TP
      rw [← hG] at TN
      have HF := Lib.hid hF
      have HG := Lib.hid hG
      clear hok hbig hF hG hbl
      go_enter Tryz.func17, Tryz.ntmps17
      go_upto_region 1 with fail
      change Code.wp _ _ _ _ (w.alloc (.cells C 27))
      rw [← hw1]
      clear hw1
      go_wp2_with (go_at_call 33; refine stop ?_)
      unfold Stop
      refine (TR.out w1).mono ?_
      rintro r w2 ⟨rfl, t2⟩
      have T2 := Lib.hid t2
      clear t2 r1
      have r2 := RF.out w2 T2.out
      go_wp2_with (go_at_call 37; refine stop ?_)
      unfold Stop
      refine (TP.out w2).mono ?_
      rintro r w3 ⟨u3, rfl, o3, t3⟩
      obtain ⟨A3, c3, rfl, s3, -, hc3, ha3⟩ := own_sl o3
      have T3 := Lib.hid (T2.out.trans t3 (fun _ _ h => h))
      have S3 := Lib.hid (And.intro s3 (And.intro ha3 hc3))
      clear o3 s3 hc3 ha3 t3 r2
      go_wp2_with (go_at_call 52; refine stop ?_)
      unfold Stop
      refine (TN.out w3).mono ?_
      rintro r w4 ⟨u4, rfl, o4, t4⟩
      obtain ⟨A4, c4, rfl, s4, -, hc4, ha4⟩ := own_sl o4
      have T4 := Lib.hid (T3.out.trans t4 (fun _ _ h => h))
      have S4 := Lib.hid (And.intro s4 (And.intro ha4 hc4))
      have S34 := Lib.hid (t4.sl S3.out.1 (fun _ _ h => h))
      clear o4 s4 hc4 ha4 t4
      go_wp2_with fail
      go_ret
      have hb4 : Bts w4 A b := fun j u hu => by
        obtain ⟨ad, h1, h2⟩ := HBT.out j u hu
        exact ⟨ad, h1, T4.out.cell h2 (fun h => h)⟩
      have hl := lstn_three A A3 A4 b F G c c3 c4 hb4 (Bts.of_sl S34.out) (Bts.of_sl S4.out.1) HAC.out.2 S3.out.2.2 S4.out.2.2 HAC.out.1 S3.out.2.1 S4.out.2.1 22
      refine ⟨(T1.out.trans T4.out (fun _ _ h => h)).alloc _, _, rfl, (T1.out.trans T4.out (fun _ _ h => h)).size, ?_⟩
      rw [← HF.out, ← HG.out, HBL.out]
      exact hl
  · rw [decide_eq_false hok] at TR
    have HI := Lib.hid (show ¬ okL e n from fun h => hok h.1)
    clear hok TP hbl
    go_enter Tryz.func17, Tryz.ntmps17
    go_upto_region 1 with fail
    change Code.wp _ _ _ _ (w.alloc (.cells C 27))
    rw [← hw1]
    clear hw1
    go_wp2_with (go_at_call 33; refine stop ?_)
    unfold Stop
    refine (TR.out w1).mono ?_
    rintro r w2 ⟨rfl, t2⟩
    have T2 := Lib.hid t2
    clear t2 r1
    go_wp2
    go_ret
    exact ⟨T1.out.trans T2.out (fun _ _ h => h), rfl⟩

end
section
set_option linter.unusedVariables false
set_option linter.unusedSimpArgs false

open Go.RowKit
attribute [local go_sem ↓] loadAt_hd loadAt_id
attribute [local go_sem] run_hdLoad run_idLoad rowOf_drew rowOf_drewN
set_option maxRecDepth 100000 in
theorem built_hd32 (x0 x1 x2 x3 x4 x5 x6 x7 x8 x9 x10 x11 x12 x13 x14 x15 x16 x17 x18 x19 x20 x21 x22 x23 x24 x25 x26 x27 x28 x29 x30 x31 : Value) (s t p : Int) : Tryz.prog.built 33 [(0, .int .i64 s), (1, .int .i64 t), (2, .int .i64 p), (4, .agg #[x0, x1, x2, x3, x4, x5, x6, x7, x8, x9, x10, x11, x12, x13, x14, x15, x16, x17, x18, x19, x20, x21, x22, x23, x24, x25, x26, x27, x28, x29, x30, x31])] = some #[.int .i64 s, .int .i64 t, .int .i64 p, Value.int .u8 0, Value.int .u8 0, Value.int .u8 0, Value.int .u8 0, Value.int .u8 0, Value.int .u8 0, Value.int .u8 0, Value.int .u8 0, Value.int .u8 0, Value.int .u8 0, Value.int .u8 0, Value.int .u8 0, Value.int .u8 0, Value.int .u8 0, Value.int .u8 0, Value.int .u8 0, Value.int .u8 0, Value.int .u8 0, Value.int .u8 0, Value.int .u8 0, Value.int .u8 0, Value.int .u8 0, Value.int .u8 0, Value.int .u8 0, Value.int .u8 0, Value.int .u8 0, Value.int .u8 0, Value.int .u8 0, Value.int .u8 0, Value.int .u8 0, Value.int .u8 0, Value.int .u8 0, x0, x1, x2, x3, x4, x5, x6, x7, x8, x9, x10, x11, x12, x13, x14, x15, x16, x17, x18, x19, x20, x21, x22, x23, x24, x25, x26, x27, x28, x29, x30, x31] := by kernel_rfl
set_option maxRecDepth 100000 in
theorem built_hd (l : List Value) (s t p : Int) (h : l.length = 32) : Tryz.prog.built 33 [(0, .int .i64 s), (1, .int .i64 t), (2, .int .i64 p), (4, .agg l.toArray)] = some ([Value.int .i64 s, .int .i64 t, .int .i64 p] ++ ((zeros 32).map bv ++ l)).toArray := by
  match l, h with
  | [x0, x1, x2, x3, x4, x5, x6, x7, x8, x9, x10, x11, x12, x13, x14, x15, x16, x17, x18, x19, x20, x21, x22, x23, x24, x25, x26, x27, x28, x29, x30, x31], _ => exact built_hd32 x0 x1 x2 x3 x4 x5 x6 x7 x8 x9 x10 x11 x12 x13 x14 x15 x16 x17 x18 x19 x20 x21 x22 x23 x24 x25 x26 x27 x28 x29 x30 x31 s t p
set_option maxRecDepth 100000 in
theorem results_hd {fn : Func} {p u : Tmp} (h : fn.results = #[.cell p 33, .tmp u]) (tmps : Array Value) (w : World) (g : Nat) (cs : Array Value) (v : Value)
    (hp : tmps.getD p undef = .pointer (some ⟨g, 0, none⟩)) (hv : tmps.getD u undef = v) (hg : w.heap[g]? = some (.cells cs 33 (0, 0))) (hc : cs.size = 67) :
    (results fn tmps).run Tryz.prog w = .ok (.tuple #[.agg cs, v]) w := by
  rw [results_cell_tmp h, hp, hv]
  simp [asAddr, run_loadVar_row w g 33 33 cs (0, 0) _ hg Tryz.underlying33 rfl (by rw [hc]; kernel_rfl), Result.andThen]
/-- The header behind another one, or the first. -/
def nxB (prev : Hdr) (first : Bool) (root : List B8) (shard epoch : Int) : Hdr := if first = true then ⟨shard, 1, epoch, zeros 32, root⟩ else ⟨prev.s, prev.t + 1, epoch, hid prev, root⟩
/-- May there be one, of so many leaves? -/
def okN (prev : Hdr) (first : Bool) (n : Nat) (root : List B8) (shard epoch : Int) : Prop := n = 3 ∧ (first = true ∨ (okH prev ∧ prev.p ≤ epoch)) ∧ okH (nxB prev first root shard epoch)
instance (prev : Hdr) (first : Bool) (n : Nat) (root : List B8) (shard epoch : Int) : Decidable (okN prev first n root shard epoch) := by unfold okN; infer_instance
def nxV (prev : Hdr) (first : Bool) (n : Nat) (root : List B8) (shard epoch : Int) : Hdr := if okN prev first n root shard epoch then nxB prev first root shard epoch else HZ
theorem nxB_L (prev : Hdr) (first : Bool) (root : List B8) (shard epoch : Int) (hr : root.length = 32) : (nxB prev first root shard epoch).L := by
  unfold nxB
  split
  · exact ⟨rfl, hr⟩
  · exact ⟨hid_len _, hr⟩
/-- What 'Next' comes to. -/
def NPost (prev : Hdr) (first : Bool) (n : Nat) (root : List B8) (shard epoch : Int) (w : World) (r : Ending) (w' : World) : Prop :=
  r = .returned (.tuple #[.agg (nxV prev first n root shard epoch).cells.toArray, .bool (decide (okN prev first n root shard epoch))]) ∧ Turn (fun _ => False) w w'
theorem n_no {prev : Hdr} {first : Bool} {n : Nat} {root : List B8} {shard epoch : Int} {w w' : World} (h : ¬ okN prev first n root shard epoch) (t : Turn (fun _ => False) w w') : NPost prev first n root shard epoch w (.returned (.tuple #[.agg Z67H, .bool false])) w' := by
  unfold NPost nxV
  rw [if_neg h, decide_eq_false h, HZ_eq]
  exact ⟨rfl, t⟩
theorem n_yes {prev : Hdr} {first : Bool} {n : Nat} {root : List B8} {shard epoch : Int} {w w' : World} {C : Array Value} (h : okN prev first n root shard epoch) (hC : C = (nxB prev first root shard epoch).cells.toArray) (t : Turn (fun _ => False) w w') : NPost prev first n root shard epoch w (.returned (.tuple #[.agg C, .bool true])) w' := by
  unfold NPost nxV
  rw [if_pos h, decide_eq_true h, hC]
  exact ⟨rfl, t⟩
set_option maxRecDepth 100000 in
set_option maxHeartbeats 8000000 in
theorem rnext_any (prev : Hdr) (first : Bool) (A : Option Addr) (c n : Nat) (ls : List (List B8)) (hn : n = ls.length) (shard epoch : Int) (w : World) (hp : prev.L) (hL : LstN w A ls) (hc : n ≤ c) (hA : A = none → c = 0) (hs : ∀ xs ∈ ls, xs.length ≤ 1000000) :
    Calls Tryz.prog 18 #[.agg prev.cells.toArray, .bool first, .slice A n c, .int .i64 shard, .int .i64 epoch] w (NPost prev first n (rootD ls) shard epoch w) := by
  have TR := Lib.hid (fun w => hrright_any prev w hp)
  have TI := Lib.hid (fun w => hrid_any prev w hp)
  obtain ⟨C, hC⟩ : ∃ C, C = prev.cells.toArray := ⟨_, rfl⟩
  rw [← hC] at TR TI ⊢
  have hzd := hd_zero
  obtain ⟨w1, hw1⟩ : ∃ w1, w1 = (w.alloc (.cells C 33)).alloc (.cells Z67H 33) := ⟨_, rfl⟩
  have t1 : Turn (fun _ => False) w w1 := by rw [hw1]; exact ((Turn.refl _ _).alloc _).alloc _
  have b1 : Below w.heap.size w w1 := by rw [hw1]; exact ((Below.refl _ _).alloc (Nat.le_refl _) _).alloc (by simp) _
  have e1 : HAt w1 w.heap.size prev := by rw [hw1, hC]; exact heap_alloc2_old _ _ _
  have z1 : w1.heap[w.heap.size + 1]? = some (.cells Z67H 33 (0, 0)) := by rw [hw1]; exact heap_alloc2_new _ _ _
  have s1 : w1.heap.size = w.heap.size + 2 := by rw [hw1]; simp
  have RF := Lib.hid (show ∀ w' : World, Turn (fun _ => False) w1 w' → rowOf w' w.heap.size 0 67 = some C ∧ (w'.cell? ⟨w.heap.size, 0, none⟩ = some (.int .i64 prev.s) ∧ w'.cell? ⟨w.heap.size, 1, none⟩ = some (.int .i64 prev.t) ∧ w'.cell? ⟨w.heap.size, 2, none⟩ = some (.int .i64 prev.p)) from fun w' t => by rw [hC]; exact ⟨(e1.turn t (fun h => h)).row hp, (e1.turn t (fun h => h)).c⟩)
  have HL1 := Lib.hid (hL.below b1)
  obtain ⟨R, hR⟩ : ∃ R, R = rootD ls := ⟨_, rfl⟩
  have RT := Lib.hid (fun (h : n = 3) (w' : World) (k : Turn (fun _ => False) w1 w') (hz : w1.heap.size ≤ w'.heap.size) => rroot_any ls.length ls (Nat.le_refl _) (by omega) hs A c w' (fun i xs hi => by
    obtain ⟨ad, Ai, ci, q1, q2, q3, q4, q5⟩ := HL1.out i xs hi
    exact ⟨ad, Ai, ci, q1, k.cell q2 (fun h => h), q3, q4, fun j u hu => by obtain ⟨ad', q6, q7⟩ := q5 j u hu; exact ⟨ad', q6, k.cell q7 (fun h => h)⟩⟩) (by omega) hA)
  have hR32 : R.length = 32 := by rw [hR]; exact rootD_len _
  rw [← hR]
  rw [← hR, ← hn] at RT
  have HR32 := Lib.hid hR32
  have NO := Lib.hid (fun (w' : World) (h : ¬ okN prev first n R shard epoch) (t : Turn (fun _ => False) w w') => n_no h t)
  have YES := Lib.hid (fun (w' : World) (C' : Array Value) (h : okN prev first n R shard epoch) (hC' : C' = (nxB prev first R shard epoch).cells.toArray) (t : Turn (fun _ => False) w w') => n_yes h hC' t)
  obtain ⟨CZ, hCZ⟩ : ∃ CZ, CZ = Z67H := ⟨_, rfl⟩
  have sZ : CZ.size = 67 := by rw [hCZ]; rfl
  have K1 := Lib.hid (show (Tryz.prog.info? 33).map (·.size) = some CZ.size by rw [sZ]; exact hd_info)
  have K2 := Lib.hid (show Z67H.size = CZ.size by rw [sZ]; rfl)
  have K3 := Lib.hid (show CZ.all (·.oneCell') = true by rw [hCZ, ← HZ_eq]; exact Hdr.one _)
  have HCZ := Lib.hid hCZ
  have HSZ := Lib.hid sZ
  have T1 := Lib.hid t1
  have Z1 := Lib.hid z1
  have S1 := Lib.hid s1
  have NP := Lib.hid (show ∀ r w', NPost prev first n R shard epoch w r w' → NPost prev first n R shard epoch w r w' from fun _ _ h => h)
  have HID := Lib.hid (hid_len prev)
  have OKN := Lib.hid (show okN prev first n R shard epoch ↔ (n = 3 ∧ (first = true ∨ (okH prev ∧ prev.p ≤ epoch)) ∧ okH (nxB prev first R shard epoch)) from Iff.rfl)
  obtain ⟨NB, hNB⟩ : ∃ NB, NB = nxB prev first R shard epoch := ⟨_, rfl⟩
  have NBL := Lib.hid (show NB.L by rw [hNB]; exact nxB_L _ _ _ _ _ hR32)
  rw [← hNB] at OKN
  simp only [← hNB] at YES
  have TN := Lib.hid (fun w => hrright_any NB w NBL.out)
  have HNB := Lib.hid hNB
  clear hC hp hL hA hs t1 b1 e1 z1 s1 HL1 hCZ sZ hNB hR hn hR32
  by_cases h3 : n = 3
  · have h3i : ((n : Int) != 3) = false := by simp; omega
    have H3 := Lib.hid h3
    clear h3
    cases first
    · by_cases hok : okH prev
      · rw [decide_eq_true hok] at TR
        have hpt : -1 ≤ prev.t ∧ prev.t ≤ 1099511627776 := by unfold okH at hok; omega
        by_cases hle : prev.p ≤ epoch
        · have q1 : decide (epoch < prev.p) = false := by rw [decide_eq_false_iff_not]; omega
          have HFP := Lib.hid (show false = true ∨ (okH prev ∧ prev.p ≤ epoch) from .inr ⟨hok, hle⟩)
          clear hok hle
          have T1' := Lib.hid T1.out
          have TW1 := Lib.hid T1.out
          have T1 := Lib.hid (Turn.refl (fun _ => False) w1)
          go_enter Tryz.func18, Tryz.ntmps18
          go_upto_region 1 with fail
          change Code.wp _ _ _ _ ((w.alloc (.cells C 33)).alloc (.cells Z67H 33))
          rw [← hw1]
          clear hw1
          obtain ⟨r1, c0, c1, c2⟩ := RF.out w1 T1.out
          go_wp2_with (go_at_call 34; refine stop ?_)
          unfold Stop
          refine (TR.out w1).mono ?_
          rintro r w2 ⟨rfl, t⟩
          have T2 := Lib.hid (T1.out.trans t (fun _ _ h => h))
          have TW2 := Lib.hid (T1'.out.trans T2.out (fun _ _ h => h))
          clear t r1 c0 c1 c2
          obtain ⟨r2, c0, c1, c2⟩ := RF.out w2 T2.out
          go_upto_region 3 with fail
          go_wp2_with (go_at_call 53; refine stop ?_)
          unfold Stop
          refine (RT.out H3.out w2 T2.out T2.out.size).mono ?_
          rintro r w20 ⟨rfl, kk⟩
          have T20 := Lib.hid (T2.out.trans (of_turn kk) (fun _ _ h => h))
          clear kk
          obtain ⟨RA, hRA⟩ : ∃ RA, RA = (R.map bv).toArray := ⟨_, rfl⟩
          have HBU := Lib.hid (built_hd (R.map bv) shard 1 epoch (by rw [List.length_map]; exact HR32.out))
          obtain ⟨CB, hCB⟩ : ∃ CB, CB = (Hdr.cells ⟨shard, 1, epoch, zeros 32, R⟩).toArray := ⟨_, rfl⟩
          have HBU' := Lib.hid (show Tryz.prog.built 33 [(0, .int .i64 shard), (1, .int .i64 1), (2, .int .i64 epoch), (4, .agg (R.map bv).toArray)] = some CB by rw [HBU.out, hCB]; rfl)
          have sB : CB.size = 67 := by rw [hCB, List.size_toArray, Hdr.len _ ⟨rfl, HR32.out⟩]
          have B1 := Lib.hid (show (Tryz.prog.info? 33).map (·.size) = some CB.size by rw [sB]; exact hd_info)
          have B2 := Lib.hid (show Z67H.size = CB.size by rw [sB]; rfl)
          have B3 := Lib.hid (show CB.all (·.oneCell') = true by rw [hCB]; exact Hdr.one _)
          have HA := Lib.hid (show (w20.alloc (.cells Z67H 33)).heap[w20.heap.size]? = some (.cells Z67H 33 (0, 0)) from heap_alloc_new _ _)
          have HCB := Lib.hid hCB
          clear HBU hCB hRA RA sB
          go_upto_region 4 with (first
            | (refine wpList_build_eq (o := ⟨some 36, _, _, _, _, _⟩) rfl 33 #[(0, .tmp 32), (1, .const (.int .i64 1)), (2, .tmp 33), (4, .tmp 35)] rfl CB HBU'.out ?_)
            | (refine wpList_store_row rfl _ _ _ rfl w20.heap.size CB rfl rfl 33 Z67H HA.out B1.out B2.out B3.out ?_))
          obtain ⟨w21, hw21⟩ : ∃ w21, w21 = (w20.alloc (.cells Z67H 33)).setRow w20.heap.size CB := ⟨_, rfl⟩
          have T21 := Lib.hid (show Turn (fun _ => False) w1 w21 by rw [hw21]; exact T20.out.trans (((Turn.refl (fun _ => False) w20).alloc _).setRow _ _ (fun h => by omega)) (fun _ _ h => h))
          have H21 := Lib.hid (show HAt w21 w20.heap.size ⟨shard, 1, epoch, zeros 32, R⟩ by rw [hw21]; unfold HAt; rw [setRow_heap _ _ _ _ _ _ HA.out, HCB.out])
          have HQ := Lib.hid (show w1.heap.size ≤ w20.heap.size from T20.out.size)
          change Code.wp _ _ _ _ ((w20.alloc (.cells Z67H 33)).setRow w20.heap.size CB)
          rw [← hw21]
          clear hw21 HA HBU' B1 B2 B3 HCB
          generalize w20.heap.size = Q at *
          clear T20
          obtain ⟨r21, c0, c1, c2⟩ := RF.out w21 T21.out
          obtain ⟨d0, d1, d2⟩ := H21.out.c
          have f0 := H21.out.f 0
          go_upto_region 6 with fail
          obtain ⟨h22, t22⟩ := H21.out.set0 prev.s
          obtain ⟨w22, hw22⟩ : ∃ w22, w22 = w21.setCell ⟨Q, 0, none⟩ (.int .i64 prev.s) := ⟨_, rfl⟩
          change Code.wp _ _ _ _ (w21.setCell ⟨Q, 0, none⟩ (.int .i64 prev.s))
          rw [← hw22] at h22 t22 ⊢
          have T22 := Lib.hid (T21.out.trans t22 (fun i hi h => by have h' : i = Q := h; have := HQ.out; omega))
          have H22 := Lib.hid h22
          clear hw22 h22 t22 r21 c0 c1 c2 d0 d1 d2 f0
          obtain ⟨r21, c0, c1, c2⟩ := RF.out w22 T22.out
          obtain ⟨d0, d1, d2⟩ := H22.out.c
          have f1 := H22.out.f 1
          go_upto_region 7 with fail
          obtain ⟨h23, t23⟩ := H22.out.set1 (prev.t + 1)
          obtain ⟨w23, hw23⟩ : ∃ w23, w23 = w22.setCell ⟨Q, 1, none⟩ (.int .i64 (prev.t + 1)) := ⟨_, rfl⟩
          change Code.wp _ _ _ _ (w22.setCell ⟨Q, 1, none⟩ (.int .i64 (prev.t + 1)))
          rw [← hw23] at h23 t23 ⊢
          have T23 := Lib.hid (T22.out.trans t23 (fun i hi h => by have h' : i = Q := h; have := HQ.out; omega))
          have H23 := Lib.hid h23
          clear hw23 h23 t23 r21 c0 c1 c2 d0 d1 d2 f1 H22 T22
          obtain ⟨r21, c0, c1, c2⟩ := RF.out w23 T23.out
          go_wp2_with (go_at_call 54; refine stop ?_)
          unfold Stop
          refine (TI.out w23).mono ?_
          rintro r w24 ⟨rfl, t24⟩
          have T24 := Lib.hid (T23.out.trans t24 (fun _ _ h => h))
          have H24 := Lib.hid (H23.out.turn t24 (fun h => h))
          obtain ⟨DA, hDA⟩ : ∃ DA, DA = ((hid prev).map bv).toArray := ⟨_, rfl⟩
          rw [← hDA]
          have sD : DA.size = 32 := by rw [hDA]; simpa using HID.out
          have D1 := Lib.hid (show (Tryz.prog.info? 24).map (·.size) = some DA.size by rw [sD]; kernel_rfl)
          have D3 := Lib.hid (show DA.all (·.oneCell') = true by rw [hDA]; exact all_oneCell_toArray (bv_one _))
          have TH := Lib.hid (show w24.there Q 3 DA.size by
            rw [sD]
            exact fun j hj => by
              have hg : w24.heap[Q]? = some (.cells (Hdr.cells ⟨prev.s, prev.t + 1, epoch, zeros 32, R⟩).toArray 33 (0, 0)) := H24.out
              refine ⟨?_, frozen_of_row w24 Q (3 + j) _ _ hg⟩
              rw [cell_of_row w24 Q (3 + j) _ _ _ hg, List.getElem?_toArray]
              exact Option.isSome_iff_exists.2 ⟨_, List.getElem?_eq_getElem (by rw [Hdr.len _ ⟨rfl, HR32.out⟩]; omega)⟩)
          have HDA := Lib.hid hDA
          clear t24 hDA sD r21 c0 c1 c2 T23 H23
          go_upto_region 8 with (refine wpList_store_mid rfl _ _ _ rfl Q 3 DA rfl rfl TH.out D1.out D3.out ?_)
          obtain ⟨h25, t25⟩ := H24.out.setD ⟨rfl, HR32.out⟩ (hid prev) HID.out
          rw [show (hid prev).map bv = DA.toList by rw [HDA.out]] at h25 t25
          obtain ⟨w25, hw25⟩ : ∃ w25, w25 = w24.setCells Q 3 DA.toList := ⟨_, rfl⟩
          change Code.wp _ _ _ _ (w24.setCells Q 3 DA.toList)
          rw [← hw25] at h25 t25 ⊢
          have T25 := Lib.hid (T24.out.trans t25 (fun i hi h => by have h' : i = Q := h; have := HQ.out; omega))
          have H25 := Lib.hid (show HAt w25 Q NB by rw [HNB.out]; exact h25)
          clear hw25 h25 t25 TH D1 D3 HDA T24 H24
          obtain ⟨CN, hCN⟩ : ∃ CN, CN = NB.cells.toArray := ⟨_, rfl⟩
          have hrow := H25.out.row NBL.out
          rw [← hCN] at hrow
          have TN := TN
          rw [← hCN] at TN
          have sN : CN.size = 67 := by rw [hCN, List.size_toArray, Hdr.len _ NBL.out]
          have N1 := Lib.hid (show (Tryz.prog.info? 33).map (·.size) = some CN.size by rw [sN]; exact hd_info)
          have N2 := Lib.hid (show Z67H.size = CN.size by rw [sN]; rfl)
          have N3 := Lib.hid (show CN.all (·.oneCell') = true by rw [hCN]; exact Hdr.one _)
          have HSN := Lib.hid sN
          have HCN := Lib.hid hCN
          have H25' := Lib.hid (show w25.heap[Q]? = some (.cells CN 33 (0, 0)) by rw [hCN]; exact H25.out)
          clear hCN sN
          by_cases hok : okH NB
          · rw [decide_eq_true hok] at TN
            have HYES := Lib.hid (OKN.out.2 ⟨H3.out, HFP.out, hok⟩)
            clear hok
            go_wp2_with (go_at_call 34; refine stop ?_)
            unfold Stop
            refine (TN.out w25).mono ?_
            rintro r w26 ⟨rfl, t26⟩
            have T26 := Lib.hid (T25.out.trans t26 (fun _ _ h => h))
            have Z9 := Lib.hid (T26.out.heap Z1.out (fun h => h))
            clear hrow
            have hrow : rowOf w26 Q 0 67 = some CN := by
              have e : CN = CN.toList.toArray := by simp
              have g := t26.heap H25'.out (fun h => h)
              rw [e] at g ⊢
              have := rowOf_block g 0 67 (by have := HSN.out; simp; omega)
              rw [List.drop_zero, List.take_of_length_le (by have := HSN.out; simp; omega)] at this
              exact this
            clear t26
            go_wp2_with (refine wpList_store_row rfl _ _ _ rfl (w.heap.size + 1) CN rfl rfl 33 Z67H Z9.out N1.out N2.out N3.out ?_)
            have h4 := setRow_heap w26 (w.heap.size + 1) Z67H CN 33 (0, 0) Z9.out
            refine bodyPost_ret (v := .tuple #[.agg CN, .bool true]) ?_ rfl (YES.out _ _ HYES.out HCN.out ((T1'.out.trans T26.out (fun _ _ h => h)).trans ((Turn.refl (fun i => i = w.heap.size + 1) _).setRow _ _ (fun _ => rfl)) (fun i hi h => by have h' : i = w.heap.size + 1 := h; omega)))
            exact results_hd Tryz.results18 _ _ (w.heap.size + 1) _ _ rfl rfl h4 HSN.out
          · rw [decide_eq_false hok] at TN
            have HNO := Lib.hid (fun h => hok (OKN.out.1 h).2.2)
            clear hok
            go_wp2_with (go_at_call 34; refine stop ?_)
            unfold Stop
            refine (TN.out w25).mono ?_
            rintro r w26 ⟨rfl, t26⟩
            have T26 := Lib.hid (T25.out.trans t26 (fun _ _ h => h))
            have TW26 := Lib.hid (T1'.out.trans T26.out (fun _ _ h => h))
            clear hrow t26
            have Z9 := Lib.hid (T26.out.heap Z1.out (fun h => h))
            go_wp2_with (refine wpList_store_row rfl _ _ _ rfl (w.heap.size + 1) CZ rfl (by rw [HCZ.out]; rfl) 33 Z67H Z9.out K1.out K2.out K3.out ?_)
            have h3 := setRow_heap w26 (w.heap.size + 1) Z67H CZ 33 (0, 0) Z9.out
            refine bodyPost_ret (v := .tuple #[.agg CZ, .bool false]) ?_ rfl (by rw [HCZ.out]; exact NO.out _ HNO.out ((TW26.out).trans ((Turn.refl (fun i => i = w.heap.size + 1) _).setRow _ _ (fun _ => rfl)) (fun i hi h => by have h' : i = w.heap.size + 1 := h; omega)))
            exact results_hd Tryz.results18 _ _ (w.heap.size + 1) _ _ rfl rfl h3 HSZ.out
        · have q1 : decide (epoch < prev.p) = true := by rw [decide_eq_true_eq]; omega
          have HNO := Lib.hid (show ¬ okN prev false n R shard epoch from fun h => by
            rcases (OKN.out.1 h).2.1 with h | h
            · cases h
            · exact hle h.2)
          clear hok hle
          have T1' := Lib.hid T1.out
          have TW1 := Lib.hid T1.out
          have T1 := Lib.hid (Turn.refl (fun _ => False) w1)
          go_enter Tryz.func18, Tryz.ntmps18
          go_upto_region 1 with fail
          change Code.wp _ _ _ _ ((w.alloc (.cells C 33)).alloc (.cells Z67H 33))
          rw [← hw1]
          clear hw1
          obtain ⟨r1, c0, c1, c2⟩ := RF.out w1 T1.out
          go_wp2_with (go_at_call 34; refine stop ?_)
          unfold Stop
          refine (TR.out w1).mono ?_
          rintro r w2 ⟨rfl, t⟩
          have T2 := Lib.hid (T1.out.trans t (fun _ _ h => h))
          have TW2 := Lib.hid (T1'.out.trans T2.out (fun _ _ h => h))
          clear t r1 c0 c1 c2
          obtain ⟨r2, c0, c1, c2⟩ := RF.out w2 T2.out
          have Z9 := Lib.hid (T2.out.heap Z1.out (fun h => h))
          go_wp2_with (refine wpList_store_row rfl _ _ _ rfl (w.heap.size + 1) CZ rfl (by rw [HCZ.out]; rfl) 33 Z67H Z9.out K1.out K2.out K3.out ?_)
          have h3 := setRow_heap w2 (w.heap.size + 1) Z67H CZ 33 (0, 0) Z9.out
          refine bodyPost_ret (v := .tuple #[.agg CZ, .bool false]) ?_ rfl (by rw [HCZ.out]; exact NO.out _ HNO.out ((TW2.out).trans ((Turn.refl (fun i => i = w.heap.size + 1) _).setRow _ _ (fun _ => rfl)) (fun i hi h => by have h' : i = w.heap.size + 1 := h; omega)))
          exact results_hd Tryz.results18 _ _ (w.heap.size + 1) _ _ rfl rfl h3 HSZ.out
      · rw [decide_eq_false hok] at TR
        have HNO := Lib.hid (show ¬ okN prev false n R shard epoch from fun h => by
          rcases (OKN.out.1 h).2.1 with h | h
          · cases h
          · exact hok h.1)
        clear hok
        have T1' := Lib.hid T1.out
        have TW1 := Lib.hid T1.out
        have T1 := Lib.hid (Turn.refl (fun _ => False) w1)
        go_enter Tryz.func18, Tryz.ntmps18
        go_upto_region 1 with fail
        change Code.wp _ _ _ _ ((w.alloc (.cells C 33)).alloc (.cells Z67H 33))
        rw [← hw1]
        clear hw1
        obtain ⟨r1, c0, c1, c2⟩ := RF.out w1 T1.out
        go_wp2_with (go_at_call 34; refine stop ?_)
        unfold Stop
        refine (TR.out w1).mono ?_
        rintro r w2 ⟨rfl, t⟩
        have T2 := Lib.hid (T1.out.trans t (fun _ _ h => h))
        have TW2 := Lib.hid (T1'.out.trans T2.out (fun _ _ h => h))
        clear t r1 c0 c1 c2
        obtain ⟨r2, c0, c1, c2⟩ := RF.out w2 T2.out
        have Z9 := Lib.hid (T2.out.heap Z1.out (fun h => h))
        go_wp2_with (refine wpList_store_row rfl _ _ _ rfl (w.heap.size + 1) CZ rfl (by rw [HCZ.out]; rfl) 33 Z67H Z9.out K1.out K2.out K3.out ?_)
        have h3 := setRow_heap w2 (w.heap.size + 1) Z67H CZ 33 (0, 0) Z9.out
        refine bodyPost_ret (v := .tuple #[.agg CZ, .bool false]) ?_ rfl (by rw [HCZ.out]; exact NO.out _ HNO.out ((TW2.out).trans ((Turn.refl (fun i => i = w.heap.size + 1) _).setRow _ _ (fun _ => rfl)) (fun i hi h => by have h' : i = w.heap.size + 1 := h; omega)))
        exact results_hd Tryz.results18 _ _ (w.heap.size + 1) _ _ rfl rfl h3 HSZ.out
    · have HFP := Lib.hid (show true = true ∨ (okH prev ∧ prev.p ≤ epoch) from .inl rfl)
      have T1' := Lib.hid T1.out
      have TW1 := Lib.hid T1.out
      have T1 := Lib.hid (Turn.refl (fun _ => False) w1)
      go_enter Tryz.func18, Tryz.ntmps18
      go_upto_region 1 with fail
      change Code.wp _ _ _ _ ((w.alloc (.cells C 33)).alloc (.cells Z67H 33))
      rw [← hw1]
      clear hw1
      go_upto_region 3 with fail
      go_wp2_with (go_at_call 53; refine stop ?_)
      unfold Stop
      refine (RT.out H3.out w1 T1.out T1.out.size).mono ?_
      rintro r w20 ⟨rfl, kk⟩
      have T20 := Lib.hid (T1.out.trans (of_turn kk) (fun _ _ h => h))
      clear kk
      obtain ⟨RA, hRA⟩ : ∃ RA, RA = (R.map bv).toArray := ⟨_, rfl⟩
      have HBU := Lib.hid (built_hd (R.map bv) shard 1 epoch (by rw [List.length_map]; exact HR32.out))
      obtain ⟨CB, hCB⟩ : ∃ CB, CB = (Hdr.cells ⟨shard, 1, epoch, zeros 32, R⟩).toArray := ⟨_, rfl⟩
      have HBU' := Lib.hid (show Tryz.prog.built 33 [(0, .int .i64 shard), (1, .int .i64 1), (2, .int .i64 epoch), (4, .agg (R.map bv).toArray)] = some CB by rw [HBU.out, hCB]; rfl)
      have sB : CB.size = 67 := by rw [hCB, List.size_toArray, Hdr.len _ ⟨rfl, HR32.out⟩]
      have B1 := Lib.hid (show (Tryz.prog.info? 33).map (·.size) = some CB.size by rw [sB]; exact hd_info)
      have B2 := Lib.hid (show Z67H.size = CB.size by rw [sB]; rfl)
      have B3 := Lib.hid (show CB.all (·.oneCell') = true by rw [hCB]; exact Hdr.one _)
      have HA := Lib.hid (show (w20.alloc (.cells Z67H 33)).heap[w20.heap.size]? = some (.cells Z67H 33 (0, 0)) from heap_alloc_new _ _)
      have HCB := Lib.hid hCB
      clear HBU hCB hRA RA sB
      go_upto_region 4 with (first
        | (refine wpList_build_eq (o := ⟨some 36, _, _, _, _, _⟩) rfl 33 #[(0, .tmp 32), (1, .const (.int .i64 1)), (2, .tmp 33), (4, .tmp 35)] rfl CB HBU'.out ?_)
        | (refine wpList_store_row rfl _ _ _ rfl w20.heap.size CB rfl rfl 33 Z67H HA.out B1.out B2.out B3.out ?_))
      obtain ⟨w21, hw21⟩ : ∃ w21, w21 = (w20.alloc (.cells Z67H 33)).setRow w20.heap.size CB := ⟨_, rfl⟩
      have T21 := Lib.hid (show Turn (fun _ => False) w1 w21 by rw [hw21]; exact T20.out.trans (((Turn.refl (fun _ => False) w20).alloc _).setRow _ _ (fun h => by omega)) (fun _ _ h => h))
      have H21 := Lib.hid (show HAt w21 w20.heap.size ⟨shard, 1, epoch, zeros 32, R⟩ by rw [hw21]; unfold HAt; rw [setRow_heap _ _ _ _ _ _ HA.out, HCB.out])
      have HQ := Lib.hid (show w1.heap.size ≤ w20.heap.size from T20.out.size)
      change Code.wp _ _ _ _ ((w20.alloc (.cells Z67H 33)).setRow w20.heap.size CB)
      rw [← hw21]
      clear hw21 HA HBU' B1 B2 B3 HCB
      generalize w20.heap.size = Q at *
      clear T20
      obtain ⟨w25, hw25⟩ : ∃ w25, w25 = w21 := ⟨_, rfl⟩
      have T25 := Lib.hid (show Turn (fun _ => False) w1 w25 by rw [hw25]; exact T21.out)
      have H25 := Lib.hid (show HAt w25 Q NB by rw [hw25, HNB.out]; exact H21.out)
      go_upto_region 8 with fail
      rw [← hw25]
      clear hw25
      obtain ⟨CN, hCN⟩ : ∃ CN, CN = NB.cells.toArray := ⟨_, rfl⟩
      have hrow := H25.out.row NBL.out
      rw [← hCN] at hrow
      have TN := TN
      rw [← hCN] at TN
      have sN : CN.size = 67 := by rw [hCN, List.size_toArray, Hdr.len _ NBL.out]
      have N1 := Lib.hid (show (Tryz.prog.info? 33).map (·.size) = some CN.size by rw [sN]; exact hd_info)
      have N2 := Lib.hid (show Z67H.size = CN.size by rw [sN]; rfl)
      have N3 := Lib.hid (show CN.all (·.oneCell') = true by rw [hCN]; exact Hdr.one _)
      have HSN := Lib.hid sN
      have HCN := Lib.hid hCN
      have H25' := Lib.hid (show w25.heap[Q]? = some (.cells CN 33 (0, 0)) by rw [hCN]; exact H25.out)
      clear hCN sN
      by_cases hok : okH NB
      · rw [decide_eq_true hok] at TN
        have HYES := Lib.hid (OKN.out.2 ⟨H3.out, HFP.out, hok⟩)
        clear hok
        go_wp2_with (go_at_call 34; refine stop ?_)
        unfold Stop
        refine (TN.out w25).mono ?_
        rintro r w26 ⟨rfl, t26⟩
        have T26 := Lib.hid (T25.out.trans t26 (fun _ _ h => h))
        have Z9 := Lib.hid (T26.out.heap Z1.out (fun h => h))
        clear hrow
        have hrow : rowOf w26 Q 0 67 = some CN := by
          have e : CN = CN.toList.toArray := by simp
          have g := t26.heap H25'.out (fun h => h)
          rw [e] at g ⊢
          have := rowOf_block g 0 67 (by have := HSN.out; simp; omega)
          rw [List.drop_zero, List.take_of_length_le (by have := HSN.out; simp; omega)] at this
          exact this
        clear t26
        go_wp2_with (refine wpList_store_row rfl _ _ _ rfl (w.heap.size + 1) CN rfl rfl 33 Z67H Z9.out N1.out N2.out N3.out ?_)
        have h4 := setRow_heap w26 (w.heap.size + 1) Z67H CN 33 (0, 0) Z9.out
        refine bodyPost_ret (v := .tuple #[.agg CN, .bool true]) ?_ rfl (YES.out _ _ HYES.out HCN.out ((T1'.out.trans T26.out (fun _ _ h => h)).trans ((Turn.refl (fun i => i = w.heap.size + 1) _).setRow _ _ (fun _ => rfl)) (fun i hi h => by have h' : i = w.heap.size + 1 := h; omega)))
        exact results_hd Tryz.results18 _ _ (w.heap.size + 1) _ _ rfl rfl h4 HSN.out
      · rw [decide_eq_false hok] at TN
        have HNO := Lib.hid (fun h => hok (OKN.out.1 h).2.2)
        clear hok
        go_wp2_with (go_at_call 34; refine stop ?_)
        unfold Stop
        refine (TN.out w25).mono ?_
        rintro r w26 ⟨rfl, t26⟩
        have T26 := Lib.hid (T25.out.trans t26 (fun _ _ h => h))
        have TW26 := Lib.hid (T1'.out.trans T26.out (fun _ _ h => h))
        clear hrow t26
        have Z9 := Lib.hid (T26.out.heap Z1.out (fun h => h))
        go_wp2_with (refine wpList_store_row rfl _ _ _ rfl (w.heap.size + 1) CZ rfl (by rw [HCZ.out]; rfl) 33 Z67H Z9.out K1.out K2.out K3.out ?_)
        have h3 := setRow_heap w26 (w.heap.size + 1) Z67H CZ 33 (0, 0) Z9.out
        refine bodyPost_ret (v := .tuple #[.agg CZ, .bool false]) ?_ rfl (by rw [HCZ.out]; exact NO.out _ HNO.out ((TW26.out).trans ((Turn.refl (fun i => i = w.heap.size + 1) _).setRow _ _ (fun _ => rfl)) (fun i hi h => by have h' : i = w.heap.size + 1 := h; omega)))
        exact results_hd Tryz.results18 _ _ (w.heap.size + 1) _ _ rfl rfl h3 HSZ.out
  · have h3i : ((n : Int) != 3) = true := by simp; omega
    have HNO := Lib.hid (show ¬ okN prev first n R shard epoch from fun h => h3 (OKN.out.1 h).1)
    have T1' := Lib.hid T1.out
    have TW1 := Lib.hid T1.out
    have T1 := Lib.hid (Turn.refl (fun _ => False) w1)
    go_enter Tryz.func18, Tryz.ntmps18
    go_upto_region 1 with fail
    change Code.wp _ _ _ _ ((w.alloc (.cells C 33)).alloc (.cells Z67H 33))
    rw [← hw1]
    clear hw1
    have Z9 := Lib.hid (T1.out.heap Z1.out (fun h => h))
    go_wp2_with (refine wpList_store_row rfl _ _ _ rfl (w.heap.size + 1) CZ rfl (by rw [HCZ.out]; rfl) 33 Z67H Z9.out K1.out K2.out K3.out ?_)
    have h3 := setRow_heap w1 (w.heap.size + 1) Z67H CZ 33 (0, 0) Z9.out
    refine bodyPost_ret (v := .tuple #[.agg CZ, .bool false]) ?_ rfl (by rw [HCZ.out]; exact NO.out _ HNO.out ((TW1.out).trans ((Turn.refl (fun i => i = w.heap.size + 1) _).setRow _ _ (fun _ => rfl)) (fun i hi h => by have h' : i = w.heap.size + 1 := h; omega)))
    exact results_hd Tryz.results18 _ _ (w.heap.size + 1) _ _ rfl rfl h3 HSZ.out

end
section
set_option linter.unusedVariables false
set_option linter.unusedSimpArgs false

open Go.RowKit
set_option maxRecDepth 100000 in
theorem eNum_le {m : Nat} {l : List B8} (h : eNum m l = 0) : numV l ≤ m ∧ numV l < 18446744073709551616 := by
  unfold eNum at h
  split at h
  · omega
  · rename_i h0
    have := numV_lt l (by omega)
    split at h <;> omega
/-- A load of a field's record, behind a name that the walk does not open. -/
def fdLoad (v : Value) : Sem Value := Instr.loadAt 73 v
set_option maxRecDepth 100000 in
theorem loadAt_fd (v : Value) : Instr.loadAt 73 v = fdLoad v := rfl
set_option maxRecDepth 100000 in
theorem run_fdLoad (w : World) (b o : Nat) : (fdLoad (.pointer (some ⟨b, o, none⟩))).run Tryz.prog w = (match rowOf w b o 35 with | some C => .ok (.agg C) w | none => loadRest Tryz.prog 73 b o w) := by
  unfold fdLoad
  cases h : rowOf w b o 35 with
  | none => rfl
  | some C =>
    obtain ⟨hs, hr⟩ := rowOf_some h
    have := run_loadAt_mid w b o 73 C.toList _ hr Tryz.underlying73 rfl (by rw [Array.length_toList, hs]; kernel_rfl)
    simpa using this
theorem f_next {x y : Nat} : (if x ≠ 0 then x else y) = if x = 0 then y else x := by
  by_cases h : x = 0
  · rw [if_neg (by omega), if_pos h]
  · rw [if_pos h, if_neg h]
theorem info_u64 : (Tryz.prog.info? 25).map (fun i => (i.zero, i.size, i.bytes)) = some (some (.int .u64 0), 1, 8) := by kernel_rfl
theorem fd_info : (Tryz.prog.info? 73).map (·.size) = some 35 := by kernel_rfl
theorem id_info : (Tryz.prog.info? 24).map (·.size) = some 32 := by kernel_rfl
theorem row35_at {w : World} {b : Nat} {C : Array Value} {t : TypeId} (h : w.heap[b]? = some (.cells C t (0, 0))) (hC : C.size = 35) : rowOf w b 0 35 = some C := by
  have e : C = C.toList.toArray := by simp
  rw [e] at h ⊢
  have := rowOf_block h 0 35 (by simp; omega)
  rw [List.drop_zero, List.take_of_length_le (by simp; omega)] at this
  exact this
set_option maxRecDepth 100000 in
theorem Gt.atR (g : Gt) (C : Array Value) (hC : C = g.cells.toArray) (hd : g.f.d.length = 32) {w : World} {b : Nat} {t : TypeId} (h : w.heap[b]? = some (.cells C t (0, 0))) : rowOf w b 3 32 = some (g.f.d.map bv).toArray := by
  refine rowOf_eq (by simp [hd]) (fun j v hj => ?_)
  rw [cell_of_row _ _ _ _ _ _ h, hC, List.getElem?_toArray]
  have hlj := (List.getElem?_eq_some_iff.1 hj).1
  show ((g.f.cells) ++ [Value.int .i64 (g.e : Int), .slice g.A g.l.length g.c])[3 + j]? = some v
  unfold Fd.cells
  rw [List.append_assoc, List.getElem?_append_right (by simp), List.getElem?_append_left (by simp at hlj ⊢; omega)]
  simpa using hj
theorem got_info' : (Tryz.prog.info? 75).map (·.size) = some 37 := by kernel_rfl
theorem zero_field' (w : World) : (zeroValue 73).run Tryz.prog w = .ok (.agg Z35) w := zero_field w
theorem zero_got' (w : World) : (zeroValue 75).run Tryz.prog w = .ok (.agg Z37) w := zero_got w
def gM : Nat → Nat | 0 => 63 | 1 => 1099511627776 | 2 => 1099511627776 | _ => 0
def gk (k : Nat) : Fd := ⟨if k < 3 then 0 else 2, gM k, none, 0, [], zeros 32⟩
def gr : Nat → List B8 → List B8 | 0, b => b | k + 1, b => sL (gk k) (gr k b)
def ge (k : Nat) (b : List B8) : Nat := sE (gk k) (gr k b)
def gh (k : Nat) (b : List B8) : Hdr := ⟨if 0 < k then (numV b : Int) else 0, if 1 < k then (numV (gr 1 b) : Int) else 0, if 2 < k then (numV (gr 2 b) : Int) else 0, if 3 < k then (gr 3 b).take 32 else zeros 32, if 4 < k then (gr 4 b).take 32 else zeros 32⟩
theorem gr_le (k : Nat) (b : List B8) : (gr k b).length ≤ b.length := by
  induction k with
  | zero => exact Nat.le_refl _
  | succ k ih => exact Nat.le_trans (sL_le _ _) ih
def m1 (b : List B8) : List B8 := numR b
def m2 (b : List B8) : List B8 := numR (m1 b)
def m3 (b : List B8) : List B8 := numR (m2 b)
def m4 (b : List B8) : List B8 := (m3 b).drop 32
def m5 (b : List B8) : List B8 := (m4 b).drop 32
def h1 (b : List B8) : Nat := eNum 63 b
def h2 (b : List B8) : Nat := if h1 b ≠ 0 then h1 b else eNum 1099511627776 (m1 b)
def h3 (b : List B8) : Nat := if h2 b ≠ 0 then h2 b else eNum 1099511627776 (m2 b)
def h4 (b : List B8) : Nat := if h3 b ≠ 0 then h3 b else if (m3 b).length < 32 then 2 else 0
def h5 (b : List B8) : Nat := if h4 b ≠ 0 then h4 b else if (m4 b).length < 32 then 2 else 0
def bodH (b : List B8) : Hdr := hN (numV b) (numV (m1 b)) (numV (m2 b)) ((m3 b).take 32) ((m4 b).take 32)
def xH (b : List B8) : Nat := if h5 b ≠ 0 then h5 b else if okH (bodH b) then 0 else 3
def hreadE (b : List B8) : Nat := if xH b ≠ 0 then xH b else if m5 b = [] then 0 else 3
def hreadV (b : List B8) : Hdr := if hreadE b ≠ 0 then HZ else bodH b
theorem ge_0 (b : List B8) : ge 0 b = eNum 63 b := rfl
theorem ge_1 (b : List B8) : ge 1 b = eNum 1099511627776 (m1 b) := rfl
theorem ge_2 (b : List B8) : ge 2 b = eNum 1099511627776 (m2 b) := rfl
theorem ge_3 (b : List B8) : ge 3 b = if (m3 b).length < 32 then 2 else 0 := rfl
theorem ge_4 (b : List B8) : ge 4 b = if (m4 b).length < 32 then 2 else 0 := rfl
theorem h_bounds {b : List B8} (h : h5 b = 0) : numV b ≤ 63 ∧ numV (m1 b) ≤ 1099511627776 ∧ numV (m2 b) ≤ 1099511627776 ∧ ((m3 b).take 32).length = 32 ∧ ((m4 b).take 32).length = 32 ∧ h1 b = 0 ∧ h2 b = 0 ∧ h3 b = 0 ∧ h4 b = 0 ∧ eNum 63 b = 0 ∧ eNum 1099511627776 (m1 b) = 0 ∧ eNum 1099511627776 (m2 b) = 0 ∧ 32 ≤ (m3 b).length ∧ 32 ≤ (m4 b).length := by
  have a4 : h4 b = 0 := by
    unfold h5 at h; split at h <;> omega
  have a3 : h3 b = 0 := by
    unfold h4 at a4; split at a4 <;> omega
  have a2 : h2 b = 0 := by
    unfold h3 at a3; split at a3 <;> omega
  have a1 : h1 b = 0 := by
    unfold h2 at a2; split at a2 <;> omega
  have n1 : eNum 63 b = 0 := a1
  have n2 : eNum 1099511627776 (m1 b) = 0 := by unfold h2 at a2; rw [if_neg (by omega)] at a2; exact a2
  have n3 : eNum 1099511627776 (m2 b) = 0 := by unfold h3 at a3; rw [if_neg (by omega)] at a3; exact a3
  have n4 : 32 ≤ (m3 b).length := by
    unfold h4 at a4; rw [if_neg (by omega)] at a4; split at a4 <;> omega
  have n5 : 32 ≤ (m4 b).length := by
    unfold h5 at h; rw [if_neg (by omega)] at h; split at h <;> omega
  have b1 := eNum_le n1
  have b2 := eNum_le n2
  have b3 := eNum_le n3
  exact ⟨b1.1, b2.1, b3.1, by rw [List.length_take]; omega, by rw [List.length_take]; omega, a1, a2, a3, a4, n1, n2, n3, n4, n5⟩
theorem bodH_L {b : List B8} (h : h5 b = 0) : (bodH b).L := ⟨(h_bounds h).2.2.2.1, (h_bounds h).2.2.2.2.1⟩
theorem xH_zero {b : List B8} (h : xH b = 0) : h5 b = 0 ∧ okH (bodH b) := by
  unfold xH at h
  split at h
  · omega
  · split at h
    · rename_i h1 h2; exact ⟨by omega, h2⟩
    · omega
theorem hreadV_L (b : List B8) : (hreadV b).L := by
  unfold hreadV
  split
  · exact HZ_L
  · rename_i h
    have hx : xH b = 0 := by
      unfold hreadE at h
      split at h <;> omega
    exact bodH_L (xH_zero hx).1
/-- The first error is the answer's. -/
theorem h5_first {k : Nat} {b : List B8} (hk : k < 5) (h0 : ∀ j, j < k → ge j b = 0) (h : ge k b ≠ 0) : h5 b = ge k b := by
  have e0 := ge_0 b
  have e1 := ge_1 b
  have e2 := ge_2 b
  have e3 := ge_3 b
  have e4 := ge_4 b
  have a0 : 0 < k → ge 0 b = 0 := fun h => h0 0 h
  have a1 : 1 < k → ge 1 b = 0 := fun h => h0 1 h
  have a2 : 2 < k → ge 2 b = 0 := fun h => h0 2 h
  have a3 : 3 < k → ge 3 b = 0 := fun h => h0 3 h
  unfold h5 h4 h3 h2 h1
  rw [← e0, ← e1, ← e2, ← e3, ← e4]
  simp only [f_next]
  rcases (show k = 0 ∨ k = 1 ∨ k = 2 ∨ k = 3 ∨ k = 4 by omega) with rfl | rfl | rfl | rfl | rfl <;> simp [a0, a1, a2, a3, h]
theorem h5_none {b : List B8} (h0 : ∀ j, j < 5 → ge j b = 0) : h5 b = 0 := by
  unfold h5 h4 h3 h2 h1
  rw [← ge_0, ← ge_1, ← ge_2, ← ge_3, ← ge_4]
  simp [h0 0 (by omega), h0 1 (by omega), h0 2 (by omega), h0 3 (by omega), h0 4 (by omega)]
theorem hreadE_first {k : Nat} {b : List B8} (hk : k < 5) (h0 : ∀ j, j < k → ge j b = 0) (h : ge k b ≠ 0) : hreadE b = ge k b ∧ hreadV b = HZ := by
  have hf := h5_first hk h0 h
  have hx : xH b = ge k b := by unfold xH; rw [if_pos (by rw [hf]; exact h), hf]
  have hr : hreadE b = ge k b := by unfold hreadE; rw [if_pos (by rw [hx]; exact h), hx]
  exact ⟨hr, by unfold hreadV; rw [if_pos (by rw [hr]; exact h)]⟩
/-- Behind all fields: too many bytes, or a height of 0, or a header. -/
theorem hreadE_end {b : List B8} (h0 : ∀ j, j < 5 → ge j b = 0) : (m5 b ≠ [] ∨ numV (m1 b) = 0 → hreadE b = 3 ∧ hreadV b = HZ) ∧ (m5 b = [] → numV (m1 b) ≠ 0 → hreadE b = 0 ∧ hreadV b = bodH b) := by
  have hf := h5_none h0
  have hb := h_bounds hf
  have hok : okH (bodH b) ↔ numV (m1 b) ≠ 0 := by
    unfold okH bodH hN
    simp only
    omega
  constructor
  · intro h
    have hr : hreadE b = 3 := by
      unfold hreadE xH
      rw [hf]
      by_cases h1 : numV (m1 b) = 0
      · have hno : ¬ okH (bodH b) := fun h => (hok.1 h) h1
        simp [hno]
      · have h2 : m5 b ≠ [] := h.elim id (fun h => absurd h h1)
        have hyes : okH (bodH b) := hok.2 h1
        simp [hyes, h2]
    exact ⟨hr, by unfold hreadV; rw [if_pos (by rw [hr]; decide)]⟩
  · intro h1 h2
    have hyes : okH (bodH b) := hok.2 h2
    have hr : hreadE b = 0 := by
      unfold hreadE xH
      rw [hf]
      simp [hyes, h1]
    exact ⟨hr, by unfold hreadV; rw [if_neg (by rw [hr]; decide)]⟩
/-- The result's block holds no header, and whatever is stored there is none. -/
def StH (W : Nat) (w w' : World) : Prop := Turn (fun i => i = W) w w' ∧ (w.heap[W]? = some (.cells Z67H 33 (0, 0)) → w'.heap[W]? = some (.cells Z67H 33 (0, 0)))
theorem StH.refl (W : Nat) (w : World) : StH W w w := ⟨Turn.refl _ _, fun h => h⟩
theorem StH.trans (W : Nat) (a b c : World) (h : StH W a b) (k : StH W b c) : StH W a c := ⟨h.1.trans k.1 (fun _ _ h => h), fun g => k.2 (h.2 g)⟩
set_option maxRecDepth 100000 in
theorem does_store_noneH {o : Oper} {a : Act} {w : World} {W : Nat} (x y : Operand) (ho : o.op = .store 33 x y) (hx : a.eval x = .pointer (some ⟨W, 0, none⟩)) (C : Array Value) (hC : C = Z67H) (hy : a.eval y = .agg C) (hg : w.heap[W]? = some (.cells Z67H 33 (0, 0))) : doesR Tryz.prog o a w (fun _ w' => True ∧ StH W w w') := by
  have hs : Z67H.size = C.size := by rw [hC]
  have hi : (Tryz.prog.info? 33).map (·.size) = some C.size := by rw [hC]; exact hd_info
  have h1 : C.all (·.oneCell') = true := by rw [hC, ← HZ_eq]; exact Hdr.one _
  unfold doesR execOp
  simp only [ho, hx, hy, Instr.storeAt, Instr.sureAddr, Sem.run_bind, Sem.run_pure, Result.andThen_ok, run_storeVar_row w W _ 33 Z67H C hg hi hs h1]
  refine ⟨trivial, (Turn.refl _ _).setRow _ _ (fun _ => rfl), fun _ => ?_⟩
  rw [setRow_heap w W Z67H C _ _ hg, hC]
end
section
set_option linter.unusedVariables false
set_option linter.unusedSimpArgs false

open Go.RowKit
attribute [local go_sem ↓] loadAt_hd loadAt_id loadAt_fd
attribute [local go_sem] run_hdLoad run_idLoad run_fdLoad rowOf_drew rowOf_drewN
abbrev M3H : Array Value := #[.int .u64 63, .int .u64 1099511627776, .int .u64 1099511627776]
theorem gk_kind (k : Nat) : (gk k).k = 0 ∨ (gk k).k = 1 ∨ (gk k).k = 2 := by
  unfold gk
  by_cases h : k < 3
  · rw [if_pos h]; exact .inl rfl
  · rw [if_neg h]; exact .inr (.inr rfl)
theorem gM_lt (k : Nat) : gM k < 18446744073709551616 := by
  match k with
  | 0 => decide
  | 1 => decide
  | 2 => decide
  | n + 3 => show 0 < _; decide
set_option maxRecDepth 100000 in
set_option maxHeartbeats 16000000 in
theorem hrread_any (A : Option Addr) (c : Nat) (b : List B8) (w : World) (hs : Sl w w.heap.size A (b.map bv)) (hA : A = none → c = 0) (hc : b.length ≤ c) (hlen : b.length ≤ 1099511627776) :
    Calls Tryz.prog 32 #[.slice A b.length c] w fun r w' => r = .returned (.tuple #[.agg (hreadV b).cells.toArray, .int .i64 ((hreadE b : Nat) : Int)]) ∧ Turn (fun _ => False) w w' := by
  have hzd := hd_zero
  have hzf := zero_field'
  have hzg := zero_got'
  obtain ⟨CZ, hCZ⟩ : ∃ CZ, CZ = Z67H := ⟨_, rfl⟩
  have sZ : CZ.size = 67 := by rw [hCZ]; rfl
  have K1 := Lib.hid (show (Tryz.prog.info? 33).map (·.size) = some CZ.size by rw [sZ]; exact hd_info)
  have K2 := Lib.hid (show Z67H.size = CZ.size by rw [sZ]; rfl)
  have K3 := Lib.hid (show CZ.all (·.oneCell') = true by rw [hCZ, ← HZ_eq]; exact Hdr.one _)
  have HCZ := Lib.hid hCZ
  have HSZ := Lib.hid sZ
  clear hCZ sZ
  obtain ⟨w3, hw3⟩ : ∃ w3, w3 = ((w.alloc (.cells Z67H 33)).alloc (.cells Z67H 33)).alloc (.cells M3H 25) := ⟨_, rfl⟩
  obtain ⟨n, hn⟩ : ∃ n, n = b.length := ⟨_, rfl⟩
  rw [← hn]
  have HN := Lib.hid hn
  have HS := Lib.hid hs
  have HA := Lib.hid hA
  have HC := Lib.hid hc
  clear hs hA hc hn
  go_enter Tryz.func32, Tryz.ntmps32
  go_wp2
  change Code.wp _ _ _ _ (((w.alloc (.cells Z67H 33)).alloc (.cells Z67H 33)).alloc (.cells M3H 25))
  rw [← hw3]
  have t3 : Turn (fun _ => False) w w3 := by rw [hw3]; exact (((Turn.refl _ _).alloc _).alloc _).alloc _
  have s3 : w3.heap.size = w.heap.size + 3 := by rw [hw3]; simp
  have g0 : w3.heap[w.heap.size]? = some (.cells Z67H 33 (0, 0)) := by rw [hw3, Below.heap_alloc _ _ _ (by simp; omega)]; exact heap_alloc2_old w _ _
  have g1 : w3.heap[w.heap.size + 1]? = some (.cells Z67H 33 (0, 0)) := by rw [hw3, Below.heap_alloc _ _ _ (by simp)]; exact heap_alloc2_new w _ _
  have g2 : w3.heap[w.heap.size + 2]? = some (.cells M3H 25 (0, 0)) := by
    have := heap_alloc_new ((w.alloc (.cells Z67H 33)).alloc (.cells Z67H 33)) (.cells M3H 25)
    rw [← hw3] at this
    simpa using this
  have HS3 := Lib.hid (show SlN w3 (fun i => w.heap.size ≤ i) A (b.map bv) from (SlN.of HS.out (N := fun i => w.heap.size ≤ i) (fun i hi => by omega)).turn t3 (fun _ h => h.elim) (fun _ _ h => h))
  have T3 := Lib.hid t3
  have SZ3 := Lib.hid s3
  have G0 := Lib.hid g0
  have G1 := Lib.hid g1
  have G2 := Lib.hid g2
  clear hw3 t3 s3 g0 g1 g2
  go_loopw [0, 6] (fun v0 v6 wr => ∃ (k n' c' : Nat) (A' : Option Addr), k ≤ 5 ∧ v6 = .int .i64 (k : Int) ∧ v0 = .slice A' n' c' ∧ n' = (gr k b).length ∧ (∀ j, j < k → ge j b = 0) ∧ SlN wr (fun i => w.heap.size ≤ i) A' ((gr k b).map bv) ∧ (A' = none → c' = 0) ∧ n' ≤ c' ∧ wr.heap[w.heap.size]? = some (.cells Z67H 33 (0, 0)) ∧ HAt wr (w.heap.size + 1) (gh k b) ∧ (gh k b).L ∧ wr.heap[w.heap.size + 2]? = some (.cells M3H 25 (0, 0)) ∧ w.heap.size + 3 ≤ wr.heap.size ∧ Turn (fun _ => False) w wr) (fun _ v6 _ => 5 - (intOf v6).toNat)
  case atStart => exact ⟨0, n, c, A, by omega, rfl, rfl, HN.out, fun j h => by omega, HS3.out, HA.out, by have := HC.out; have := HN.out; omega, G0.out, G1.out, ⟨rfl, rfl⟩, G2.out, by rw [SZ3.out]; exact Nat.le_refl _, T3.out⟩
  case round =>
    clear HS3 T3 SZ3 G0 G1 G2 HS HA HC HN w3
    obtain ⟨k, n', c', A', hk, rfl, rfl, hn', h0, hs, hA, hc, g0, gH, gL, g2, hsz, ht⟩ := hrel
    rcases (show k = 0 ∨ k = 1 ∨ k = 2 ∨ k = 3 ∨ k = 4 ∨ k = 5 by omega) with hk_ | hk_ | hk_ | hk_ | hk_ | hk_
    ·
      subst hk_
      have HH := Lib.hid (show (∀ j, j < 0 → ge j b = 0) ∧ SlN wr (fun i => w.heap.size ≤ i) A' ((gr 0 b).map bv) ∧ (A' = none → c' = 0) ∧ n' ≤ c' ∧ n' = (gr 0 b).length from ⟨h0, hs, hA, hc, hn'⟩)
      have HG0 := Lib.hid g0
      have HGH := Lib.hid gH
      have HGL := Lib.hid gL
      have HG2 := Lib.hid g2
      have HSZR := Lib.hid hsz
      have HTR := Lib.hid ht
      clear h0 hs hA hc hn' g0 gH gL g2 hsz ht hk
      obtain ⟨CF, hCF⟩ : ∃ CF, CF = FL 2 0 := ⟨_, rfl⟩
      have sF : CF.size = 35 := by rw [hCF]; rfl
      have F1 := Lib.hid (show (Tryz.prog.info? 73).map (·.size) = some CF.size by rw [sF]; exact fd_info)
      have F2 := Lib.hid (show Z35.size = CF.size by rw [sF]; rfl)
      have F3 := Lib.hid (show CF.all (·.oneCell') = true by rw [hCF]; exact Fd.one ⟨2, 0, none, 0, [], zeros 32⟩)
      have HA7 := Lib.hid (show (wr.alloc (.cells Z35 73)).heap[wr.heap.size]? = some (.cells Z35 73 (0, 0)) from heap_alloc_new _ _)
      have HCF := Lib.hid hCF
      have HSF := Lib.hid sF
      clear hCF sF
      go_upto_region 7 with (refine wpList_store_row rfl _ _ _ rfl wr.heap.size CF rfl (by rw [HCF.out]; rfl) 73 Z35 HA7.out F1.out F2.out F3.out ?_)
      obtain ⟨wa, hwa⟩ : ∃ wa, wa = (wr.alloc (.cells Z35 73)).setRow wr.heap.size CF := ⟨_, rfl⟩
      have ta : Turn (fun _ => False) wr wa := by rw [hwa]; exact ((Turn.refl _ _).alloc _).setRow _ _ (fun h => by omega)
      have ga : wa.heap[wr.heap.size]? = some (.cells CF 73 (0, 0)) := by rw [hwa]; exact setRow_heap _ _ _ _ _ _ HA7.out
      change Code.wp _ _ _ _ ((wr.alloc (.cells Z35 73)).setRow wr.heap.size CF)
      rw [← hwa]
      clear hwa
      have hm : wa.cell? ⟨w.heap.size + 2, 0, none⟩ = some (.int .u64 63) := by rw [cell_of_row _ _ _ _ _ _ (ta.heap HG2.out (fun h => h))]; rfl
      obtain ⟨CG, hCG⟩ : ∃ CG, CG = FL 0 63 := ⟨_, rfl⟩
      have sG : CG.size = 35 := by rw [hCG]; rfl
      have E1 := Lib.hid (show (Tryz.prog.info? 73).map (·.size) = some CG.size by rw [sG]; exact fd_info)
      have E2 := Lib.hid (show CF.size = CG.size by rw [sG, HSF.out])
      have E3 := Lib.hid (show CG.all (·.oneCell') = true by rw [hCG]; exact Fd.one ⟨0, 63, none, 0, [], zeros 32⟩)
      have GA := Lib.hid ga
      have HCG := Lib.hid hCG
      have TA := Lib.hid ta
      clear hCG sG ga ta
      go_upto_region 9 with (refine wpList_store_row rfl _ _ _ rfl wr.heap.size CG rfl (by rw [HCG.out]; rfl) 73 CF GA.out E1.out E2.out E3.out ?_)
      obtain ⟨wb, hwb⟩ : ∃ wb, wb = wa.setRow wr.heap.size CG := ⟨_, rfl⟩
      have tb : Turn (fun _ => False) wr wb := by rw [hwb]; exact TA.out.trans ((Turn.refl (fun i => i = wr.heap.size) _).setRow _ _ (fun _ => rfl)) (fun i hi h => by omega)
      have gb : wb.heap[wr.heap.size]? = some (.cells (gk 0).cells.toArray 73 (0, 0)) := by rw [hwb, setRow_heap _ _ _ _ _ _ GA.out, HCG.out]; rfl
      change Code.wp _ _ _ _ (wa.setRow wr.heap.size CG)
      rw [← hwb]
      clear hwb hm GA TA E1 E2 E3 HCG CG
      have TK := take_full (fun i => w.heap.size ≤ i) A' c' n' (gr 0 b) HH.out.2.2.2.2.symm (gk 0) wb rfl (gk_kind 0) (gM_lt 0) (HH.out.2.1.turn tb (fun _ h => h.elim) (fun _ _ h => h)) HH.out.2.2.1 HH.out.2.2.2.1 (by have := gr_le 0 b; have := HH.out.2.2.2.2; omega)
      obtain ⟨CK, hCK⟩ : ∃ CK, CK = (gk 0).cells.toArray := ⟨_, rfl⟩
      rw [← hCK] at TK gb
      have hrow := row35_at gb (by rw [hCK]; rfl)
      have TK := Lib.hid TK
      have TB := Lib.hid tb
      clear hCK gb tb F1 F2 F3 HA7 HCF HSF
      go_wp2_with fail
      refine TK.out.mono ?_
      rintro r w1 ⟨g, rfl, hd, hge, hgx, hg0, t1⟩
      obtain ⟨C, hC⟩ : ∃ C, C = g.cells.toArray := ⟨_, rfl⟩
      obtain ⟨sC, oC, a1, a2, a35, a36⟩ := g.at C hC hd
      rw [← hC]
      have HCC := Lib.hid hC
      have HD := Lib.hid hd
      clear hC hrow TK
      have HAG := Lib.hid (show (w1.alloc (.cells Z37 75)).heap[w1.heap.size]? = some (.cells Z37 75 (0, 0)) from heap_alloc_new _ _)
      have H1 := Lib.hid (show (Tryz.prog.info? 75).map (·.size) = some C.size by rw [sC]; exact got_info')
      have H2 := Lib.hid (show Z37.size = C.size by rw [sC]; rfl)
      have H3 := Lib.hid oC
      go_upto_region 10 with (refine wpList_store_row rfl _ _ _ rfl w1.heap.size C rfl rfl 75 Z37 HAG.out H1.out H2.out H3.out ?_)
      obtain ⟨w2, hw2⟩ : ∃ w2, w2 = (w1.alloc (.cells Z37 75)).setRow w1.heap.size C := ⟨_, rfl⟩
      have t2 : Turn (fun _ => False) wr w2 := by rw [hw2]; exact (TB.out.trans t1 (fun _ _ h => h)).trans (((Turn.refl (fun _ => False) _).alloc _).setRow _ _ (fun h => by omega)) (fun _ _ h => h)
      have hg2 : w2.heap[w1.heap.size]? = some (.cells C 75 (0, 0)) := by rw [hw2]; exact setRow_heap _ _ _ _ _ _ HAG.out
      have d1 : w2.cell? ⟨w1.heap.size, 1, none⟩ = some (.int .u64 (g.f.n : Int)) := by rw [cell_of_row _ _ _ _ _ _ hg2]; exact a1
      have d35 : w2.cell? ⟨w1.heap.size, 35, none⟩ = some (.int .i64 (g.e : Int)) := by rw [cell_of_row _ _ _ _ _ _ hg2]; exact a35
      have d36 : w2.cell? ⟨w1.heap.size, 36, none⟩ = some (.slice g.A g.l.length g.c) := by rw [cell_of_row _ _ _ _ _ _ hg2]; exact a36
      have HG := Lib.hid (show g.e = ge 0 b ∧ (ge 0 b = 0 → GOk g (gk 0) (gr 0 b) ∧ GAt wb (fun i => w.heap.size ≤ i) g ∧ (g.f.A = none → g.f.c = 0) ∧ g.f.b.length ≤ g.f.c) from ⟨hge, hg0⟩)
      have HGR := Lib.hid hg2
      have HT2 := Lib.hid t2
      have HTB2 := Lib.hid (show Turn (fun _ => False) wb w2 by rw [hw2]; exact t1.trans (((Turn.refl (fun _ => False) _).alloc _).setRow _ _ (fun h => by omega)) (fun _ _ h => h))
      change Code.wp _ _ _ _ ((w1.alloc (.cells Z37 75)).setRow w1.heap.size C)
      rw [← hw2]
      have HQ := Lib.hid (show wr.heap.size ≤ w1.heap.size from Nat.le_trans TB.out.size t1.size)
      have HQ2 := Lib.hid (show w1.heap.size < w2.heap.size from lt_of_block hg2)
      clear hw2 t1 t2 hg2 hge hgx hg0 sC oC a1 a2 a35 a36 hd H1 H2 H3 HAG
      generalize w1.heap.size = Q at *
      by_cases hz : ge 0 b = 0
      ·
        have hzz : ((g.e : Int) != 0) = false := by rw [HG.out.1, hz]; rfl
        obtain ⟨ok, at', -, -⟩ := HG.out.2 hz
        have HLV := Lib.hid (show g.l = gr (0 + 1) b from ok.l)
        have HSV := Lib.hid (show SlN w2 (fun i => w.heap.size ≤ i) g.A (g.l.map bv) from at'.s.turn HTB2.out (fun _ h => h.elim) (fun _ _ h => h))
        have HAV := Lib.hid (And.intro at'.a at'.c)
        have HZ0 := Lib.hid hz
        have GH2 := HGH.out.turn HT2.out (fun h => h)
        have GH2' := Lib.hid GH2
        obtain ⟨e0, e1, e2⟩ := GH2.c
        have hnv : g.f.n = numV (gr 0 b) := ok.n
        have hbd := (eNum_le (m := 63) (l := gr 0 b) hz).1
        rw [← hnv] at hbd
        have HNV := Lib.hid hnv
        have f0 := GH2.f 0
        clear HG hz ok at' GH2 hnv
        go_wp2_with fail
        obtain ⟨h5, t5⟩ := GH2'.out.set0 (g.f.n : Int)
        have H5 := Lib.hid h5
        have T5 := Lib.hid t5
        clear h5 t5 e0 e1 e2 f0 d1 d35 d36
        go_roundw
        case rel => exact ⟨0 + 1, _, _, _, by omega, by go_num, rfl, by rw [HLV.out], (fun j hj => by rcases (show j < 0 ∨ j = 0 by omega) with h | rfl; exact HH.out.1 j h; exact HZ0.out), by rw [← HLV.out]; exact HSV.out.turn T5.out (fun i h => by rw [h]; show w.heap.size ≤ _; omega) (fun _ _ h => h), HAV.out.1, HAV.out.2, T5.out.heap (HT2.out.heap HG0.out (fun h => h)) (by omega), (by rw [show gh (0 + 1) b = { gh 0 b with s := (numV (gr 0 b) : Int) } from rfl, ← HNV.out]; exact H5.out), HGL.out, T5.out.heap (HT2.out.heap HG2.out (fun h => h)) (by omega), Nat.le_trans (Nat.le_trans HSZR.out HT2.out.size) T5.out.size, (HTR.out.trans HT2.out (fun _ _ h => h)).trans T5.out (fun i hi h => by omega)⟩
        case measure => simp [intOf]
      ·
        have hzz : ((g.e : Int) != 0) = true := by rw [HG.out.1]; simp; omega
        have HR := Lib.hid (hreadE_first (by omega) HH.out.1 hz)
        have HGE := Lib.hid HG.out.1
        have G0' := Lib.hid (HT2.out.heap HG0.out (fun h => h))
        have T02 := Lib.hid (HTR.out.trans HT2.out (fun _ _ h => h))
        clear hz HG d1 d36
        go_upto_region 11 with fail
        refine wp_region_rel 77 (StH w.heap.size) [.one ?_, .one ?_, .one ?_, .rel (fun _ _ => True), .one ?_] (by kernel_rfl) (by kernel_rfl) rfl (by kernel_rfl) (StH.refl _) (StH.trans _) ⟨fun _ _ _ _ _ => trivial, trivial⟩ ?main
        case main =>
        iterate 2
          refine wpR_one (A' := ?_) (StH.refl _) (by rfl) _ rfl 77 (by rfl) (by rfl) ?_ ?_ ?_
          rotate_left 1
          · simp only [Act.put, List.setIfInBounds_toArray, List.set_cons_zero, List.set_cons_succ]; rfl
          · intro w1 hs hf K hK
            go_big_quiet_op
            first
              | go_big_quiet_on
              | (refine ⟨_, fun _ _ => rfl, ?_⟩; go_big_quiet_on)
            rfl
        refine wpR_one (A' := ?_) (StH.refl _) (by rfl) _ rfl 77 (by rfl) (by rfl) ?_ ?_ ?_
        rotate_left 1
        · simp only [Act.put, List.setIfInBounds_toArray, List.set_cons_zero, List.set_cons_succ]; rfl
        · intro w1 hs hf K hK
          refine cls_load_cell 3 (.tmp 29) rfl ⟨Q, 35, none⟩ rfl (.int .i64 (g.e : Int)) (fun w h => by simp [go_sem, h]) (fun w4 h2 => (StH.trans _ _ _ _ hs h2).1.cell (show w2.drew.cell? _ = _ from d35) (by have := HSZR.out; have := HQ.out; show Q ≠ w.heap.size; omega)) ?_
          refine hK _ ?_
          simp only [Act.put, List.setIfInBounds_toArray, List.set_cons_zero, List.set_cons_succ]
          rfl
        refine wpR_rel (A' := ?_) (by rfl) ?_ ?_ ?_
        · intro w1 hs hf
          exact does_store_noneH _ _ rfl rfl Z67H rfl rfl (hs.2 G0'.out)
        rotate_left 1
        · intro x
          simp only [Act.put, List.setIfInBounds_toArray, List.set_cons_zero, List.set_cons_succ]; rfl
        intro x32
        iterate 1
          refine wpR_one (A' := ?_) (StH.refl _) (by rfl) _ rfl 77 (by rfl) (by rfl) ?_ ?_ ?_
          rotate_left 1
          · simp only [Act.put, List.setIfInBounds_toArray, List.set_cons_zero, List.set_cons_succ]; rfl
          · intro w1 hs hf K hK
            go_big_quiet_op
            first
              | go_big_quiet_on
              | (refine ⟨_, fun _ _ => rfl, ?_⟩; go_big_quiet_on)
            rfl
        intro w5 hs1 hf
        have h3 := hs1.2 G0'.out
        have T6 := T02.out.trans ((Turn.refl _ _).drew.trans hs1.1 (fun _ _ h => h)) (fun i hi h => by omega)
        have H3 := Lib.hid h3
        have T6' := Lib.hid T6
        clear hs1 hf h3 T6
        go_wp2_with fail
        refine bodyPost_ret (v := .tuple #[.agg Z67H, .int .i64 (g.e : Int)]) ?_ rfl ⟨by rw [HR.out.1, HR.out.2, HGE.out]; rfl, T6'.out⟩
        exact results_hd Tryz.results32 _ _ w.heap.size _ _ rfl rfl H3.out rfl
    ·
      subst hk_
      have HH := Lib.hid (show (∀ j, j < 1 → ge j b = 0) ∧ SlN wr (fun i => w.heap.size ≤ i) A' ((gr 1 b).map bv) ∧ (A' = none → c' = 0) ∧ n' ≤ c' ∧ n' = (gr 1 b).length from ⟨h0, hs, hA, hc, hn'⟩)
      have HG0 := Lib.hid g0
      have HGH := Lib.hid gH
      have HGL := Lib.hid gL
      have HG2 := Lib.hid g2
      have HSZR := Lib.hid hsz
      have HTR := Lib.hid ht
      clear h0 hs hA hc hn' g0 gH gL g2 hsz ht hk
      obtain ⟨CF, hCF⟩ : ∃ CF, CF = FL 2 0 := ⟨_, rfl⟩
      have sF : CF.size = 35 := by rw [hCF]; rfl
      have F1 := Lib.hid (show (Tryz.prog.info? 73).map (·.size) = some CF.size by rw [sF]; exact fd_info)
      have F2 := Lib.hid (show Z35.size = CF.size by rw [sF]; rfl)
      have F3 := Lib.hid (show CF.all (·.oneCell') = true by rw [hCF]; exact Fd.one ⟨2, 0, none, 0, [], zeros 32⟩)
      have HA7 := Lib.hid (show (wr.alloc (.cells Z35 73)).heap[wr.heap.size]? = some (.cells Z35 73 (0, 0)) from heap_alloc_new _ _)
      have HCF := Lib.hid hCF
      have HSF := Lib.hid sF
      clear hCF sF
      go_upto_region 7 with (refine wpList_store_row rfl _ _ _ rfl wr.heap.size CF rfl (by rw [HCF.out]; rfl) 73 Z35 HA7.out F1.out F2.out F3.out ?_)
      obtain ⟨wa, hwa⟩ : ∃ wa, wa = (wr.alloc (.cells Z35 73)).setRow wr.heap.size CF := ⟨_, rfl⟩
      have ta : Turn (fun _ => False) wr wa := by rw [hwa]; exact ((Turn.refl _ _).alloc _).setRow _ _ (fun h => by omega)
      have ga : wa.heap[wr.heap.size]? = some (.cells CF 73 (0, 0)) := by rw [hwa]; exact setRow_heap _ _ _ _ _ _ HA7.out
      change Code.wp _ _ _ _ ((wr.alloc (.cells Z35 73)).setRow wr.heap.size CF)
      rw [← hwa]
      clear hwa
      have hm : wa.cell? ⟨w.heap.size + 2, 1, none⟩ = some (.int .u64 1099511627776) := by rw [cell_of_row _ _ _ _ _ _ (ta.heap HG2.out (fun h => h))]; rfl
      obtain ⟨CG, hCG⟩ : ∃ CG, CG = FL 0 1099511627776 := ⟨_, rfl⟩
      have sG : CG.size = 35 := by rw [hCG]; rfl
      have E1 := Lib.hid (show (Tryz.prog.info? 73).map (·.size) = some CG.size by rw [sG]; exact fd_info)
      have E2 := Lib.hid (show CF.size = CG.size by rw [sG, HSF.out])
      have E3 := Lib.hid (show CG.all (·.oneCell') = true by rw [hCG]; exact Fd.one ⟨0, 1099511627776, none, 0, [], zeros 32⟩)
      have GA := Lib.hid ga
      have HCG := Lib.hid hCG
      have TA := Lib.hid ta
      clear hCG sG ga ta
      go_upto_region 9 with (refine wpList_store_row rfl _ _ _ rfl wr.heap.size CG rfl (by rw [HCG.out]; rfl) 73 CF GA.out E1.out E2.out E3.out ?_)
      obtain ⟨wb, hwb⟩ : ∃ wb, wb = wa.setRow wr.heap.size CG := ⟨_, rfl⟩
      have tb : Turn (fun _ => False) wr wb := by rw [hwb]; exact TA.out.trans ((Turn.refl (fun i => i = wr.heap.size) _).setRow _ _ (fun _ => rfl)) (fun i hi h => by omega)
      have gb : wb.heap[wr.heap.size]? = some (.cells (gk 1).cells.toArray 73 (0, 0)) := by rw [hwb, setRow_heap _ _ _ _ _ _ GA.out, HCG.out]; rfl
      change Code.wp _ _ _ _ (wa.setRow wr.heap.size CG)
      rw [← hwb]
      clear hwb hm GA TA E1 E2 E3 HCG CG
      have TK := take_full (fun i => w.heap.size ≤ i) A' c' n' (gr 1 b) HH.out.2.2.2.2.symm (gk 1) wb rfl (gk_kind 1) (gM_lt 1) (HH.out.2.1.turn tb (fun _ h => h.elim) (fun _ _ h => h)) HH.out.2.2.1 HH.out.2.2.2.1 (by have := gr_le 1 b; have := HH.out.2.2.2.2; omega)
      obtain ⟨CK, hCK⟩ : ∃ CK, CK = (gk 1).cells.toArray := ⟨_, rfl⟩
      rw [← hCK] at TK gb
      have hrow := row35_at gb (by rw [hCK]; rfl)
      have TK := Lib.hid TK
      have TB := Lib.hid tb
      clear hCK gb tb F1 F2 F3 HA7 HCF HSF
      go_wp2_with fail
      refine TK.out.mono ?_
      rintro r w1 ⟨g, rfl, hd, hge, hgx, hg0, t1⟩
      obtain ⟨C, hC⟩ : ∃ C, C = g.cells.toArray := ⟨_, rfl⟩
      obtain ⟨sC, oC, a1, a2, a35, a36⟩ := g.at C hC hd
      rw [← hC]
      have HCC := Lib.hid hC
      have HD := Lib.hid hd
      clear hC hrow TK
      have HAG := Lib.hid (show (w1.alloc (.cells Z37 75)).heap[w1.heap.size]? = some (.cells Z37 75 (0, 0)) from heap_alloc_new _ _)
      have H1 := Lib.hid (show (Tryz.prog.info? 75).map (·.size) = some C.size by rw [sC]; exact got_info')
      have H2 := Lib.hid (show Z37.size = C.size by rw [sC]; rfl)
      have H3 := Lib.hid oC
      go_upto_region 10 with (refine wpList_store_row rfl _ _ _ rfl w1.heap.size C rfl rfl 75 Z37 HAG.out H1.out H2.out H3.out ?_)
      obtain ⟨w2, hw2⟩ : ∃ w2, w2 = (w1.alloc (.cells Z37 75)).setRow w1.heap.size C := ⟨_, rfl⟩
      have t2 : Turn (fun _ => False) wr w2 := by rw [hw2]; exact (TB.out.trans t1 (fun _ _ h => h)).trans (((Turn.refl (fun _ => False) _).alloc _).setRow _ _ (fun h => by omega)) (fun _ _ h => h)
      have hg2 : w2.heap[w1.heap.size]? = some (.cells C 75 (0, 0)) := by rw [hw2]; exact setRow_heap _ _ _ _ _ _ HAG.out
      have d1 : w2.cell? ⟨w1.heap.size, 1, none⟩ = some (.int .u64 (g.f.n : Int)) := by rw [cell_of_row _ _ _ _ _ _ hg2]; exact a1
      have d35 : w2.cell? ⟨w1.heap.size, 35, none⟩ = some (.int .i64 (g.e : Int)) := by rw [cell_of_row _ _ _ _ _ _ hg2]; exact a35
      have d36 : w2.cell? ⟨w1.heap.size, 36, none⟩ = some (.slice g.A g.l.length g.c) := by rw [cell_of_row _ _ _ _ _ _ hg2]; exact a36
      have HG := Lib.hid (show g.e = ge 1 b ∧ (ge 1 b = 0 → GOk g (gk 1) (gr 1 b) ∧ GAt wb (fun i => w.heap.size ≤ i) g ∧ (g.f.A = none → g.f.c = 0) ∧ g.f.b.length ≤ g.f.c) from ⟨hge, hg0⟩)
      have HGR := Lib.hid hg2
      have HT2 := Lib.hid t2
      have HTB2 := Lib.hid (show Turn (fun _ => False) wb w2 by rw [hw2]; exact t1.trans (((Turn.refl (fun _ => False) _).alloc _).setRow _ _ (fun h => by omega)) (fun _ _ h => h))
      change Code.wp _ _ _ _ ((w1.alloc (.cells Z37 75)).setRow w1.heap.size C)
      rw [← hw2]
      have HQ := Lib.hid (show wr.heap.size ≤ w1.heap.size from Nat.le_trans TB.out.size t1.size)
      have HQ2 := Lib.hid (show w1.heap.size < w2.heap.size from lt_of_block hg2)
      clear hw2 t1 t2 hg2 hge hgx hg0 sC oC a1 a2 a35 a36 hd H1 H2 H3 HAG
      generalize w1.heap.size = Q at *
      by_cases hz : ge 1 b = 0
      ·
        have hzz : ((g.e : Int) != 0) = false := by rw [HG.out.1, hz]; rfl
        obtain ⟨ok, at', -, -⟩ := HG.out.2 hz
        have HLV := Lib.hid (show g.l = gr (1 + 1) b from ok.l)
        have HSV := Lib.hid (show SlN w2 (fun i => w.heap.size ≤ i) g.A (g.l.map bv) from at'.s.turn HTB2.out (fun _ h => h.elim) (fun _ _ h => h))
        have HAV := Lib.hid (And.intro at'.a at'.c)
        have HZ0 := Lib.hid hz
        have GH2 := HGH.out.turn HT2.out (fun h => h)
        have GH2' := Lib.hid GH2
        obtain ⟨e0, e1, e2⟩ := GH2.c
        have hnv : g.f.n = numV (gr 1 b) := ok.n
        have hbd := (eNum_le (m := 1099511627776) (l := gr 1 b) hz).1
        rw [← hnv] at hbd
        have HNV := Lib.hid hnv
        have f0 := GH2.f 1
        clear HG hz ok at' GH2 hnv
        go_wp2_with fail
        obtain ⟨h5, t5⟩ := GH2'.out.set1 (g.f.n : Int)
        have H5 := Lib.hid h5
        have T5 := Lib.hid t5
        clear h5 t5 e0 e1 e2 f0 d1 d35 d36
        go_roundw
        case rel => exact ⟨1 + 1, _, _, _, by omega, by go_num, rfl, by rw [HLV.out], (fun j hj => by rcases (show j < 1 ∨ j = 1 by omega) with h | rfl; exact HH.out.1 j h; exact HZ0.out), by rw [← HLV.out]; exact HSV.out.turn T5.out (fun i h => by rw [h]; show w.heap.size ≤ _; omega) (fun _ _ h => h), HAV.out.1, HAV.out.2, T5.out.heap (HT2.out.heap HG0.out (fun h => h)) (by omega), (by rw [show gh (1 + 1) b = { gh 1 b with t := (numV (gr 1 b) : Int) } from rfl, ← HNV.out]; exact H5.out), HGL.out, T5.out.heap (HT2.out.heap HG2.out (fun h => h)) (by omega), Nat.le_trans (Nat.le_trans HSZR.out HT2.out.size) T5.out.size, (HTR.out.trans HT2.out (fun _ _ h => h)).trans T5.out (fun i hi h => by omega)⟩
        case measure => simp [intOf]
      ·
        have hzz : ((g.e : Int) != 0) = true := by rw [HG.out.1]; simp; omega
        have HR := Lib.hid (hreadE_first (by omega) HH.out.1 hz)
        have HGE := Lib.hid HG.out.1
        have G0' := Lib.hid (HT2.out.heap HG0.out (fun h => h))
        have T02 := Lib.hid (HTR.out.trans HT2.out (fun _ _ h => h))
        clear hz HG d1 d36
        go_upto_region 11 with fail
        refine wp_region_rel 77 (StH w.heap.size) [.one ?_, .one ?_, .one ?_, .rel (fun _ _ => True), .one ?_] (by kernel_rfl) (by kernel_rfl) rfl (by kernel_rfl) (StH.refl _) (StH.trans _) ⟨fun _ _ _ _ _ => trivial, trivial⟩ ?main
        case main =>
        iterate 2
          refine wpR_one (A' := ?_) (StH.refl _) (by rfl) _ rfl 77 (by rfl) (by rfl) ?_ ?_ ?_
          rotate_left 1
          · simp only [Act.put, List.setIfInBounds_toArray, List.set_cons_zero, List.set_cons_succ]; rfl
          · intro w1 hs hf K hK
            go_big_quiet_op
            first
              | go_big_quiet_on
              | (refine ⟨_, fun _ _ => rfl, ?_⟩; go_big_quiet_on)
            rfl
        refine wpR_one (A' := ?_) (StH.refl _) (by rfl) _ rfl 77 (by rfl) (by rfl) ?_ ?_ ?_
        rotate_left 1
        · simp only [Act.put, List.setIfInBounds_toArray, List.set_cons_zero, List.set_cons_succ]; rfl
        · intro w1 hs hf K hK
          refine cls_load_cell 3 (.tmp 29) rfl ⟨Q, 35, none⟩ rfl (.int .i64 (g.e : Int)) (fun w h => by simp [go_sem, h]) (fun w4 h2 => (StH.trans _ _ _ _ hs h2).1.cell (show w2.drew.cell? _ = _ from d35) (by have := HSZR.out; have := HQ.out; show Q ≠ w.heap.size; omega)) ?_
          refine hK _ ?_
          simp only [Act.put, List.setIfInBounds_toArray, List.set_cons_zero, List.set_cons_succ]
          rfl
        refine wpR_rel (A' := ?_) (by rfl) ?_ ?_ ?_
        · intro w1 hs hf
          exact does_store_noneH _ _ rfl rfl Z67H rfl rfl (hs.2 G0'.out)
        rotate_left 1
        · intro x
          simp only [Act.put, List.setIfInBounds_toArray, List.set_cons_zero, List.set_cons_succ]; rfl
        intro x32
        iterate 1
          refine wpR_one (A' := ?_) (StH.refl _) (by rfl) _ rfl 77 (by rfl) (by rfl) ?_ ?_ ?_
          rotate_left 1
          · simp only [Act.put, List.setIfInBounds_toArray, List.set_cons_zero, List.set_cons_succ]; rfl
          · intro w1 hs hf K hK
            go_big_quiet_op
            first
              | go_big_quiet_on
              | (refine ⟨_, fun _ _ => rfl, ?_⟩; go_big_quiet_on)
            rfl
        intro w5 hs1 hf
        have h3 := hs1.2 G0'.out
        have T6 := T02.out.trans ((Turn.refl _ _).drew.trans hs1.1 (fun _ _ h => h)) (fun i hi h => by omega)
        have H3 := Lib.hid h3
        have T6' := Lib.hid T6
        clear hs1 hf h3 T6
        go_wp2_with fail
        refine bodyPost_ret (v := .tuple #[.agg Z67H, .int .i64 (g.e : Int)]) ?_ rfl ⟨by rw [HR.out.1, HR.out.2, HGE.out]; rfl, T6'.out⟩
        exact results_hd Tryz.results32 _ _ w.heap.size _ _ rfl rfl H3.out rfl
    ·
      subst hk_
      have HH := Lib.hid (show (∀ j, j < 2 → ge j b = 0) ∧ SlN wr (fun i => w.heap.size ≤ i) A' ((gr 2 b).map bv) ∧ (A' = none → c' = 0) ∧ n' ≤ c' ∧ n' = (gr 2 b).length from ⟨h0, hs, hA, hc, hn'⟩)
      have HG0 := Lib.hid g0
      have HGH := Lib.hid gH
      have HGL := Lib.hid gL
      have HG2 := Lib.hid g2
      have HSZR := Lib.hid hsz
      have HTR := Lib.hid ht
      clear h0 hs hA hc hn' g0 gH gL g2 hsz ht hk
      obtain ⟨CF, hCF⟩ : ∃ CF, CF = FL 2 0 := ⟨_, rfl⟩
      have sF : CF.size = 35 := by rw [hCF]; rfl
      have F1 := Lib.hid (show (Tryz.prog.info? 73).map (·.size) = some CF.size by rw [sF]; exact fd_info)
      have F2 := Lib.hid (show Z35.size = CF.size by rw [sF]; rfl)
      have F3 := Lib.hid (show CF.all (·.oneCell') = true by rw [hCF]; exact Fd.one ⟨2, 0, none, 0, [], zeros 32⟩)
      have HA7 := Lib.hid (show (wr.alloc (.cells Z35 73)).heap[wr.heap.size]? = some (.cells Z35 73 (0, 0)) from heap_alloc_new _ _)
      have HCF := Lib.hid hCF
      have HSF := Lib.hid sF
      clear hCF sF
      go_upto_region 7 with (refine wpList_store_row rfl _ _ _ rfl wr.heap.size CF rfl (by rw [HCF.out]; rfl) 73 Z35 HA7.out F1.out F2.out F3.out ?_)
      obtain ⟨wa, hwa⟩ : ∃ wa, wa = (wr.alloc (.cells Z35 73)).setRow wr.heap.size CF := ⟨_, rfl⟩
      have ta : Turn (fun _ => False) wr wa := by rw [hwa]; exact ((Turn.refl _ _).alloc _).setRow _ _ (fun h => by omega)
      have ga : wa.heap[wr.heap.size]? = some (.cells CF 73 (0, 0)) := by rw [hwa]; exact setRow_heap _ _ _ _ _ _ HA7.out
      change Code.wp _ _ _ _ ((wr.alloc (.cells Z35 73)).setRow wr.heap.size CF)
      rw [← hwa]
      clear hwa
      have hm : wa.cell? ⟨w.heap.size + 2, 2, none⟩ = some (.int .u64 1099511627776) := by rw [cell_of_row _ _ _ _ _ _ (ta.heap HG2.out (fun h => h))]; rfl
      obtain ⟨CG, hCG⟩ : ∃ CG, CG = FL 0 1099511627776 := ⟨_, rfl⟩
      have sG : CG.size = 35 := by rw [hCG]; rfl
      have E1 := Lib.hid (show (Tryz.prog.info? 73).map (·.size) = some CG.size by rw [sG]; exact fd_info)
      have E2 := Lib.hid (show CF.size = CG.size by rw [sG, HSF.out])
      have E3 := Lib.hid (show CG.all (·.oneCell') = true by rw [hCG]; exact Fd.one ⟨0, 1099511627776, none, 0, [], zeros 32⟩)
      have GA := Lib.hid ga
      have HCG := Lib.hid hCG
      have TA := Lib.hid ta
      clear hCG sG ga ta
      go_upto_region 9 with (refine wpList_store_row rfl _ _ _ rfl wr.heap.size CG rfl (by rw [HCG.out]; rfl) 73 CF GA.out E1.out E2.out E3.out ?_)
      obtain ⟨wb, hwb⟩ : ∃ wb, wb = wa.setRow wr.heap.size CG := ⟨_, rfl⟩
      have tb : Turn (fun _ => False) wr wb := by rw [hwb]; exact TA.out.trans ((Turn.refl (fun i => i = wr.heap.size) _).setRow _ _ (fun _ => rfl)) (fun i hi h => by omega)
      have gb : wb.heap[wr.heap.size]? = some (.cells (gk 2).cells.toArray 73 (0, 0)) := by rw [hwb, setRow_heap _ _ _ _ _ _ GA.out, HCG.out]; rfl
      change Code.wp _ _ _ _ (wa.setRow wr.heap.size CG)
      rw [← hwb]
      clear hwb hm GA TA E1 E2 E3 HCG CG
      have TK := take_full (fun i => w.heap.size ≤ i) A' c' n' (gr 2 b) HH.out.2.2.2.2.symm (gk 2) wb rfl (gk_kind 2) (gM_lt 2) (HH.out.2.1.turn tb (fun _ h => h.elim) (fun _ _ h => h)) HH.out.2.2.1 HH.out.2.2.2.1 (by have := gr_le 2 b; have := HH.out.2.2.2.2; omega)
      obtain ⟨CK, hCK⟩ : ∃ CK, CK = (gk 2).cells.toArray := ⟨_, rfl⟩
      rw [← hCK] at TK gb
      have hrow := row35_at gb (by rw [hCK]; rfl)
      have TK := Lib.hid TK
      have TB := Lib.hid tb
      clear hCK gb tb F1 F2 F3 HA7 HCF HSF
      go_wp2_with fail
      refine TK.out.mono ?_
      rintro r w1 ⟨g, rfl, hd, hge, hgx, hg0, t1⟩
      obtain ⟨C, hC⟩ : ∃ C, C = g.cells.toArray := ⟨_, rfl⟩
      obtain ⟨sC, oC, a1, a2, a35, a36⟩ := g.at C hC hd
      rw [← hC]
      have HCC := Lib.hid hC
      have HD := Lib.hid hd
      clear hC hrow TK
      have HAG := Lib.hid (show (w1.alloc (.cells Z37 75)).heap[w1.heap.size]? = some (.cells Z37 75 (0, 0)) from heap_alloc_new _ _)
      have H1 := Lib.hid (show (Tryz.prog.info? 75).map (·.size) = some C.size by rw [sC]; exact got_info')
      have H2 := Lib.hid (show Z37.size = C.size by rw [sC]; rfl)
      have H3 := Lib.hid oC
      go_upto_region 10 with (refine wpList_store_row rfl _ _ _ rfl w1.heap.size C rfl rfl 75 Z37 HAG.out H1.out H2.out H3.out ?_)
      obtain ⟨w2, hw2⟩ : ∃ w2, w2 = (w1.alloc (.cells Z37 75)).setRow w1.heap.size C := ⟨_, rfl⟩
      have t2 : Turn (fun _ => False) wr w2 := by rw [hw2]; exact (TB.out.trans t1 (fun _ _ h => h)).trans (((Turn.refl (fun _ => False) _).alloc _).setRow _ _ (fun h => by omega)) (fun _ _ h => h)
      have hg2 : w2.heap[w1.heap.size]? = some (.cells C 75 (0, 0)) := by rw [hw2]; exact setRow_heap _ _ _ _ _ _ HAG.out
      have d1 : w2.cell? ⟨w1.heap.size, 1, none⟩ = some (.int .u64 (g.f.n : Int)) := by rw [cell_of_row _ _ _ _ _ _ hg2]; exact a1
      have d35 : w2.cell? ⟨w1.heap.size, 35, none⟩ = some (.int .i64 (g.e : Int)) := by rw [cell_of_row _ _ _ _ _ _ hg2]; exact a35
      have d36 : w2.cell? ⟨w1.heap.size, 36, none⟩ = some (.slice g.A g.l.length g.c) := by rw [cell_of_row _ _ _ _ _ _ hg2]; exact a36
      have HG := Lib.hid (show g.e = ge 2 b ∧ (ge 2 b = 0 → GOk g (gk 2) (gr 2 b) ∧ GAt wb (fun i => w.heap.size ≤ i) g ∧ (g.f.A = none → g.f.c = 0) ∧ g.f.b.length ≤ g.f.c) from ⟨hge, hg0⟩)
      have HGR := Lib.hid hg2
      have HT2 := Lib.hid t2
      have HTB2 := Lib.hid (show Turn (fun _ => False) wb w2 by rw [hw2]; exact t1.trans (((Turn.refl (fun _ => False) _).alloc _).setRow _ _ (fun h => by omega)) (fun _ _ h => h))
      change Code.wp _ _ _ _ ((w1.alloc (.cells Z37 75)).setRow w1.heap.size C)
      rw [← hw2]
      have HQ := Lib.hid (show wr.heap.size ≤ w1.heap.size from Nat.le_trans TB.out.size t1.size)
      have HQ2 := Lib.hid (show w1.heap.size < w2.heap.size from lt_of_block hg2)
      clear hw2 t1 t2 hg2 hge hgx hg0 sC oC a1 a2 a35 a36 hd H1 H2 H3 HAG
      generalize w1.heap.size = Q at *
      by_cases hz : ge 2 b = 0
      ·
        have hzz : ((g.e : Int) != 0) = false := by rw [HG.out.1, hz]; rfl
        obtain ⟨ok, at', -, -⟩ := HG.out.2 hz
        have HLV := Lib.hid (show g.l = gr (2 + 1) b from ok.l)
        have HSV := Lib.hid (show SlN w2 (fun i => w.heap.size ≤ i) g.A (g.l.map bv) from at'.s.turn HTB2.out (fun _ h => h.elim) (fun _ _ h => h))
        have HAV := Lib.hid (And.intro at'.a at'.c)
        have HZ0 := Lib.hid hz
        have GH2 := HGH.out.turn HT2.out (fun h => h)
        have GH2' := Lib.hid GH2
        obtain ⟨e0, e1, e2⟩ := GH2.c
        have hnv : g.f.n = numV (gr 2 b) := ok.n
        have hbd := (eNum_le (m := 1099511627776) (l := gr 2 b) hz).1
        rw [← hnv] at hbd
        have HNV := Lib.hid hnv
        have f0 := GH2.f 2
        clear HG hz ok at' GH2 hnv
        go_wp2_with fail
        obtain ⟨h5, t5⟩ := GH2'.out.set2 (g.f.n : Int)
        have H5 := Lib.hid h5
        have T5 := Lib.hid t5
        clear h5 t5 e0 e1 e2 f0 d1 d35 d36
        go_roundw
        case rel => exact ⟨2 + 1, _, _, _, by omega, by go_num, rfl, by rw [HLV.out], (fun j hj => by rcases (show j < 2 ∨ j = 2 by omega) with h | rfl; exact HH.out.1 j h; exact HZ0.out), by rw [← HLV.out]; exact HSV.out.turn T5.out (fun i h => by rw [h]; show w.heap.size ≤ _; omega) (fun _ _ h => h), HAV.out.1, HAV.out.2, T5.out.heap (HT2.out.heap HG0.out (fun h => h)) (by omega), (by rw [show gh (2 + 1) b = { gh 2 b with p := (numV (gr 2 b) : Int) } from rfl, ← HNV.out]; exact H5.out), HGL.out, T5.out.heap (HT2.out.heap HG2.out (fun h => h)) (by omega), Nat.le_trans (Nat.le_trans HSZR.out HT2.out.size) T5.out.size, (HTR.out.trans HT2.out (fun _ _ h => h)).trans T5.out (fun i hi h => by omega)⟩
        case measure => simp [intOf]
      ·
        have hzz : ((g.e : Int) != 0) = true := by rw [HG.out.1]; simp; omega
        have HR := Lib.hid (hreadE_first (by omega) HH.out.1 hz)
        have HGE := Lib.hid HG.out.1
        have G0' := Lib.hid (HT2.out.heap HG0.out (fun h => h))
        have T02 := Lib.hid (HTR.out.trans HT2.out (fun _ _ h => h))
        clear hz HG d1 d36
        go_upto_region 11 with fail
        refine wp_region_rel 77 (StH w.heap.size) [.one ?_, .one ?_, .one ?_, .rel (fun _ _ => True), .one ?_] (by kernel_rfl) (by kernel_rfl) rfl (by kernel_rfl) (StH.refl _) (StH.trans _) ⟨fun _ _ _ _ _ => trivial, trivial⟩ ?main
        case main =>
        iterate 2
          refine wpR_one (A' := ?_) (StH.refl _) (by rfl) _ rfl 77 (by rfl) (by rfl) ?_ ?_ ?_
          rotate_left 1
          · simp only [Act.put, List.setIfInBounds_toArray, List.set_cons_zero, List.set_cons_succ]; rfl
          · intro w1 hs hf K hK
            go_big_quiet_op
            first
              | go_big_quiet_on
              | (refine ⟨_, fun _ _ => rfl, ?_⟩; go_big_quiet_on)
            rfl
        refine wpR_one (A' := ?_) (StH.refl _) (by rfl) _ rfl 77 (by rfl) (by rfl) ?_ ?_ ?_
        rotate_left 1
        · simp only [Act.put, List.setIfInBounds_toArray, List.set_cons_zero, List.set_cons_succ]; rfl
        · intro w1 hs hf K hK
          refine cls_load_cell 3 (.tmp 29) rfl ⟨Q, 35, none⟩ rfl (.int .i64 (g.e : Int)) (fun w h => by simp [go_sem, h]) (fun w4 h2 => (StH.trans _ _ _ _ hs h2).1.cell (show w2.drew.cell? _ = _ from d35) (by have := HSZR.out; have := HQ.out; show Q ≠ w.heap.size; omega)) ?_
          refine hK _ ?_
          simp only [Act.put, List.setIfInBounds_toArray, List.set_cons_zero, List.set_cons_succ]
          rfl
        refine wpR_rel (A' := ?_) (by rfl) ?_ ?_ ?_
        · intro w1 hs hf
          exact does_store_noneH _ _ rfl rfl Z67H rfl rfl (hs.2 G0'.out)
        rotate_left 1
        · intro x
          simp only [Act.put, List.setIfInBounds_toArray, List.set_cons_zero, List.set_cons_succ]; rfl
        intro x32
        iterate 1
          refine wpR_one (A' := ?_) (StH.refl _) (by rfl) _ rfl 77 (by rfl) (by rfl) ?_ ?_ ?_
          rotate_left 1
          · simp only [Act.put, List.setIfInBounds_toArray, List.set_cons_zero, List.set_cons_succ]; rfl
          · intro w1 hs hf K hK
            go_big_quiet_op
            first
              | go_big_quiet_on
              | (refine ⟨_, fun _ _ => rfl, ?_⟩; go_big_quiet_on)
            rfl
        intro w5 hs1 hf
        have h3 := hs1.2 G0'.out
        have T6 := T02.out.trans ((Turn.refl _ _).drew.trans hs1.1 (fun _ _ h => h)) (fun i hi h => by omega)
        have H3 := Lib.hid h3
        have T6' := Lib.hid T6
        clear hs1 hf h3 T6
        go_wp2_with fail
        refine bodyPost_ret (v := .tuple #[.agg Z67H, .int .i64 (g.e : Int)]) ?_ rfl ⟨by rw [HR.out.1, HR.out.2, HGE.out]; rfl, T6'.out⟩
        exact results_hd Tryz.results32 _ _ w.heap.size _ _ rfl rfl H3.out rfl
    ·
      subst hk_
      have HH := Lib.hid (show (∀ j, j < 3 → ge j b = 0) ∧ SlN wr (fun i => w.heap.size ≤ i) A' ((gr 3 b).map bv) ∧ (A' = none → c' = 0) ∧ n' ≤ c' ∧ n' = (gr 3 b).length from ⟨h0, hs, hA, hc, hn'⟩)
      have HG0 := Lib.hid g0
      have HGH := Lib.hid gH
      have HGL := Lib.hid gL
      have HG2 := Lib.hid g2
      have HSZR := Lib.hid hsz
      have HTR := Lib.hid ht
      clear h0 hs hA hc hn' g0 gH gL g2 hsz ht hk
      obtain ⟨CF, hCF⟩ : ∃ CF, CF = FL 2 0 := ⟨_, rfl⟩
      have sF : CF.size = 35 := by rw [hCF]; rfl
      have F1 := Lib.hid (show (Tryz.prog.info? 73).map (·.size) = some CF.size by rw [sF]; exact fd_info)
      have F2 := Lib.hid (show Z35.size = CF.size by rw [sF]; rfl)
      have F3 := Lib.hid (show CF.all (·.oneCell') = true by rw [hCF]; exact Fd.one ⟨2, 0, none, 0, [], zeros 32⟩)
      have HA7 := Lib.hid (show (wr.alloc (.cells Z35 73)).heap[wr.heap.size]? = some (.cells Z35 73 (0, 0)) from heap_alloc_new _ _)
      have HCF := Lib.hid hCF
      have HSF := Lib.hid sF
      clear hCF sF
      go_upto_region 7 with (refine wpList_store_row rfl _ _ _ rfl wr.heap.size CF rfl (by rw [HCF.out]; rfl) 73 Z35 HA7.out F1.out F2.out F3.out ?_)
      obtain ⟨wa, hwa⟩ : ∃ wa, wa = (wr.alloc (.cells Z35 73)).setRow wr.heap.size CF := ⟨_, rfl⟩
      have ta : Turn (fun _ => False) wr wa := by rw [hwa]; exact ((Turn.refl _ _).alloc _).setRow _ _ (fun h => by omega)
      have ga : wa.heap[wr.heap.size]? = some (.cells CF 73 (0, 0)) := by rw [hwa]; exact setRow_heap _ _ _ _ _ _ HA7.out
      change Code.wp _ _ _ _ ((wr.alloc (.cells Z35 73)).setRow wr.heap.size CF)
      rw [← hwa]
      clear hwa
      go_upto_region 9 with fail
      obtain ⟨wb, hwb⟩ : ∃ wb, wb = wa := ⟨_, rfl⟩
      have tb : Turn (fun _ => False) wr wb := by rw [hwb]; exact ta
      have gb : wb.heap[wr.heap.size]? = some (.cells (gk 3).cells.toArray 73 (0, 0)) := by rw [hwb, ga, HCF.out]; rfl
      rw [← hwb]
      clear hwb ga ta
      have TK := take_full (fun i => w.heap.size ≤ i) A' c' n' (gr 3 b) HH.out.2.2.2.2.symm (gk 3) wb rfl (gk_kind 3) (gM_lt 3) (HH.out.2.1.turn tb (fun _ h => h.elim) (fun _ _ h => h)) HH.out.2.2.1 HH.out.2.2.2.1 (by have := gr_le 3 b; have := HH.out.2.2.2.2; omega)
      obtain ⟨CK, hCK⟩ : ∃ CK, CK = (gk 3).cells.toArray := ⟨_, rfl⟩
      rw [← hCK] at TK gb
      have hrow := row35_at gb (by rw [hCK]; rfl)
      have TK := Lib.hid TK
      have TB := Lib.hid tb
      clear hCK gb tb F1 F2 F3 HA7 HCF HSF
      go_wp2_with fail
      refine TK.out.mono ?_
      rintro r w1 ⟨g, rfl, hd, hge, hgx, hg0, t1⟩
      obtain ⟨C, hC⟩ : ∃ C, C = g.cells.toArray := ⟨_, rfl⟩
      obtain ⟨sC, oC, a1, a2, a35, a36⟩ := g.at C hC hd
      rw [← hC]
      have HCC := Lib.hid hC
      have HD := Lib.hid hd
      clear hC hrow TK
      have HAG := Lib.hid (show (w1.alloc (.cells Z37 75)).heap[w1.heap.size]? = some (.cells Z37 75 (0, 0)) from heap_alloc_new _ _)
      have H1 := Lib.hid (show (Tryz.prog.info? 75).map (·.size) = some C.size by rw [sC]; exact got_info')
      have H2 := Lib.hid (show Z37.size = C.size by rw [sC]; rfl)
      have H3 := Lib.hid oC
      go_upto_region 10 with (refine wpList_store_row rfl _ _ _ rfl w1.heap.size C rfl rfl 75 Z37 HAG.out H1.out H2.out H3.out ?_)
      obtain ⟨w2, hw2⟩ : ∃ w2, w2 = (w1.alloc (.cells Z37 75)).setRow w1.heap.size C := ⟨_, rfl⟩
      have t2 : Turn (fun _ => False) wr w2 := by rw [hw2]; exact (TB.out.trans t1 (fun _ _ h => h)).trans (((Turn.refl (fun _ => False) _).alloc _).setRow _ _ (fun h => by omega)) (fun _ _ h => h)
      have hg2 : w2.heap[w1.heap.size]? = some (.cells C 75 (0, 0)) := by rw [hw2]; exact setRow_heap _ _ _ _ _ _ HAG.out
      have d1 : w2.cell? ⟨w1.heap.size, 1, none⟩ = some (.int .u64 (g.f.n : Int)) := by rw [cell_of_row _ _ _ _ _ _ hg2]; exact a1
      have d35 : w2.cell? ⟨w1.heap.size, 35, none⟩ = some (.int .i64 (g.e : Int)) := by rw [cell_of_row _ _ _ _ _ _ hg2]; exact a35
      have d36 : w2.cell? ⟨w1.heap.size, 36, none⟩ = some (.slice g.A g.l.length g.c) := by rw [cell_of_row _ _ _ _ _ _ hg2]; exact a36
      have HG := Lib.hid (show g.e = ge 3 b ∧ (ge 3 b = 0 → GOk g (gk 3) (gr 3 b) ∧ GAt wb (fun i => w.heap.size ≤ i) g ∧ (g.f.A = none → g.f.c = 0) ∧ g.f.b.length ≤ g.f.c) from ⟨hge, hg0⟩)
      have HGR := Lib.hid hg2
      have HT2 := Lib.hid t2
      have HTB2 := Lib.hid (show Turn (fun _ => False) wb w2 by rw [hw2]; exact t1.trans (((Turn.refl (fun _ => False) _).alloc _).setRow _ _ (fun h => by omega)) (fun _ _ h => h))
      change Code.wp _ _ _ _ ((w1.alloc (.cells Z37 75)).setRow w1.heap.size C)
      rw [← hw2]
      have HQ := Lib.hid (show wr.heap.size ≤ w1.heap.size from Nat.le_trans TB.out.size t1.size)
      have HQ2 := Lib.hid (show w1.heap.size < w2.heap.size from lt_of_block hg2)
      clear hw2 t1 t2 hg2 hge hgx hg0 sC oC a1 a2 a35 a36 hd H1 H2 H3 HAG
      generalize w1.heap.size = Q at *
      by_cases hz : ge 3 b = 0
      ·
        have hzz : ((g.e : Int) != 0) = false := by rw [HG.out.1, hz]; rfl
        obtain ⟨ok, at', -, -⟩ := HG.out.2 hz
        have HLV := Lib.hid (show g.l = gr (3 + 1) b from ok.l)
        have HSV := Lib.hid (show SlN w2 (fun i => w.heap.size ≤ i) g.A (g.l.map bv) from at'.s.turn HTB2.out (fun _ h => h.elim) (fun _ _ h => h))
        have HAV := Lib.hid (And.intro at'.a at'.c)
        have HZ0 := Lib.hid hz
        have GH2 := HGH.out.turn HT2.out (fun h => h)
        have GH2' := Lib.hid GH2
        obtain ⟨e0, e1, e2⟩ := GH2.c
        have hx32 : 32 ≤ (gr 3 b).length := by
          have hz' : (if (gr 3 b).length < 32 then 2 else 0) = 0 := hz
          split at hz' <;> omega
        have hdv : g.f.d = (gr 3 b).take 32 := ok.d
        have hrowQ := g.atR C HCC.out HD.out HGR.out
        obtain ⟨DA, hDA⟩ : ∃ DA, DA = (g.f.d.map bv).toArray := ⟨_, rfl⟩
        rw [← hDA] at hrowQ
        have sD : DA.size = 32 := by rw [hDA]; simp [HD.out]
        have Q1 := Lib.hid (show (Tryz.prog.info? 24).map (·.size) = some DA.size by rw [sD]; exact id_info)
        have Q3 := Lib.hid (show DA.all (·.oneCell') = true by rw [hDA]; exact all_oneCell_toArray (bv_one _))
        have HDA := Lib.hid hDA
        have HDV := Lib.hid hdv
        have HX32 := Lib.hid hx32
        have TH := Lib.hid (show w2.there (w.heap.size + 1) 3 DA.size by
          rw [sD]
          exact fun j hj => by
            have hg : w2.heap[w.heap.size + 1]? = some (.cells (gh 3 b).cells.toArray 33 (0, 0)) := GH2'.out
            refine ⟨?_, frozen_of_row w2 (w.heap.size + 1) (3 + j) _ _ hg⟩
            rw [cell_of_row w2 (w.heap.size + 1) (3 + j) _ _ _ hg, List.getElem?_toArray]
            exact Option.isSome_iff_exists.2 ⟨_, List.getElem?_eq_getElem (by rw [Hdr.len _ HGL.out]; omega)⟩)
        clear HG hz ok at' GH2 hDA sD hdv hx32
        go_wp2_with (refine wpList_store_mid rfl _ _ _ rfl (w.heap.size + 1) 3 DA rfl rfl TH.out Q1.out Q3.out ?_)
        obtain ⟨h5, t5⟩ := GH2'.out.setD HGL.out g.f.d HD.out
        rw [show g.f.d.map bv = DA.toList by rw [HDA.out]] at h5 t5
        have H5 := Lib.hid h5
        have T5 := Lib.hid t5
        clear h5 t5 e0 e1 e2 d1 d35 d36 hrowQ
        go_roundw
        case rel => exact ⟨3 + 1, _, _, _, by omega, by go_num, rfl, by rw [HLV.out], (fun j hj => by rcases (show j < 3 ∨ j = 3 by omega) with h | rfl; exact HH.out.1 j h; exact HZ0.out), by rw [← HLV.out]; exact HSV.out.turn T5.out (fun i h => by rw [h]; show w.heap.size ≤ _; omega) (fun _ _ h => h), HAV.out.1, HAV.out.2, T5.out.heap (HT2.out.heap HG0.out (fun h => h)) (by omega), (by rw [show gh (3 + 1) b = { gh 3 b with d := (gr 3 b).take 32 } from rfl, ← HDV.out]; exact H5.out), ⟨by show ((gr 3 b).take 32).length = 32; rw [List.length_take]; have := HX32.out; omega, rfl⟩, T5.out.heap (HT2.out.heap HG2.out (fun h => h)) (by omega), Nat.le_trans (Nat.le_trans HSZR.out HT2.out.size) T5.out.size, (HTR.out.trans HT2.out (fun _ _ h => h)).trans T5.out (fun i hi h => by omega)⟩
        case measure => simp [intOf]
      ·
        have hzz : ((g.e : Int) != 0) = true := by rw [HG.out.1]; simp; omega
        have HR := Lib.hid (hreadE_first (by omega) HH.out.1 hz)
        have HGE := Lib.hid HG.out.1
        have G0' := Lib.hid (HT2.out.heap HG0.out (fun h => h))
        have T02 := Lib.hid (HTR.out.trans HT2.out (fun _ _ h => h))
        clear hz HG d1 d36
        go_upto_region 11 with fail
        refine wp_region_rel 77 (StH w.heap.size) [.one ?_, .one ?_, .one ?_, .rel (fun _ _ => True), .one ?_] (by kernel_rfl) (by kernel_rfl) rfl (by kernel_rfl) (StH.refl _) (StH.trans _) ⟨fun _ _ _ _ _ => trivial, trivial⟩ ?main
        case main =>
        iterate 2
          refine wpR_one (A' := ?_) (StH.refl _) (by rfl) _ rfl 77 (by rfl) (by rfl) ?_ ?_ ?_
          rotate_left 1
          · simp only [Act.put, List.setIfInBounds_toArray, List.set_cons_zero, List.set_cons_succ]; rfl
          · intro w1 hs hf K hK
            go_big_quiet_op
            first
              | go_big_quiet_on
              | (refine ⟨_, fun _ _ => rfl, ?_⟩; go_big_quiet_on)
            rfl
        refine wpR_one (A' := ?_) (StH.refl _) (by rfl) _ rfl 77 (by rfl) (by rfl) ?_ ?_ ?_
        rotate_left 1
        · simp only [Act.put, List.setIfInBounds_toArray, List.set_cons_zero, List.set_cons_succ]; rfl
        · intro w1 hs hf K hK
          refine cls_load_cell 3 (.tmp 29) rfl ⟨Q, 35, none⟩ rfl (.int .i64 (g.e : Int)) (fun w h => by simp [go_sem, h]) (fun w4 h2 => (StH.trans _ _ _ _ hs h2).1.cell (show w2.drew.cell? _ = _ from d35) (by have := HSZR.out; have := HQ.out; show Q ≠ w.heap.size; omega)) ?_
          refine hK _ ?_
          simp only [Act.put, List.setIfInBounds_toArray, List.set_cons_zero, List.set_cons_succ]
          rfl
        refine wpR_rel (A' := ?_) (by rfl) ?_ ?_ ?_
        · intro w1 hs hf
          exact does_store_noneH _ _ rfl rfl Z67H rfl rfl (hs.2 G0'.out)
        rotate_left 1
        · intro x
          simp only [Act.put, List.setIfInBounds_toArray, List.set_cons_zero, List.set_cons_succ]; rfl
        intro x32
        iterate 1
          refine wpR_one (A' := ?_) (StH.refl _) (by rfl) _ rfl 77 (by rfl) (by rfl) ?_ ?_ ?_
          rotate_left 1
          · simp only [Act.put, List.setIfInBounds_toArray, List.set_cons_zero, List.set_cons_succ]; rfl
          · intro w1 hs hf K hK
            go_big_quiet_op
            first
              | go_big_quiet_on
              | (refine ⟨_, fun _ _ => rfl, ?_⟩; go_big_quiet_on)
            rfl
        intro w5 hs1 hf
        have h3 := hs1.2 G0'.out
        have T6 := T02.out.trans ((Turn.refl _ _).drew.trans hs1.1 (fun _ _ h => h)) (fun i hi h => by omega)
        have H3 := Lib.hid h3
        have T6' := Lib.hid T6
        clear hs1 hf h3 T6
        go_wp2_with fail
        refine bodyPost_ret (v := .tuple #[.agg Z67H, .int .i64 (g.e : Int)]) ?_ rfl ⟨by rw [HR.out.1, HR.out.2, HGE.out]; rfl, T6'.out⟩
        exact results_hd Tryz.results32 _ _ w.heap.size _ _ rfl rfl H3.out rfl
    ·
      subst hk_
      have HH := Lib.hid (show (∀ j, j < 4 → ge j b = 0) ∧ SlN wr (fun i => w.heap.size ≤ i) A' ((gr 4 b).map bv) ∧ (A' = none → c' = 0) ∧ n' ≤ c' ∧ n' = (gr 4 b).length from ⟨h0, hs, hA, hc, hn'⟩)
      have HG0 := Lib.hid g0
      have HGH := Lib.hid gH
      have HGL := Lib.hid gL
      have HG2 := Lib.hid g2
      have HSZR := Lib.hid hsz
      have HTR := Lib.hid ht
      clear h0 hs hA hc hn' g0 gH gL g2 hsz ht hk
      obtain ⟨CF, hCF⟩ : ∃ CF, CF = FL 2 0 := ⟨_, rfl⟩
      have sF : CF.size = 35 := by rw [hCF]; rfl
      have F1 := Lib.hid (show (Tryz.prog.info? 73).map (·.size) = some CF.size by rw [sF]; exact fd_info)
      have F2 := Lib.hid (show Z35.size = CF.size by rw [sF]; rfl)
      have F3 := Lib.hid (show CF.all (·.oneCell') = true by rw [hCF]; exact Fd.one ⟨2, 0, none, 0, [], zeros 32⟩)
      have HA7 := Lib.hid (show (wr.alloc (.cells Z35 73)).heap[wr.heap.size]? = some (.cells Z35 73 (0, 0)) from heap_alloc_new _ _)
      have HCF := Lib.hid hCF
      have HSF := Lib.hid sF
      clear hCF sF
      go_upto_region 7 with (refine wpList_store_row rfl _ _ _ rfl wr.heap.size CF rfl (by rw [HCF.out]; rfl) 73 Z35 HA7.out F1.out F2.out F3.out ?_)
      obtain ⟨wa, hwa⟩ : ∃ wa, wa = (wr.alloc (.cells Z35 73)).setRow wr.heap.size CF := ⟨_, rfl⟩
      have ta : Turn (fun _ => False) wr wa := by rw [hwa]; exact ((Turn.refl _ _).alloc _).setRow _ _ (fun h => by omega)
      have ga : wa.heap[wr.heap.size]? = some (.cells CF 73 (0, 0)) := by rw [hwa]; exact setRow_heap _ _ _ _ _ _ HA7.out
      change Code.wp _ _ _ _ ((wr.alloc (.cells Z35 73)).setRow wr.heap.size CF)
      rw [← hwa]
      clear hwa
      go_upto_region 9 with fail
      obtain ⟨wb, hwb⟩ : ∃ wb, wb = wa := ⟨_, rfl⟩
      have tb : Turn (fun _ => False) wr wb := by rw [hwb]; exact ta
      have gb : wb.heap[wr.heap.size]? = some (.cells (gk 4).cells.toArray 73 (0, 0)) := by rw [hwb, ga, HCF.out]; rfl
      rw [← hwb]
      clear hwb ga ta
      have TK := take_full (fun i => w.heap.size ≤ i) A' c' n' (gr 4 b) HH.out.2.2.2.2.symm (gk 4) wb rfl (gk_kind 4) (gM_lt 4) (HH.out.2.1.turn tb (fun _ h => h.elim) (fun _ _ h => h)) HH.out.2.2.1 HH.out.2.2.2.1 (by have := gr_le 4 b; have := HH.out.2.2.2.2; omega)
      obtain ⟨CK, hCK⟩ : ∃ CK, CK = (gk 4).cells.toArray := ⟨_, rfl⟩
      rw [← hCK] at TK gb
      have hrow := row35_at gb (by rw [hCK]; rfl)
      have TK := Lib.hid TK
      have TB := Lib.hid tb
      clear hCK gb tb F1 F2 F3 HA7 HCF HSF
      go_wp2_with fail
      refine TK.out.mono ?_
      rintro r w1 ⟨g, rfl, hd, hge, hgx, hg0, t1⟩
      obtain ⟨C, hC⟩ : ∃ C, C = g.cells.toArray := ⟨_, rfl⟩
      obtain ⟨sC, oC, a1, a2, a35, a36⟩ := g.at C hC hd
      rw [← hC]
      have HCC := Lib.hid hC
      have HD := Lib.hid hd
      clear hC hrow TK
      have HAG := Lib.hid (show (w1.alloc (.cells Z37 75)).heap[w1.heap.size]? = some (.cells Z37 75 (0, 0)) from heap_alloc_new _ _)
      have H1 := Lib.hid (show (Tryz.prog.info? 75).map (·.size) = some C.size by rw [sC]; exact got_info')
      have H2 := Lib.hid (show Z37.size = C.size by rw [sC]; rfl)
      have H3 := Lib.hid oC
      go_upto_region 10 with (refine wpList_store_row rfl _ _ _ rfl w1.heap.size C rfl rfl 75 Z37 HAG.out H1.out H2.out H3.out ?_)
      obtain ⟨w2, hw2⟩ : ∃ w2, w2 = (w1.alloc (.cells Z37 75)).setRow w1.heap.size C := ⟨_, rfl⟩
      have t2 : Turn (fun _ => False) wr w2 := by rw [hw2]; exact (TB.out.trans t1 (fun _ _ h => h)).trans (((Turn.refl (fun _ => False) _).alloc _).setRow _ _ (fun h => by omega)) (fun _ _ h => h)
      have hg2 : w2.heap[w1.heap.size]? = some (.cells C 75 (0, 0)) := by rw [hw2]; exact setRow_heap _ _ _ _ _ _ HAG.out
      have d1 : w2.cell? ⟨w1.heap.size, 1, none⟩ = some (.int .u64 (g.f.n : Int)) := by rw [cell_of_row _ _ _ _ _ _ hg2]; exact a1
      have d35 : w2.cell? ⟨w1.heap.size, 35, none⟩ = some (.int .i64 (g.e : Int)) := by rw [cell_of_row _ _ _ _ _ _ hg2]; exact a35
      have d36 : w2.cell? ⟨w1.heap.size, 36, none⟩ = some (.slice g.A g.l.length g.c) := by rw [cell_of_row _ _ _ _ _ _ hg2]; exact a36
      have HG := Lib.hid (show g.e = ge 4 b ∧ (ge 4 b = 0 → GOk g (gk 4) (gr 4 b) ∧ GAt wb (fun i => w.heap.size ≤ i) g ∧ (g.f.A = none → g.f.c = 0) ∧ g.f.b.length ≤ g.f.c) from ⟨hge, hg0⟩)
      have HGR := Lib.hid hg2
      have HT2 := Lib.hid t2
      have HTB2 := Lib.hid (show Turn (fun _ => False) wb w2 by rw [hw2]; exact t1.trans (((Turn.refl (fun _ => False) _).alloc _).setRow _ _ (fun h => by omega)) (fun _ _ h => h))
      change Code.wp _ _ _ _ ((w1.alloc (.cells Z37 75)).setRow w1.heap.size C)
      rw [← hw2]
      have HQ := Lib.hid (show wr.heap.size ≤ w1.heap.size from Nat.le_trans TB.out.size t1.size)
      have HQ2 := Lib.hid (show w1.heap.size < w2.heap.size from lt_of_block hg2)
      clear hw2 t1 t2 hg2 hge hgx hg0 sC oC a1 a2 a35 a36 hd H1 H2 H3 HAG
      generalize w1.heap.size = Q at *
      by_cases hz : ge 4 b = 0
      ·
        have hzz : ((g.e : Int) != 0) = false := by rw [HG.out.1, hz]; rfl
        obtain ⟨ok, at', -, -⟩ := HG.out.2 hz
        have HLV := Lib.hid (show g.l = gr (4 + 1) b from ok.l)
        have HSV := Lib.hid (show SlN w2 (fun i => w.heap.size ≤ i) g.A (g.l.map bv) from at'.s.turn HTB2.out (fun _ h => h.elim) (fun _ _ h => h))
        have HAV := Lib.hid (And.intro at'.a at'.c)
        have HZ0 := Lib.hid hz
        have GH2 := HGH.out.turn HT2.out (fun h => h)
        have GH2' := Lib.hid GH2
        obtain ⟨e0, e1, e2⟩ := GH2.c
        have hx32 : 32 ≤ (gr 4 b).length := by
          have hz' : (if (gr 4 b).length < 32 then 2 else 0) = 0 := hz
          split at hz' <;> omega
        have hdv : g.f.d = (gr 4 b).take 32 := ok.d
        have hrowQ := g.atR C HCC.out HD.out HGR.out
        obtain ⟨DA, hDA⟩ : ∃ DA, DA = (g.f.d.map bv).toArray := ⟨_, rfl⟩
        rw [← hDA] at hrowQ
        have sD : DA.size = 32 := by rw [hDA]; simp [HD.out]
        have Q1 := Lib.hid (show (Tryz.prog.info? 24).map (·.size) = some DA.size by rw [sD]; exact id_info)
        have Q3 := Lib.hid (show DA.all (·.oneCell') = true by rw [hDA]; exact all_oneCell_toArray (bv_one _))
        have HDA := Lib.hid hDA
        have HDV := Lib.hid hdv
        have HX32 := Lib.hid hx32
        have TH := Lib.hid (show w2.there (w.heap.size + 1) 35 DA.size by
          rw [sD]
          exact fun j hj => by
            have hg : w2.heap[w.heap.size + 1]? = some (.cells (gh 4 b).cells.toArray 33 (0, 0)) := GH2'.out
            refine ⟨?_, frozen_of_row w2 (w.heap.size + 1) (35 + j) _ _ hg⟩
            rw [cell_of_row w2 (w.heap.size + 1) (35 + j) _ _ _ hg, List.getElem?_toArray]
            exact Option.isSome_iff_exists.2 ⟨_, List.getElem?_eq_getElem (by rw [Hdr.len _ HGL.out]; omega)⟩)
        clear HG hz ok at' GH2 hDA sD hdv hx32
        go_wp2_with (refine wpList_store_mid rfl _ _ _ rfl (w.heap.size + 1) 35 DA rfl rfl TH.out Q1.out Q3.out ?_)
        obtain ⟨h5, t5⟩ := GH2'.out.setR HGL.out g.f.d HD.out
        rw [show g.f.d.map bv = DA.toList by rw [HDA.out]] at h5 t5
        have H5 := Lib.hid h5
        have T5 := Lib.hid t5
        clear h5 t5 e0 e1 e2 d1 d35 d36 hrowQ
        go_roundw
        case rel => exact ⟨4 + 1, _, _, _, by omega, by go_num, rfl, by rw [HLV.out], (fun j hj => by rcases (show j < 4 ∨ j = 4 by omega) with h | rfl; exact HH.out.1 j h; exact HZ0.out), by rw [← HLV.out]; exact HSV.out.turn T5.out (fun i h => by rw [h]; show w.heap.size ≤ _; omega) (fun _ _ h => h), HAV.out.1, HAV.out.2, T5.out.heap (HT2.out.heap HG0.out (fun h => h)) (by omega), (by rw [show gh (4 + 1) b = { gh 4 b with r := (gr 4 b).take 32 } from rfl, ← HDV.out]; exact H5.out), ⟨HGL.out.1, by show ((gr 4 b).take 32).length = 32; rw [List.length_take]; have := HX32.out; omega⟩, T5.out.heap (HT2.out.heap HG2.out (fun h => h)) (by omega), Nat.le_trans (Nat.le_trans HSZR.out HT2.out.size) T5.out.size, (HTR.out.trans HT2.out (fun _ _ h => h)).trans T5.out (fun i hi h => by omega)⟩
        case measure => simp [intOf]
      ·
        have hzz : ((g.e : Int) != 0) = true := by rw [HG.out.1]; simp; omega
        have HR := Lib.hid (hreadE_first (by omega) HH.out.1 hz)
        have HGE := Lib.hid HG.out.1
        have G0' := Lib.hid (HT2.out.heap HG0.out (fun h => h))
        have T02 := Lib.hid (HTR.out.trans HT2.out (fun _ _ h => h))
        clear hz HG d1 d36
        go_upto_region 11 with fail
        refine wp_region_rel 77 (StH w.heap.size) [.one ?_, .one ?_, .one ?_, .rel (fun _ _ => True), .one ?_] (by kernel_rfl) (by kernel_rfl) rfl (by kernel_rfl) (StH.refl _) (StH.trans _) ⟨fun _ _ _ _ _ => trivial, trivial⟩ ?main
        case main =>
        iterate 2
          refine wpR_one (A' := ?_) (StH.refl _) (by rfl) _ rfl 77 (by rfl) (by rfl) ?_ ?_ ?_
          rotate_left 1
          · simp only [Act.put, List.setIfInBounds_toArray, List.set_cons_zero, List.set_cons_succ]; rfl
          · intro w1 hs hf K hK
            go_big_quiet_op
            first
              | go_big_quiet_on
              | (refine ⟨_, fun _ _ => rfl, ?_⟩; go_big_quiet_on)
            rfl
        refine wpR_one (A' := ?_) (StH.refl _) (by rfl) _ rfl 77 (by rfl) (by rfl) ?_ ?_ ?_
        rotate_left 1
        · simp only [Act.put, List.setIfInBounds_toArray, List.set_cons_zero, List.set_cons_succ]; rfl
        · intro w1 hs hf K hK
          refine cls_load_cell 3 (.tmp 29) rfl ⟨Q, 35, none⟩ rfl (.int .i64 (g.e : Int)) (fun w h => by simp [go_sem, h]) (fun w4 h2 => (StH.trans _ _ _ _ hs h2).1.cell (show w2.drew.cell? _ = _ from d35) (by have := HSZR.out; have := HQ.out; show Q ≠ w.heap.size; omega)) ?_
          refine hK _ ?_
          simp only [Act.put, List.setIfInBounds_toArray, List.set_cons_zero, List.set_cons_succ]
          rfl
        refine wpR_rel (A' := ?_) (by rfl) ?_ ?_ ?_
        · intro w1 hs hf
          exact does_store_noneH _ _ rfl rfl Z67H rfl rfl (hs.2 G0'.out)
        rotate_left 1
        · intro x
          simp only [Act.put, List.setIfInBounds_toArray, List.set_cons_zero, List.set_cons_succ]; rfl
        intro x32
        iterate 1
          refine wpR_one (A' := ?_) (StH.refl _) (by rfl) _ rfl 77 (by rfl) (by rfl) ?_ ?_ ?_
          rotate_left 1
          · simp only [Act.put, List.setIfInBounds_toArray, List.set_cons_zero, List.set_cons_succ]; rfl
          · intro w1 hs hf K hK
            go_big_quiet_op
            first
              | go_big_quiet_on
              | (refine ⟨_, fun _ _ => rfl, ?_⟩; go_big_quiet_on)
            rfl
        intro w5 hs1 hf
        have h3 := hs1.2 G0'.out
        have T6 := T02.out.trans ((Turn.refl _ _).drew.trans hs1.1 (fun _ _ h => h)) (fun i hi h => by omega)
        have H3 := Lib.hid h3
        have T6' := Lib.hid T6
        clear hs1 hf h3 T6
        go_wp2_with fail
        refine bodyPost_ret (v := .tuple #[.agg Z67H, .int .i64 (g.e : Int)]) ?_ rfl ⟨by rw [HR.out.1, HR.out.2, HGE.out]; rfl, T6'.out⟩
        exact results_hd Tryz.results32 _ _ w.heap.size _ _ rfl rfl H3.out rfl
    ·
      subst hk_
      have hE := hreadE_end h0
      rw [show gr 5 b = m5 b from rfl] at hn'
      obtain ⟨e0, e1, e2⟩ := gH.c
      rw [show (gh 5 b).t = (numV (m1 b) : Int) from rfl] at e1
      obtain ⟨CN, hCN⟩ : ∃ CN, CN = (bodH b).cells.toArray := ⟨_, rfl⟩
      have hrow := gH.row gL
      rw [show (gh 5 b).cells.toArray = (bodH b).cells.toArray from rfl, ← hCN] at hrow
      have sN : CN.size = 67 := by rw [hCN, List.size_toArray, Hdr.len _ (show (bodH b).L from gL)]
      have N1 := Lib.hid (show (Tryz.prog.info? 33).map (·.size) = some CN.size by rw [sN]; exact hd_info)
      have N2 := Lib.hid (show Z67H.size = CN.size by rw [sN]; rfl)
      have N3 := Lib.hid (show CN.all (·.oneCell') = true by rw [hCN]; exact Hdr.one _)
      have HSN := Lib.hid sN
      have HCN := Lib.hid hCN
      have HG0 := Lib.hid g0
      have HTR := Lib.hid ht
      obtain ⟨xT, hxT⟩ : ∃ x, x = numV (m1 b) := ⟨_, rfl⟩
      rw [← hxT] at e1 hE
      clear hxT hCN sN h0 hs hA hc g0 gH gL g2 hsz ht hk
      by_cases hl : m5 b = []
      · have hn0 : n' = 0 := by rw [hn', hl]; rfl
        subst hn0
        by_cases hk0 : xT = 0
        · subst hk0
          have HR := Lib.hid (hE.1 (.inr rfl))
          clear hE hl hn' hrow
          go_wp2_with (refine wpList_store_row rfl _ _ _ rfl w.heap.size CZ rfl (by rw [HCZ.out]; rfl) 33 Z67H HG0.out K1.out K2.out K3.out ?_)
          have h3 := setRow_heap wr w.heap.size Z67H CZ 33 (0, 0) HG0.out
          have t6 : Turn (fun i => i = w.heap.size) wr (wr.setRow w.heap.size CZ) := (Turn.refl _ _).setRow _ _ (fun _ => rfl)
          refine bodyPost_ret (v := .tuple #[.agg CZ, .int .i64 3]) ?_ rfl ⟨by rw [HR.out.1, HR.out.2, HCZ.out]; rfl, HTR.out.trans t6 (fun i hi h => by omega)⟩
          exact results_hd Tryz.results32 _ _ w.heap.size _ _ rfl rfl h3 HSZ.out
        · have HR := Lib.hid (hE.2 hl hk0)
          have hkz : ((xT : Int) == 0) = false := by simp; omega
          clear hE hl hn' hk0
          go_wp2_with (refine wpList_store_row rfl _ _ _ rfl w.heap.size CN rfl rfl 33 Z67H HG0.out N1.out N2.out N3.out ?_)
          have h3 := setRow_heap wr w.heap.size Z67H CN 33 (0, 0) HG0.out
          have t6 : Turn (fun i => i = w.heap.size) wr (wr.setRow w.heap.size CN) := (Turn.refl _ _).setRow _ _ (fun _ => rfl)
          refine bodyPost_ret (v := .tuple #[.agg CN, .int .i64 0]) ?_ rfl ⟨by rw [HR.out.1, HR.out.2, HCN.out]; rfl, HTR.out.trans t6 (fun i hi h => by omega)⟩
          exact results_hd Tryz.results32 _ _ w.heap.size _ _ rfl rfl h3 HSN.out
      · have HR := Lib.hid (hE.1 (.inl hl))
        have hnp : 0 < n' := by rw [hn']; exact List.length_pos_iff.2 hl
        have tn : decide (0 < (n' : Int)) = true := by rw [decide_eq_true_eq]; omega
        have tn2 : decide (0 < n') = true := by rw [decide_eq_true_eq]; omega
        clear hE hl hn' hnp hrow e1
        go_wp2_with (refine wpList_store_row rfl _ _ _ rfl w.heap.size CZ rfl (by rw [HCZ.out]; rfl) 33 Z67H HG0.out K1.out K2.out K3.out ?_)
        have h3 := setRow_heap wr w.heap.size Z67H CZ 33 (0, 0) HG0.out
        have t6 : Turn (fun i => i = w.heap.size) wr (wr.setRow w.heap.size CZ) := (Turn.refl _ _).setRow _ _ (fun _ => rfl)
        refine bodyPost_ret (v := .tuple #[.agg CZ, .int .i64 3]) ?_ rfl ⟨by rw [HR.out.1, HR.out.2, HCZ.out]; rfl, HTR.out.trans t6 (fun i hi h => by omega)⟩
        exact results_hd Tryz.results32 _ _ w.heap.size _ _ rfl rfl h3 HSZ.out

end
section
set_option linter.unusedVariables false
set_option linter.unusedSimpArgs false

open Go.RowKit Go.ChangeShapes Go.WideShapes Go.ChangeAt
section
variable {H : Type} {enc : TypeId × Value → H} {W : World} {fuel : Nat} {x : DataW H × List MemPlace}
set_option maxRecDepth 100000 in
theorem trod_entry {cs : List Value} (h : DataW.trod enc Tryz.prog W 0 (fun _ => true) true fuel 27 cs = some x) : ∃ e : Ent, cs = e.cells ∧ e.d.length = 32 := by
  obtain ⟨xs, m, -, -, hl, hxl, hall⟩ := DataW.trod_struct Tryz.underlying27 h
  rw [show Tryz.prog.cellsOf 27 = 37 by kernel_rfl] at hl
  have hx6 : xs.length = 6 := hxl
  have g0 : xs[0]? = some xs[0] := List.getElem?_eq_getElem (by omega)
  have g1 : xs[1]? = some xs[1] := List.getElem?_eq_getElem (by omega)
  have g2 : xs[2]? = some xs[2] := List.getElem?_eq_getElem (by omega)
  have g3 : xs[3]? = some xs[3] := List.getElem?_eq_getElem (by omega)
  have g4 : xs[4]? = some xs[4] := List.getElem?_eq_getElem (by omega)
  have g5 : xs[5]? = some xs[5] := List.getElem?_eq_getElem (by omega)
  have h0 : DataW.trod enc Tryz.prog W 0 (fun _ => true) true m 3 ((cs.drop 0).take (Tryz.prog.cellsOf 3)) = some xs[0] := (hall 0 _ rfl).trans g0
  have h1 : DataW.trod enc Tryz.prog W 0 (fun _ => true) true m 3 ((cs.drop 1).take (Tryz.prog.cellsOf 3)) = some xs[1] := (hall 1 _ rfl).trans g1
  have h2 : DataW.trod enc Tryz.prog W 0 (fun _ => true) true m 24 ((cs.drop 2).take (Tryz.prog.cellsOf 24)) = some xs[2] := (hall 2 _ rfl).trans g2
  have h3 : DataW.trod enc Tryz.prog W 0 (fun _ => true) true m 25 ((cs.drop 34).take (Tryz.prog.cellsOf 25)) = some xs[3] := (hall 3 _ rfl).trans g3
  have h4 : DataW.trod enc Tryz.prog W 0 (fun _ => true) true m 3 ((cs.drop 35).take (Tryz.prog.cellsOf 3)) = some xs[4] := (hall 4 _ rfl).trans g4
  have h5 : DataW.trod enc Tryz.prog W 0 (fun _ => true) true m 3 ((cs.drop 36).take (Tryz.prog.cellsOf 3)) = some xs[5] := (hall 5 _ rfl).trans g5
  rw [show Tryz.prog.cellsOf 3 = 1 by kernel_rfl] at h0 h1 h4 h5
  rw [show Tryz.prog.cellsOf 25 = 1 by kernel_rfl] at h3
  rw [show Tryz.prog.cellsOf 24 = 32 by kernel_rfl] at h2
  obtain ⟨k, e0, -, w0⟩ := DataW.trod_int Tryz.underlying3 h0
  obtain ⟨s, e1, -, w1⟩ := DataW.trod_int Tryz.underlying3 h1
  obtain ⟨d, hd, e2⟩ := trod_id h2
  obtain ⟨a, e3, -, w3⟩ := DataW.trod_int Tryz.underlying25 h3
  obtain ⟨y, e4, -, w4⟩ := DataW.trod_int Tryz.underlying3 h4
  obtain ⟨p, e5, -, w5⟩ := DataW.trod_int Tryz.underlying3 h5
  have b3 := bounds_u64 w3
  refine ⟨⟨k, s, d, a.toNat, y, p⟩, ?_, hd⟩
  have e : cs = (cs.drop 0).take 1 ++ ((cs.drop 1).take 1 ++ ((cs.drop 2).take 32 ++ ((cs.drop 34).take 1 ++ ((cs.drop 35).take 1 ++ (cs.drop 36).take 1)))) := by
    rw [List.take_of_length_le (l := cs.drop 36) (by simp; omega)]
    rw [show cs.drop 36 = (cs.drop 35).drop 1 by simp, List.take_append_drop, show cs.drop 35 = (cs.drop 34).drop 1 by simp, List.take_append_drop, show cs.drop 34 = (cs.drop 2).drop 32 by simp, List.take_append_drop, show cs.drop 2 = (cs.drop 1).drop 1 by simp, List.take_append_drop, show cs.drop 1 = (cs.drop 0).drop 1 by simp, List.take_append_drop]
    simp
  rw [e, e0, e1, e2, e3, e4, e5]
  simp [Ent.cells, Int.toNat_of_nonneg b3.1]
end
set_option maxRecDepth 100000 in
theorem open_entry {H : Type} {enc : TypeId × Value → H} {W : World} {r : Reach} {b0 : Nat} {v : Value} {d : DataW H} {p : List MemPlace} (hval : Value.okWide Tryz.prog W r b0 27 v) (hd : DataW.Trod enc Tryz.prog W 0 (fun _ => true) true 27 v d p) :
    ∃ e : Ent, v = .agg e.cells.toArray ∧ e.d.length = 32 := by
  have hv : ∃ cs, v = .agg cs := by
    simp only [Value.okWide, Tryz.underlying27] at hval
    obtain ⟨cs, h1, _⟩ := hval
    exact ⟨cs, h1⟩
  obtain ⟨ca, rfl⟩ := hv
  obtain ⟨fuel, hf⟩ := hd
  obtain ⟨e, he, hl⟩ := trod_entry hf
  refine ⟨e, ?_, hl⟩
  have hca : ca = ((Value.agg ca).cells.toList).toArray := by simp [Value.cells]
  rw [hca, he]

end
end
end Go.Proofs.YthoaaieiiokcmaaGreatDoor
