/- The landed drum in memory: its sectors, what waits; loads of sectors and of writes as one rule; land. -/
import Derived.Test.YtodeblffnbbcaaaLdB
import Derived.Laws.ResultCell
import Derived.Laws.Rows
import Derived.Deep.WholeRow
set_option linter.unusedVariables false
set_option linter.unusedSimpArgs false
namespace Go.Proofs.Ytodeblffnbbcaaa
open Go.RowKit
/-- A load of a sector, of a write, behind a name that the walk does not open. -/
def secLoad (v : Value) : Sem Value := Instr.loadAt 60 v
def wrLoad (v : Value) : Sem Value := Instr.loadAt 62 v
set_option maxRecDepth 100000 in
theorem loadAt_sec (v : Value) : Instr.loadAt 60 v = secLoad v := rfl
set_option maxRecDepth 100000 in
theorem loadAt_wr (v : Value) : Instr.loadAt 62 v = wrLoad v := rfl
set_option maxRecDepth 100000 in
theorem run_secLoad (w : World) (b o : Nat) : (secLoad (.pointer (some ⟨b, o, none⟩))).run Try.prog w = (match rowOf w b o 64 with | some C => .ok (.agg C) w | none => loadRest Try.prog 60 b o w) := by
  unfold secLoad
  cases h : rowOf w b o 64 with
  | none => rfl
  | some C =>
    obtain ⟨hs, hr⟩ := rowOf_some h
    have := run_loadAt_mid w b o 60 C.toList _ hr Try.underlying60 rfl (by rw [Array.length_toList, hs]; kernel_rfl)
    simpa using this
set_option maxRecDepth 100000 in
theorem run_wrLoad (w : World) (b o : Nat) : (wrLoad (.pointer (some ⟨b, o, none⟩))).run Try.prog w = (match rowOf w b o 65 with | some C => .ok (.agg C) w | none => loadRest Try.prog 62 b o w) := by
  unfold wrLoad
  cases h : rowOf w b o 65 with
  | none => rfl
  | some C =>
    obtain ⟨hs, hr⟩ := rowOf_some h
    have := run_loadAt_mid w b o 62 C.toList _ hr Try.underlying62 rfl (by rw [Array.length_toList, hs]; kernel_rfl)
    simpa using this
def ZSec : Array Value := ((zeros 64).map bv).toArray
def ZWr : Array Value := (.int .i64 0 :: (zeros 64).map bv : List Value).toArray
set_option maxRecDepth 100000 in
theorem zero_sec (w : World) : (zeroValue 60).run Try.prog w = .ok (.agg ZSec) w := by kernel_rfl
set_option maxRecDepth 100000 in
theorem zero_wr (w : World) : (zeroValue 62).run Try.prog w = .ok (.agg ZWr) w := by kernel_rfl
theorem ZSec_size : ZSec.size = 64 := by simp [ZSec, zeros]
theorem ZWr_size : ZWr.size = 65 := by simp [ZWr, zeros]
/-- The cells of sectors, of what waits. -/
def secsV (L : List Sec) : List Value := L.flatMap fun s => s.map bv
def wtV (x : Nat × Sec) : List Value := .int .i64 (x.1 : Int) :: x.2.map bv
def wtsV (W : List (Nat × Sec)) : List Value := W.flatMap wtV
theorem secsV_len (L : List Sec) (h : ∀ s ∈ L, s.length = 64) : (secsV L).length = L.length * 64 := by
  induction L with
  | nil => rfl
  | cons s L ih =>
    have h1 := h s (List.mem_cons_self ..)
    have h2 := ih fun x hx => h x (List.mem_cons_of_mem _ hx)
    simp only [secsV, List.flatMap_cons, List.length_append, List.length_map, List.length_cons] at *
    omega
theorem wtsV_len (W : List (Nat × Sec)) (h : ∀ x ∈ W, x.2.length = 64) : (wtsV W).length = W.length * 65 := by
  induction W with
  | nil => rfl
  | cons s L ih =>
    have h1 := h s (List.mem_cons_self ..)
    have h2 := ih fun x hx => h x (List.mem_cons_of_mem _ hx)
    simp only [wtsV, List.flatMap_cons, List.length_append, wtV, List.length_map, List.length_cons] at *
    omega
theorem secsV_split (L : List Sec) (k : Nat) (hk : k < L.length) : secsV L = secsV (L.take k) ++ (L[k].map bv ++ secsV (L.drop (k + 1))) := by
  have e : L = L.take k ++ (L[k] :: L.drop (k + 1)) := by rw [← List.drop_eq_getElem_cons hk, List.take_append_drop]
  refine (congrArg secsV e).trans ?_
  simp only [secsV, List.flatMap_append, List.flatMap_cons]
theorem secsV_set (L : List Sec) (k : Nat) (hk : k < L.length) (s : Sec) : secsV (L.set k s) = secsV (L.take k) ++ (s.map bv ++ secsV (L.drop (k + 1))) := by
  rw [List.set_eq_take_append_cons_drop, if_pos hk]
  simp only [secsV, List.flatMap_append, List.flatMap_cons]
theorem wtsV_split (W : List (Nat × Sec)) (k : Nat) (hk : k < W.length) : wtsV W = wtsV (W.take k) ++ (wtV W[k] ++ wtsV (W.drop (k + 1))) := by
  have e : W = W.take k ++ (W[k] :: W.drop (k + 1)) := by rw [← List.drop_eq_getElem_cons hk, List.take_append_drop]
  refine (congrArg wtsV e).trans ?_
  simp only [wtsV, List.flatMap_append, List.flatMap_cons]
/-- A row of one's own: a slice, and its block. -/
theorem own_block {w : World} {base s n : Nat} {e : TypeId} {v : Value} {xs : List Value} (h : w.ownsRow base e s v n xs) : ∃ A c, v = .slice A n c ∧ (0 < n → ∃ g Z, A = some ⟨g, 0, none⟩ ∧ v.ownBlock = some g ∧ w.heap[g]? = some (.cells (xs ++ Z).toArray e (0, 0)) ∧ n ≤ c ∧ c ≤ maxLen ∧ (xs ++ Z).length = c * s) := by
  obtain ⟨h1, h2⟩ := h
  rcases h2 with ⟨rfl, rfl⟩ | ⟨g, cap, cur, rfl, hg, hh, hn, hcap, hsz, ht⟩
  · exact ⟨none, 0, rfl, fun h => absurd h (by omega)⟩
  · refine ⟨_, cap, rfl, fun _ => ⟨g, cur.toList.drop (n * s), rfl, rfl, ?_, hn, hcap, ?_⟩⟩
    · rw [← ht, List.take_append_drop, Array.toArray_toList]; exact hh
    · rw [← ht, List.take_append_drop, Array.length_toList]; exact hsz
theorem own_back {w : World} {s n c g : Nat} {e : TypeId} {xs Z : List Value} (hl : xs.length = n * s) (hh : w.heap[g]? = some (.cells (xs ++ Z).toArray e (0, 0))) (hn : n ≤ c) (hc : c ≤ maxLen) (hs : (xs ++ Z).length = c * s) : w.ownsRow 0 e s (.slice (some ⟨g, 0, none⟩) n c) n xs :=
  ⟨hl, .inr ⟨g, c, _, rfl, Nat.zero_le _, hh, hn, hc, by simpa using hs, by simp only [List.toList_toArray]; rw [← hl]; exact List.take_left⟩⟩
/-- A row is stored over a new block. -/
theorem run_store_new (w : World) (C Z : Array Value) (ty : TypeId) (hs : C.size = Z.size) (h1 : C.all (·.oneCell') = true) : (storeCells ⟨w.heap.size, 0, none⟩ C.toList).run Try.prog (w.alloc (.cells Z ty)) = .ok () (w.alloc (.cells C ty)) := by
  rw [run_storeCells_at Try.prog w.heap.size 0 ty C.toList 0 Z _ (heap_alloc_new w _) (by simp; omega) (by
    intro v hv
    rw [Array.all_eq_true_iff_forall_mem] at h1
    exact h1 v (by simpa using hv))]
  rw [World.setRow_alloc_new]
  congr 3
  apply Array.ext'
  simp only [Nat.zero_add, List.take_zero, List.nil_append]
  rw [List.drop_of_length_le (by simp; omega), List.append_nil]
/-- The landed drum at g, its blocks D. -/
structure LMem (w : World) (g : Nat) (Sv Wv : Value) (d : Dr) (n : Nat) (D : Nat → Prop) : Prop where
  box : ∃ f, LBox w g Sv Wv f d.off ∧ f < 9223372036854775808 ∧ (d.off = false → f = d.fuse)
  ok : d.Ok n
  small : n ≤ 10000
  rowL : w.ownsRow 0 60 64 Sv n (secsV d.L)
  rowW : w.ownsRow 0 62 65 Wv d.W.length (wtsV d.W)
  few : d.W.length ≤ 10000
  neL : Sv.ownBlock ≠ some g
  neW : Wv.ownBlock ≠ some g
  ne : ∀ k, Sv.ownBlock = some k → Wv.ownBlock ≠ some k
  ownG : D g
  ownL : ∀ k, Sv.ownBlock = some k → D k
  ownW : ∀ k, Wv.ownBlock = some k → D k
  lt : ∀ k, D k → k < w.heap.size
/-- What turns none of its blocks leaves it. -/
theorem LMem.keep {w w' : World} {g n : Nat} {Sv Wv : Value} {d : Dr} {D S : Nat → Prop} (h : LMem w g Sv Wv d n D) (t : Turn S w w') (hS : ∀ k, D k → ¬ S k) : LMem w' g Sv Wv d n D where
  box := by obtain ⟨f, h1, h2⟩ := h.box; exact ⟨f, h1.turn t (hS _ h.ownG), h2⟩
  ok := h.ok
  small := h.small
  rowL := own_turn t h.rowL fun k hk => hS k (h.ownL k hk)
  rowW := own_turn t h.rowW fun k hk => hS k (h.ownW k hk)
  few := h.few
  neL := h.neL
  neW := h.neW
  ne := h.ne
  ownG := h.ownG
  ownL := h.ownL
  ownW := h.ownW
  lt := fun k hk => Nat.lt_of_lt_of_le (h.lt k hk) t.size
attribute [local go_sem ↓] loadAt_sec loadAt_wr
attribute [local go_sem] zero_sec zero_wr ZSec_size ZWr_size run_secLoad run_wrLoad rowOf_drew rowOf_drewN
set_option maxHeartbeats 1000000 in
set_option maxRecDepth 100000 in
theorem land_any (g n : Nat) (Sv Wv : Value) (d : Dr) (D : Nat → Prop) (Am : Option Addr) (cm : Nat) (M : List B8) (w : World) (h : LMem w g Sv Wv d n D) (hM : SlN w D Am (M.map bv)) (hMl : M.length ≤ maxLen) :
    Calls Try.prog 28 #[.pointer (some ⟨g, 0, none⟩), .slice Am M.length cm] w fun r w' => (∃ v, r = .returned v) ∧ LMem w' g Sv (.slice none 0 0) (d.land M) n D ∧ Turn D w w' := by
  obtain ⟨f, hbox, hf, hfo⟩ := h.box
  obtain ⟨c0, c1, c2, c3, z0, z1, z2, z3⟩ := hbox.cells
  obtain ⟨AL, cL, eL, kL⟩ := own_block h.rowL
  obtain ⟨AW, cW, eW, kW⟩ := own_block h.rowW
  have HH := Lib.hid h
  have hfew := h.few
  have HB := Lib.hid hbox
  have HM := Lib.hid hM
  rw [eL] at c0
  rw [eW] at c1
  clear h hbox hM
  go_enter Try.func28, Try.ntmps28
  go_wp2
  go_loopw [12] (fun i wr => ∃ j : Nat, j ≤ d.W.length ∧ i = .int .i64 j ∧ wr.ownsRow 0 60 64 Sv n (secsV (landL d.L (d.W.take j) M)) ∧ Turn (fun k => Sv.ownBlock = some k) w wr) (fun i _ => d.W.length - (intOf i).toNat)
  case atStart => exact ⟨0, Nat.zero_le _, rfl, by rw [List.take_zero]; exact HH.out.rowL, Turn.refl _ _⟩
  case round =>
    obtain ⟨j, hj, rfl, hr, ht⟩ := hrel
    have R1 := Lib.hid hr
    have T1 := Lib.hid ht
    clear hr ht
    by_cases hlt : j < d.W.length
    · obtain ⟨gW, ZW, rfl, eoW, hhW, hnW, hcW, hsW⟩ := kW (by omega)
      have hwl : ∀ x ∈ d.W, x.2.length = 64 := fun x hx => (HH.out.ok.wait x hx).2
      obtain ⟨hat, h64⟩ := HH.out.ok.wait d.W[j] (List.getElem_mem _)
      have hgW : gW ≠ g := fun e => HH.out.neW (by rw [eoW, e])
      have hgS : ¬ Sv.ownBlock = some gW := fun e => HH.out.ne gW e eoW
      have hhW2 := T1.out.heap hhW hgS
      have hrow : rowOf wr gW (j * 65) 65 = some (wtV d.W[j]).toArray := by
        have hlen := wtsV_len d.W hwl
        rw [rowOf_block hhW2 (j * 65) 65 (by rw [List.length_append, hlen]; omega), wtsV_split d.W j hlt, List.append_assoc]
        have h1 : (wtsV (d.W.take j)).length = j * 65 := by rw [wtsV_len _ fun x hx => hwl x (List.mem_of_mem_take hx), List.length_take, Nat.min_eq_left hj]
        have h2 : (wtV d.W[j]).length = 65 := by simp [wtV, h64]
        rw [← h1, List.drop_left, List.append_assoc, ← h2, List.take_left]
      obtain ⟨C, hC⟩ : ∃ C, C = (wtV d.W[j]).toArray := ⟨_, rfl⟩
      rw [← hC] at hrow
      have hCs : C.size = 65 := by rw [hC]; simp [wtV, h64]
      have hC1 : C.all (·.oneCell') = true := by
        rw [hC, Array.all_eq_true_iff_forall_mem]
        intro u hu
        simp only [wtV, List.mem_toArray, List.mem_cons] at hu
        rcases hu with rfl | hu
        · rfl
        · exact bv_one _ _ hu
      have HC := Lib.hid hC
      have HW2 := Lib.hid hhW2
      have hst := run_store_new wr C ZWr 62 (by rw [hCs, ZWr_size]) hC1
      obtain ⟨gS, ZS, rfl, eoS, -, -, -, -⟩ := kL (by omega)
      have hnx : gS ≠ g := fun e => HH.out.neL (by rw [eoS, e])
      obtain ⟨w5, hw5⟩ : ∃ w5, w5 = wr.alloc (.cells C 62) := ⟨_, rfl⟩
      have t5 : Turn (fun _ => False) wr w5 := by rw [hw5]; exact (Turn.refl _ wr).alloc _
      have hn5 : w5.heap[wr.heap.size]? = some (.cells (wtV d.W[j]).toArray 62 (0, 0)) := by rw [hw5, ← hC]; exact heap_alloc_new wr _
      have d0 : w5.cell? ⟨g, 0, none⟩ = some (.slice (some ⟨gS, 0, none⟩) n cL) := t5.cell (T1.out.cell c0 HH.out.neL) (fun h => h)
      have r5 : rowOf w5 wr.heap.size 1 64 = some (d.W[j].2.map bv).toArray := by
        rw [rowOf_block hn5 1 64 (by simp [wtV, h64])]
        simp only [wtV, List.drop_succ_cons, List.drop_zero]
        rw [List.take_of_length_le (by simp [h64])]
      have i5 : w5.cell? ⟨wr.heap.size, 0, none⟩ = some (.int .i64 (d.W[j].1 : Int)) := by rw [cell_of_row _ _ _ _ _ _ hn5]; rfl
      have hLl : (landL d.L (d.W.take j) M).length = n := (landL_len _ _ _).trans HH.out.ok.len
      have hLs : ∀ s ∈ landL d.L (d.W.take j) M, s.length = 64 := landL_sec _ _ _ HH.out.ok.sec
      have hland := land_step (L := d.L) (M := M) hlt
      obtain ⟨AL', cL', eL', kL'⟩ := own_block R1.out
      rw [eL] at eL'
      injection eL' with e1 _ e2
      subst e1 e2
      obtain ⟨gS', Z', e1, e2, hS, q1, q2, q3⟩ := kL' (by omega)
      injection e1 with e1
      injection e1 with e1
      subst e1
      have hLO : ∀ mask : B8, Calls Try.prog 30 #[.agg (d.W[j].2.map bv).toArray, .pointer (some ⟨gS, d.W[j].1 * 64, none⟩), .int .u8 (mask.toNat : Int)] w5.drew fun r w' => (∃ v, r = .returned v) ∧
          w'.ownsRow 0 60 64 Sv n (secsV ((landL d.L (d.W.take j) M).set d.W[j].1 (tornS ((landL d.L (d.W.take j) M).getD d.W[j].1 []) d.W[j].2 mask))) ∧ Turn (fun k => Sv.ownBlock = some k) w w' := by
        intro mask
        have hk : d.W[j].1 < (landL d.L (d.W.take j) M).length := by rw [hLl]; exact hat
        have hP : (secsV ((landL d.L (d.W.take j) M).take d.W[j].1)).length = d.W[j].1 * 64 := by
          rw [secsV_len _ fun x hx => hLs x (List.mem_of_mem_take hx), List.length_take, Nat.min_eq_left (by omega)]
        have hb : w5.drew.heap[gS]? = some (.cells (secsV ((landL d.L (d.W.take j) M).take d.W[j].1) ++ ((landL d.L (d.W.take j) M)[d.W[j].1].map bv ++ (secsV ((landL d.L (d.W.take j) M).drop (d.W[j].1 + 1)) ++ Z'))).toArray 60 (0, 0)) := by
          have := t5.heap hS (fun h => h)
          rw [secsV_split _ _ hk] at this
          simpa [List.append_assoc, heap_drew] using this
        have hc := landOn_any gS _ _ _ _ d.W[j].2 mask (d.W[j].2.map bv).toArray w5.drew rfl h64 (hLs _ (List.getElem_mem _)) hb
        rw [hP] at hc
        refine hc.mono ?_
        rintro r w' ⟨hr, hh, ht⟩
        refine ⟨hr, ?_, (((T1.out.trans t5 (fun _ _ h => h.elim)).drew).trans ht (fun i _ h => by rw [h]; exact eoS))⟩
        have hget : (landL d.L (d.W.take j) M).getD d.W[j].1 [] = (landL d.L (d.W.take j) M)[d.W[j].1] := by rw [List.getD_eq_getElem?_getD, List.getElem?_eq_getElem hk]; rfl
        rw [hget, eL]
        refine own_back (Z := Z') ?_ ?_ q1 q2 ?_
        · rw [secsV_len _ fun s hs => (List.mem_or_eq_of_mem_set hs).elim (hLs s) (fun e => by rw [e]; exact tornS_len _ _ _), List.length_set, hLl]
        · rw [hh, secsV_set _ _ hk]; simp [List.append_assoc]
        · rw [List.length_append, secsV_len _ fun s hs => (List.mem_or_eq_of_mem_set hs).elim (hLs s) (fun e => by rw [e]; exact tornS_len _ _ _), List.length_set, hLl]
          rw [List.length_append, secsV_len _ hLs, hLl] at q3
          exact q3
      have LO := Lib.hid hLO
      have HLD := Lib.hid hland
      have HLT := Lib.hid hlt
      have MC := Lib.hid (show ∀ (k : Nat) (u : Value), (M.map bv)[k]? = some u → ∃ a, Am = some a ∧ (wr.alloc (.cells C 62)).cell? (a.add k) = some u from fun k u hu => by
        obtain ⟨a, ha, hmn, hmc⟩ := HM.out k u hu
        refine ⟨a, ha, ?_⟩
        rw [← hw5]
        exact t5.cell (T1.out.cell hmc (fun e => hmn (HH.out.ownL _ (by simpa [add_block] using e)))) (fun h => h))
      clear hLO hLl hLs hland hn5 q1 q2 q3 hS R1 T1 hC HC kL kL' kW eoS e2 hgS hnx
      by_cases hm : j < M.length
      · have hmask : M.getD j 255 = M[j] := by rw [List.getD_eq_getElem?_getD, List.getElem?_eq_getElem hm]; rfl
        have HMK := Lib.hid hmask
        clear hmask
        obtain ⟨am, rfl, hmc⟩ := MC.out j _ (bvs_at M j hm)
        rw [bv] at hmc
        go_upto_region 6 with fail
        rw [← hw5]
        clear hst hw5
        refine wp_region_still_tail 10 (by kernel_rfl) (by kernel_rfl) ?_
        simp only [List.take_succ_cons, List.take_zero, List.drop_succ_cons, List.drop_zero]
        change wpStill _ _ w5.drew (fun a' => wpList _ _ _ _ a' w5.drew) _ _
        repeat still_step
        refine wpStill_nil ?_
        go_wp2_with (go_at_call 30; refine (LO.out M[j]).mono ?_; rintro r w6 ⟨⟨v6, rfl⟩, ho6, ht6⟩; have O6 := Lib.hid ho6; have T6 := Lib.hid ht6; clear ho6 ht6)
        have hlt2 := HLT.out
        refine ⟨⟨j + 1, by omega, by go_num, by rw [HLD.out, HMK.out]; exact O6.out, T6.out⟩, ?_⟩
        simp [intOf]; omega
      · have hmask : M.getD j 255 = 255 := by rw [List.getD_eq_getElem?_getD, List.getElem?_eq_none (by omega)]; rfl
        have HMK := Lib.hid hmask
        clear hmask
        go_upto_region 6 with fail
        rw [← hw5]
        clear hst hw5
        refine wp_region_still_tail 10 (by kernel_rfl) (by kernel_rfl) ?_
        simp only [List.take_succ_cons, List.take_zero, List.drop_succ_cons, List.drop_zero]
        change wpStill _ _ w5.drew (fun a' => wpList _ _ _ _ a' w5.drew) _ _
        repeat still_step
        refine wpStill_nil ?_
        go_wp2_with (go_at_call 30; refine (LO.out 255).mono ?_; rintro r w6 ⟨⟨v6, rfl⟩, ho6, ht6⟩; have O6 := Lib.hid ho6; have T6 := Lib.hid ht6; clear ho6 ht6)
        have hlt2 := HLT.out
        refine ⟨⟨j + 1, by omega, by go_num, by rw [HLD.out, HMK.out]; exact O6.out, T6.out⟩, ?_⟩
        simp [intOf]; omega
    · obtain rfl : j = d.W.length := by omega
      have B2 := HB.out.turn T1.out HH.out.neL
      obtain ⟨-, x1, -, -, -, y1, -, -⟩ := B2.cells
      have T0 := T1
      have HB2 := Lib.hid B2
      clear B2
      go_wp2
      go_end0
      rw [List.take_length] at R1
      have t2 : Turn (fun k => k = g) wr (wr.setCell ⟨g, 1, none⟩ (.slice none 0 0)) := (Turn.refl _ wr).setCell _ _ (fun _ => rfl)
      refine ⟨⟨_, rfl⟩, ⟨⟨f, HB2.out.setW _, hf, hfo⟩, HH.out.ok.land M, HH.out.small, own_turn t2 R1.out (fun k hk e => HH.out.neL (by rw [hk, e])), ⟨rfl, .inl ⟨rfl, rfl⟩⟩, by simp [Dr.land], HH.out.neL, (fun e => by cases e), (fun k _ e => by cases e), HH.out.ownG, HH.out.ownL, (fun k e => by cases e), fun k hk => Nat.lt_of_lt_of_le (HH.out.lt k hk) (Nat.le_trans T1.out.size t2.size)⟩, ?_⟩
      exact (T1.out.mono (fun i _ h => HH.out.ownL i h)).trans t2 (fun i _ h => by rw [h]; exact HH.out.ownG)
end Go.Proofs.Ytodeblffnbbcaaa
