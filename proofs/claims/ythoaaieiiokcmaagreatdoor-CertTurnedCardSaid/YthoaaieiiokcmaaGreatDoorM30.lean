/- Merged: The document's 'Read' of certificates. -/
import Derived.Test.YthoaaieiiokcmaaGreatDoorM25
import Derived.Test.YthoaaieiiokcmaaGreatDoorM29
namespace Go.Proofs.YthoaaieiiokcmaaGreatDoor
section
set_option linter.unusedVariables false
set_option linter.unusedSimpArgs false
open Go.RowKit
attribute [local go_sem ↓] loadAt_cr loadAt_hd loadAt_en loadAt_id loadAt_fd
attribute [local go_sem] run_crLoad run_hdLoad run_enLoad run_idLoad run_fdLoad rowOf_drew rowOf_drewN
/-- A field that is asked for. -/
def tF (k : Int) (n : Nat) : Fd := ⟨k, n, none, 0, [], zeros 32⟩
theorem tF_cells (k : Int) (n : Nat) : (tF k n).cells.toArray = FL k n := rfl
def rr1 (b : List B8) : List B8 := sL (tF 1 100) b
def rr2 (b : List B8) : List B8 := sL (tF 0 32) (rr1 b)
def rrN (b : List B8) : Nat := numV (rr1 b)
def rr3 (b : List B8) : List B8 := (rr2 b).drop (32 * rrN b)
def rr4 (b : List B8) : List B8 := sL (tF 1 100) (rr3 b)
def rr5 (b : List B8) : List B8 := (rr4 b).drop 32
def rrE (b : List B8) : List B8 := sB (tF 1 100) b
def rrH (b : List B8) : List B8 := sB (tF 1 100) (rr3 b)
def rrI (b : List B8) (k : Nat) : List (List B8) := (List.range k).map fun i => ((rr2 b).drop (32 * i)).take 32
/-- The error of reading a certificate. -/
def readCE (b : List B8) : Nat :=
  if sE (tF 1 100) b ≠ 0 then sE (tF 1 100) b else if sE (tF 0 32) (rr1 b) ≠ 0 then sE (tF 0 32) (rr1 b) else if (rr2 b).length < 32 * rrN b then 2 else
  if sE (tF 1 100) (rr3 b) ≠ 0 then sE (tF 1 100) (rr3 b) else if (rr4 b).length < 32 then 2 else if rr5 b ≠ [] then 3 else
  if readE (rrE b) ≠ 0 then readE (rrE b) else hreadE (rrH b)
/-- The certificate that is read. -/
def readCV (b : List B8) : Crt := if readCE b ≠ 0 then CZ else ⟨readV (rrE b), hreadV (rrH b), (rr4 b).take 32, rrI b (rrN b)⟩
def CPost (b : List B8) (w : World) (r : Ending) (w' : World) : Prop := ∃ A c, r = .returned (.tuple #[.agg ((readCV b).cells A c).toArray, .int .i64 ((readCE b : Nat) : Int)]) ∧ CPath w' (readCV b) A c ∧ Turn (fun _ => False) w w'
theorem c_err {b : List B8} {w w' : World} {k : Nat} {ZC : Array Value} (hZ : ZC = (CZ.cells none 0).toArray) (he : readCE b = k) (hk : k ≠ 0) (t : Turn (fun _ => False) w w') : CPost b w (.returned (.tuple #[.agg ZC, .int .i64 (k : Int)])) w' := by
  have hv : readCV b = CZ := by unfold readCV; rw [if_pos (by rw [he]; exact hk)]
  refine ⟨none, 0, by rw [hv, he, hZ], ?_, t⟩
  rw [hv]
  exact ⟨fun i d h => by simp [CZ] at h, Nat.le_refl _, fun _ => rfl⟩
def StC (W : Nat) (ZC : Array Value) (w w' : World) : Prop := Turn (fun i => i = W) w w' ∧ (w.heap[W]? = some (.cells ZC 35 (0, 0)) → w'.heap[W]? = some (.cells ZC 35 (0, 0)))
theorem StC.refl (W : Nat) (ZC : Array Value) (w : World) : StC W ZC w w := ⟨Turn.refl _ _, fun h => h⟩
theorem StC.trans (W : Nat) (ZC : Array Value) (a b c : World) (h : StC W ZC a b) (k : StC W ZC b c) : StC W ZC a c := ⟨h.1.trans k.1 (fun _ _ h => h), fun g => k.2 (h.2 g)⟩
set_option maxRecDepth 100000 in
theorem does_store_noneC {o : Oper} {a : Act} {w : World} {W : Nat} {ZC : Array Value} (x y : Operand) (ho : o.op = .store 35 x y) (hx : a.eval x = .pointer (some ⟨W, 0, none⟩)) (hZ : (Tryz.prog.info? 35).map (·.size) = some ZC.size ∧ ZC.all (·.oneCell') = true) (hy : a.eval y = .agg ZC) (hg : w.heap[W]? = some (.cells ZC 35 (0, 0))) : doesR Tryz.prog o a w (fun _ w' => True ∧ StC W ZC w w') := by
  unfold doesR execOp
  simp only [ho, hx, hy, Instr.storeAt, Instr.sureAddr, Sem.run_bind, Sem.run_pure, Result.andThen_ok, run_storeVar_row w W _ 35 ZC ZC hg hZ.1 rfl hZ.2]
  refine ⟨trivial, (Turn.refl _ _).setRow _ _ (fun _ => rfl), fun _ => ?_⟩
  exact setRow_heap w W ZC ZC _ _ hg
/-- What a taken field's block holds. -/
structure QF (w : World) (Q : Nat) (g : Gt) : Prop where
  n : w.cell? ⟨Q, 1, none⟩ = some (.int .u64 (g.f.n : Int))
  b : w.cell? ⟨Q, 2, none⟩ = some (.slice g.f.A g.f.b.length g.f.c)
  e : w.cell? ⟨Q, 35, none⟩ = some (.int .i64 (g.e : Int))
  l : w.cell? ⟨Q, 36, none⟩ = some (.slice g.A g.l.length g.c)
  d : rowOf w Q 3 32 = some (g.f.d.map bv).toArray
def GBl (w : World) (Q : Nat) (g : Gt) : Prop := w.heap[Q]? = some (.cells g.cells.toArray 75 (0, 0)) ∧ g.f.d.length = 32
theorem GBl.facts {w : World} {Q : Nat} {g : Gt} (h : GBl w Q g) : QF w Q g := by
  obtain ⟨h, hd⟩ := h
  obtain ⟨-, -, a1, a2, a35, a36⟩ := g.at _ rfl hd
  refine ⟨?_, ?_, ?_, ?_, g.atR _ rfl hd h⟩ <;> (rw [cell_of_row _ _ _ _ _ _ h]; assumption)
theorem GBl.turn {S : Nat → Prop} {w w' : World} {Q : Nat} {g : Gt} (h : GBl w Q g) (t : Turn S w w') (hS : ¬ S Q) : GBl w' Q g := ⟨t.heap h.1 hS, h.2⟩
theorem gkeep (g : Gt) (h : g.f.d.length = 32) : (Tryz.prog.info? 75).map (·.size) = some g.cells.toArray.size ∧ g.cells.toArray.size = 37 ∧ g.cells.toArray.all (·.oneCell') = true := by
  obtain ⟨sC, oC, -⟩ := g.at _ rfl h
  exact ⟨by rw [sC]; exact got_info', sC, oC⟩
theorem wpList_build_idL {ops : Array Oper} {rest : List Oper} {o : Oper} {a : Act} {w : World} {Q : Exit → Act → World → Prop} (hgd : o.guard = none) (d : List B8) (hd : d.length = 32) (C : Array Value) (hC : C = (d.map bv).toArray) (parts : Array (Nat × Operand)) (ho : o.op = .buildSlice 31 1 parts)
    (hp' : (parts.toList.map fun p => (p.1, a.eval p.2)) = [(0, .agg C)]) (h : wpList Tryz.prog ops Q rest (a.put o.dst (.slice (some ⟨w.heap.size, 0, none⟩) 1 1)) (w.alloc (.cells C 24))) : wpList Tryz.prog ops Q (o :: rest) a w := by
  subst hC
  have hp : (parts.map fun (i, x) => (i, a.eval x)) = #[(0, .agg (d.map bv).toArray)] := by
    apply Array.ext'
    rw [Array.toList_map]
    exact hp'
  refine wpList_plain hgd fun K hK => ?_
  unfold Oper.wp execOp
  simp only [ho, hp, Sem.run_bind, build_id d hd w, Result.andThen_ok]
  exact hK _ _ h
theorem CAt.setPath {w : World} {P : Nat} {x : Crt} {A A' : Option Addr} {c c' : Nat} (h : CAt w P x A c) (hl : x.L) (ids' : List (List B8)) : CAt (w.setCell ⟨P, 37, none⟩ (.slice A' ids'.length c')) P { x with ids := ids' } A' c' ∧ Turn (fun i => i = P) w (w.setCell ⟨P, 37, none⟩ (.slice A' ids'.length c')) := by
  refine ⟨?_, (Turn.refl _ _).setCell _ _ (fun _ => rfl)⟩
  unfold CAt at h ⊢
  rw [heap_setCell_same w P 37 _ _ _ h]
  have n37 : x.e.cells.length = 37 := Ent.len _ hl.1
  have e : (x.cells A c).toArray.setIfInBounds 37 (.slice A' ids'.length c') = ({ x with ids := ids' }.cells A' c').toArray := by
    unfold Crt.cells
    rw [List.setIfInBounds_toArray, List.set_append, if_neg (by omega)]
    simp [n37]
  rw [e]
theorem rrI_len (b : List B8) (k : Nat) : (rrI b k).length = k := by simp [rrI]
theorem rrI_succ (b : List B8) (k : Nat) : rrI b (k + 1) = rrI b k ++ [((rr2 b).drop (32 * k)).take 32] := by
  unfold rrI; rw [List.range_succ, List.map_append]; rfl
theorem sl_back {w w' : World} {A : Option Addr} {xs : List Value} (t : Turn (fun _ => False) w w') (h : SlN w' (fun i => w.heap.size ≤ i) A xs) : Sl w w.heap.size A xs := fun j u hu => by
  obtain ⟨ad, e, hb, hc⟩ := h j u hu
  have hlt : ad.block < w.heap.size := by simpa using hb
  refine ⟨ad, e, hlt, ?_⟩
  rw [← (turn_stp' t).cell (p := ad.add j) (by rw [add_block]; exact hlt)]; exact hc
theorem sl_fwd {w w' : World} {A : Option Addr} {xs : List Value} (t : Turn (fun _ => False) w w') (h : Sl w w.heap.size A xs) : SlN w' (fun i => w.heap.size ≤ i) A xs := (SlN.of h (N := fun i => w.heap.size ≤ i) (fun i hi => by omega)).turn t (fun _ h => h.elim) (fun _ _ h => h)
def CI (ids : List (List B8)) : Crt := { CZ with ids := ids }
theorem CI_L (ids : List (List B8)) (h : ∀ d ∈ ids, d.length = 32) : (CI ids).L := ⟨rfl, HZ_L, rfl, h⟩
theorem idsV_app (l : List (List B8)) (d : List B8) : idsV (l ++ [d]) = idsV l ++ d.map bv := by simp [idsV]
theorem readV_d (b : List B8) : (readV b).d.length = 32 := by
  unfold readV
  split
  · rfl
  · rename_i h
    have hx : xE b = 0 := by
      unfold readE at h
      split at h <;> omega
    exact bodV_len (xE_zero hx).1
theorem CAt.there {w : World} {P : Nat} {x : Crt} {A : Option Addr} {c : Nat} (h : CAt w P x A c) (hl : x.L) (o n : Nat) (hn : o + n ≤ 137) : w.there P o n := fun j hj => by
  refine ⟨?_, frozen_of_row w P (o + j) _ _ h⟩
  rw [cell_of_row w P (o + j) _ _ _ h, List.getElem?_toArray]
  exact Option.isSome_iff_exists.2 ⟨_, List.getElem?_eq_getElem (by rw [Crt.len _ _ _ hl]; omega)⟩
theorem CAt.setT {w : World} {P : Nat} {x : Crt} {A : Option Addr} {c : Nat} (h : CAt w P x A c) (hl : x.L) (t' : List B8) (ht : t'.length = 32) : CAt (w.setCells P 105 (t'.map bv)) P { x with t := t' } A c ∧ Turn (fun i => i = P) w (w.setCells P 105 (t'.map bv)) := by
  refine ⟨?_, Turn.setCells (S := fun i => i = P) P (fun _ => rfl) _ _ _ (Turn.refl _ _)⟩
  have h' : w.heap[P]? = some (.cells ((x.e.cells ++ ([Value.slice A x.ids.length c] ++ x.h.cells)) ++ (x.t.map bv ++ [])).toArray 35 (0, 0)) := by
    unfold CAt Crt.cells at h; rw [h]; simp
  have := setCells_block P _ _ (t'.map bv) (x.t.map bv) _ w (by simp [hl.2.2.1, ht]) h'
  rw [show (x.e.cells ++ ([Value.slice A x.ids.length c] ++ x.h.cells)).length = 105 by simp [Ent.len _ hl.1, Hdr.len _ hl.2.1]] at this
  unfold CAt Crt.cells
  rw [this]; simp
theorem CAt.setH {w : World} {P : Nat} {x : Crt} {A : Option Addr} {c : Nat} (h : CAt w P x A c) (hl : x.L) (y : Hdr) (hy : y.L) : CAt (w.setCells P 38 y.cells) P { x with h := y } A c ∧ Turn (fun i => i = P) w (w.setCells P 38 y.cells) := by
  refine ⟨?_, Turn.setCells (S := fun i => i = P) P (fun _ => rfl) _ _ _ (Turn.refl _ _)⟩
  have h' : w.heap[P]? = some (.cells ((x.e.cells ++ [Value.slice A x.ids.length c]) ++ (x.h.cells ++ x.t.map bv)).toArray 35 (0, 0)) := by
    unfold CAt Crt.cells at h; rw [h]; simp
  have := setCells_block P _ _ y.cells x.h.cells _ w (by rw [Hdr.len _ hy, Hdr.len _ hl.2.1]) h'
  rw [show (x.e.cells ++ [Value.slice A x.ids.length c]).length = 38 by simp [Ent.len _ hl.1]] at this
  unfold CAt Crt.cells
  rw [this]; simp
theorem CAt.setE {w : World} {P : Nat} {x : Crt} {A : Option Addr} {c : Nat} (h : CAt w P x A c) (hl : x.L) (y : Ent) (hy : y.d.length = 32) : CAt (w.setCells P 0 y.cells) P { x with e := y } A c ∧ Turn (fun i => i = P) w (w.setCells P 0 y.cells) := by
  refine ⟨?_, Turn.setCells (S := fun i => i = P) P (fun _ => rfl) _ _ _ (Turn.refl _ _)⟩
  exact setCells_block P _ _ y.cells x.e.cells [] w (by rw [Ent.len _ hy, Ent.len _ hl.1]) h
/-- What is so at the head of the loop over the path's digests. -/
structure LI (b : List B8) (ZC : Array Value) (w : World) (Q k : Nat) (g : Gt) (wr : World) : Prop where
  q : GBl wr Q g
  r : wr.heap[w.heap.size]? = some (.cells ZC 35 (0, 0))
  good : g.e = 0 → sE (tF 0 32) (rr1 b) = 0 ∧ 32 * k ≤ (rr2 b).length ∧ g.l = (rr2 b).drop (32 * k) ∧ Sl w w.heap.size g.A (g.l.map bv) ∧ (g.A = none → g.c = 0) ∧ g.l.length ≤ g.c
  path : ∃ Ap cp ids, ids.length = k ∧ (∀ d ∈ ids, d.length = 32) ∧ CAt wr (w.heap.size + 1) (CI ids) Ap cp ∧ wr.ownsRow (Q + 1) 24 32 (.slice Ap k cp) k (idsV ids) ∧ (g.e = 0 → ids = rrI b k)
  bad : g.e ≠ 0 → readCE b = g.e
set_option maxRecDepth 100000 in
set_option maxHeartbeats 32000000 in
theorem rcread_any (A : Option Addr) (c : Nat) (b : List B8) (w : World) (hs : Sl w w.heap.size A (b.map bv)) (hA : A = none → c = 0) (hc : b.length ≤ c) (hlen : b.length ≤ 1000000) :
    Calls Tryz.prog 10 #[.slice A b.length c] w (CPost b w) := by
  obtain ⟨j0, hj, hy0, hy1, hy2⟩ := info_parts info_idT
  have CE := Lib.hid (show readCE b = (if sE (tF 1 100) b ≠ 0 then sE (tF 1 100) b else if sE (tF 0 32) (rr1 b) ≠ 0 then sE (tF 0 32) (rr1 b) else if (rr2 b).length < 32 * rrN b then 2 else
    if sE (tF 1 100) (rr3 b) ≠ 0 then sE (tF 1 100) (rr3 b) else if (rr4 b).length < 32 then 2 else if rr5 b ≠ [] then 3 else
    if readE (rrE b) ≠ 0 then readE (rrE b) else hreadE (rrH b)) from rfl)
  obtain ⟨ZC, hZC⟩ : ∃ L, L = (CZ.cells none 0).toArray := ⟨_, rfl⟩
  have ERR := Lib.hid (fun (k : Nat) (w' : World) (he : readCE b = k) (hk : k ≠ 0) (t : Turn (fun _ => False) w w') => c_err hZC he hk t)
  have hcz := cr_zero
  have hzf := zero_field'
  have hzg := zero_got'
  have hze := en_zero
  have hzd := hd_zero
  rw [← hZC] at hcz
  have sZ : ZC.size = 137 := by rw [hZC, List.size_toArray, Crt.len _ _ _ CZ_L]
  have KZ := Lib.hid (show (Tryz.prog.info? 35).map (·.size) = some ZC.size ∧ ZC.all (·.oneCell') = true from ⟨by rw [sZ]; exact cr_info, by rw [hZC]; exact Crt.one _ _ _⟩)
  have HZC := Lib.hid hZC
  have HSZ := Lib.hid sZ
  obtain ⟨w1, hw1⟩ : ∃ w1, w1 = (w.alloc (.cells ZC 35)).alloc (.cells ZC 35) := ⟨_, rfl⟩
  have t1 : Turn (fun _ => False) w w1 := by rw [hw1]; exact ((Turn.refl _ _).alloc _).alloc _
  have z0 : w1.heap[w.heap.size]? = some (.cells ZC 35 (0, 0)) := by rw [hw1]; exact heap_alloc2_old _ _ _
  have z1 : w1.heap[w.heap.size + 1]? = some (.cells ZC 35 (0, 0)) := by rw [hw1]; exact heap_alloc2_new _ _ _
  have SZ1 := Lib.hid (show w.heap.size + 2 ≤ w1.heap.size by rw [hw1]; simp)
  have SL1 := Lib.hid (show SlN w1 (fun i => w.heap.size ≤ i) A (b.map bv) from (SlN.of hs (N := fun i => w.heap.size ≤ i) (fun i hi => by omega)).turn t1 (fun _ h => h.elim) (fun _ _ h => h))
  have HR1 := Lib.hid z0
  have HP1 := Lib.hid (show CAt w1 (w.heap.size + 1) CZ none 0 by unfold CAt; rw [← hZC]; exact z1)
  have T1 := Lib.hid t1
  have AC1 := Lib.hid (And.intro hA hc)
  obtain ⟨n1, hn1⟩ : ∃ n, n = b.length := ⟨_, rfl⟩
  rw [← hn1]
  have HN1 := Lib.hid hn1
  have HLEN := Lib.hid hlen
  clear hs hA hc hZC sZ t1 z0 z1 hn1 hlen
  go_enter Tryz.func10, Tryz.ntmps10
  go_upto_region 2 with fail
  change Code.wp _ _ _ _ ((w.alloc (.cells ZC 35)).alloc (.cells ZC 35))
  rw [← hw1]
  clear hw1
  have TK := Lib.hid (take_full (fun i => w.heap.size ≤ i) A c n1 (b) HN1.out.symm (tF 1 100) w1 rfl (.inr (.inl rfl)) (by show (100 : Nat) < _; decide) SL1.out AC1.out.1 (by have := AC1.out.2; have := HN1.out; omega) (by have := HLEN.out; have := HN1.out; omega))
  rw [tF_cells] at TK
  go_wp2_with (go_at_call 30; refine stop ?_)
  unfold Stop
  refine TK.out.mono ?_
  rintro r w2a ⟨g2, rfl, hd, hge, hgx, hg0, t⟩
  have GD2 := Lib.hid hd
  have GE2 := Lib.hid (And.intro hge (And.intro hgx hg0))
  have t2a := t
  clear TK hd hge hgx hg0 t
  obtain ⟨C2, hC2⟩ : ∃ C, C = g2.cells.toArray := ⟨_, rfl⟩
  have GK := Lib.hid (gkeep g2 GD2.out)
  rw [← hC2] at GK ⊢
  have HC2 := Lib.hid hC2
  clear hC2
  have HA := Lib.hid (show (w2a.alloc (.cells Z37 75)).heap[w2a.heap.size]? = some (.cells Z37 75 (0, 0)) from heap_alloc_new _ _)
  go_upto_region 3 with (refine wpList_store_row rfl _ _ _ rfl w2a.heap.size C2 rfl rfl 75 Z37 HA.out GK.out.1 GK.out.2.1.symm GK.out.2.2 ?_)
  obtain ⟨w2, hw⟩ : ∃ w', w' = (w2a.alloc (.cells Z37 75)).setRow w2a.heap.size C2 := ⟨_, rfl⟩
  have tt : Turn (fun _ => False) w1 w2 := by rw [hw]; exact t2a.trans (((Turn.refl (fun _ => False) w2a).alloc _).setRow _ _ (fun h => by omega)) (fun _ _ h => h)
  obtain ⟨Q, hQ⟩ : ∃ Q, Q = w2a.heap.size := ⟨_, rfl⟩
  have HQ2 := Lib.hid (show GBl w2 Q g2 from ⟨by rw [hw, hQ, ← HC2.out]; exact setRow_heap _ _ _ _ _ _ HA.out, GD2.out⟩)
  have QB := Lib.hid (show w.heap.size + 2 ≤ Q by rw [hQ]; have := SZ1.out; have := t2a.size; omega)
  change Code.wp _ _ _ _ ((w2a.alloc (.cells Z37 75)).setRow w2a.heap.size C2)
  rw [← hw, ← hQ]
  clear hw hQ HA
  have T2 := Lib.hid (T1.out.trans tt (fun _ _ h => h))
  have TI2 := Lib.hid tt
  have HR2 := Lib.hid (tt.heap HR1.out (fun h => h))
  have HP2 := Lib.hid (show CAt w2 (w.heap.size + 1) CZ none 0 from tt.heap HP1.out (fun h => h))
  have TA2 := Lib.hid (show Turn (fun i => i = Q) w1 w2 from tt.mono (fun _ _ h => h.elim))
  clear tt t2a GK
  by_cases hz : g2.e = 0
  rotate_left 1
  · have hzz : ((g2.e : Int) != 0) = true := by simp; exact_mod_cast hz
    have F2 := HQ2.out.facts
    have d35 := F2.e
    have RE := Lib.hid (show readCE b = g2.e from by rw [CE.out, if_pos (by rw [← GE2.out.1]; exact hz)]; exact GE2.out.1.symm)
    have NE := Lib.hid hz
    clear hz F2
    go_upto_region 4 with fail
    refine wp_region_rel 117 (StC w.heap.size ZC) [.one ?_, .one ?_, .one ?_, .rel (fun _ _ => True), .one ?_] (by kernel_rfl) (by kernel_rfl) rfl (by kernel_rfl) (StC.refl _ _) (StC.trans _ _) ⟨fun _ _ _ _ _ => trivial, trivial⟩ ?main
    case main =>
    iterate 2
      refine wpR_one (A' := ?_) (StC.refl _ _) (by rfl) _ rfl 117 (by rfl) (by rfl) ?_ ?_ ?_
      rotate_left 1
      · simp only [Act.put, List.setIfInBounds_toArray, List.set_cons_zero, List.set_cons_succ]; rfl
      · intro w1 hs hf K hK
        go_big_quiet_op
        first
          | go_big_quiet_on
          | (refine ⟨_, fun _ _ => rfl, ?_⟩; go_big_quiet_on)
        rfl
    refine wpR_one (A' := ?_) (StC.refl _ _) (by rfl) _ rfl 117 (by rfl) (by rfl) ?_ ?_ ?_
    rotate_left 1
    · simp only [Act.put, List.setIfInBounds_toArray, List.set_cons_zero, List.set_cons_succ]; rfl
    · intro w1 hs hf K hK
      refine cls_load_cell 3 (.tmp 21) rfl ⟨Q, 35, none⟩ rfl (.int .i64 (g2.e : Int)) (fun w h => by simp [go_sem, h]) (fun w4 h2 => (StC.trans _ _ _ _ _ hs h2).1.cell (show w2.drew.cell? _ = _ from d35) (by have := QB.out; show Q ≠ w.heap.size; omega)) ?_
      refine hK _ ?_
      simp only [Act.put, List.setIfInBounds_toArray, List.set_cons_zero, List.set_cons_succ]
      rfl
    refine wpR_rel (A' := ?_) (by rfl) ?_ ?_ ?_
    · intro w1 hs hf
      exact does_store_noneC _ _ rfl rfl KZ.out (by rw [HZC.out]; rfl) (hs.2 HR2.out)
    rotate_left 1
    · intro x
      simp only [Act.put, List.setIfInBounds_toArray, List.set_cons_zero, List.set_cons_succ]; rfl
    intro xx
    iterate 1
      refine wpR_one (A' := ?_) (StC.refl _ _) (by rfl) _ rfl 117 (by rfl) (by rfl) ?_ ?_ ?_
      rotate_left 1
      · simp only [Act.put, List.setIfInBounds_toArray, List.set_cons_zero, List.set_cons_succ]; rfl
      · intro w1 hs hf K hK
        go_big_quiet_op
        first
          | go_big_quiet_on
          | (refine ⟨_, fun _ _ => rfl, ?_⟩; go_big_quiet_on)
        rfl
    intro wz hs1 hf
    have h3 := hs1.2 HR2.out
    have T6 := Lib.hid (T2.out.trans ((Turn.refl _ _).drew.trans hs1.1 (fun _ _ h => h)) (fun i hi h => by omega))
    have H3 := Lib.hid h3
    clear hs1 hf h3
    go_wp2_with fail
    refine bodyPost_ret (v := .tuple #[.agg ZC, .int .i64 (g2.e : Int)]) ?_ rfl (ERR.out _ _ RE.out NE.out T6.out)
    exact results_cr Tryz.results10 _ _ w.heap.size _ _ rfl rfl H3.out HSZ.out
  have hzz : ((g2.e : Int) != 0) = false := by rw [hz]; rfl
  have z1 : sE (tF 1 100) b = 0 := by rw [← GE2.out.1]; exact hz
  obtain ⟨ok2, at2, an2, ac2⟩ := GE2.out.2.2 z1
  have Z1 := Lib.hid z1
  have SL2 := Lib.hid (show SlN w2 (fun i => w.heap.size ≤ i) g2.A (g2.l.map bv) from at2.s.turn TI2.out (fun _ h => h.elim) (fun _ _ h => h))
  have SE2 := Lib.hid (show SlN w2 (fun i => w.heap.size ≤ i) g2.f.A (g2.f.b.map bv) from at2.t.turn TI2.out (fun _ h => h.elim) (fun _ _ h => h))
  have AC2 := Lib.hid (And.intro at2.a at2.c)
  have AE2 := Lib.hid (And.intro an2 ac2)
  have L2 := Lib.hid (show g2.l = rr1 b from ok2.l)
  have B2 := Lib.hid (show g2.f.b = rrE b from ok2.b)
  have F2 := HQ2.out.facts
  obtain ⟨d1, d2, d35, d36, -⟩ := F2
  obtain ⟨n2, hn2⟩ : ∃ n, n = g2.l.length := ⟨_, rfl⟩
  rw [← hn2] at d36
  have HN2 := Lib.hid hn2
  obtain ⟨ne, hne⟩ : ∃ n, n = g2.f.b.length := ⟨_, rfl⟩
  rw [← hne] at d2
  have HNE := Lib.hid hne
  have HLEN2 := Lib.hid (show g2.l.length ≤ 1000000 by rw [L2.out]; have := sL_le (tF 1 100) b; have := HLEN.out; unfold rr1; omega)
  have SEW := Lib.hid (sl_back T2.out SE2.out)
  clear hz hn2 hne z1 ok2 at2 an2 ac2 GE2 SE2
  have TK := Lib.hid (take_full (fun i => w.heap.size ≤ i) g2.A g2.c n2 (g2.l) HN2.out.symm (tF 0 32) w2 rfl (.inl rfl) (by show (32 : Nat) < _; decide) SL2.out AC2.out.1 (by have := AC2.out.2; have := HN2.out; omega) (by have := HLEN2.out; have := HN2.out; omega))
  rw [tF_cells] at TK
  go_wp2_with (go_at_call 30; refine stop ?_)
  unfold Stop
  refine TK.out.mono ?_
  rintro r w3a ⟨g3, rfl, hd, hge, hgx, hg0, t⟩
  clear d1 d2 d35 d36 hzz
  have GD3 := Lib.hid hd
  have GE3 := Lib.hid (And.intro hge (And.intro hgx hg0))
  have t3a := t
  clear TK hd hge hgx hg0 t
  obtain ⟨C3, hC3⟩ : ∃ C, C = g3.cells.toArray := ⟨_, rfl⟩
  have GK := Lib.hid (gkeep g3 GD3.out)
  rw [← hC3] at GK ⊢
  have HC3 := Lib.hid hC3
  clear hC3
  have HA := Lib.hid (show w3a.heap[Q]? = some (.cells g2.cells.toArray 75 (0, 0)) from t3a.heap HQ2.out.1 (fun h => h))
  have GS := Lib.hid (show g2.cells.toArray.size = C3.size by rw [GK.out.2.1]; exact (gkeep g2 HQ2.out.2).2.1)
  go_upto_region 7 with (refine wpList_store_row rfl _ _ _ rfl Q C3 rfl rfl 75 g2.cells.toArray HA.out GK.out.1 GS.out GK.out.2.2 ?_)
  obtain ⟨w3, hw⟩ : ∃ w', w' = w3a.setRow Q C3 := ⟨_, rfl⟩
  have tt : Turn (fun i => i = Q) w2 w3 := by rw [hw]; exact (t3a.mono (fun _ _ h => h.elim)).trans ((Turn.refl (fun i => i = Q) _).setRow _ _ (fun _ => rfl)) (fun _ _ h => h)
  have HQ3 := Lib.hid (show GBl w3 Q g3 from ⟨by rw [hw, ← HC3.out]; exact setRow_heap _ _ _ _ _ _ HA.out, GD3.out⟩)
  change Code.wp _ _ _ _ (w3a.setRow Q C3)
  rw [← hw]
  clear hw HA GS
  have T3 := Lib.hid (T2.out.trans tt (fun i hi h => by have := QB.out; omega))
  have HR3 := Lib.hid (tt.heap HR2.out (fun h => by have := QB.out; omega))
  have TA3 := Lib.hid tt
  clear tt t3a GK
  have HP3 := Lib.hid (show CAt w3 (w.heap.size + 1) CZ none 0 from TA3.out.heap HP2.out (fun h => by have := QB.out; omega))
  have GE3' := Lib.hid (show g3.e = sE (tF 0 32) (rr1 b) by have := GE3.out.1; rw [L2.out] at this; exact this)
  have hn32 : g3.f.n ≤ 32 ∧ (g3.e = 0 → g3.f.n = rrN b) := by
    by_cases h0 : sE (tF 0 32) g2.l = 0
    · obtain ⟨ok, -⟩ := GE3.out.2.2 h0
      have h1 : g3.f.n = numV g2.l := ok.n
      have h2 := (eNum_le (m := 32) (l := g2.l) h0).1
      exact ⟨by omega, fun _ => by rw [h1, L2.out]; rfl⟩
    · have hg := GE3.out.2.1 h0
      exact ⟨by rw [hg]; exact Nat.zero_le _, fun h => absurd (by rw [← GE3.out.1]; exact h) h0⟩
  have F3 := HQ3.out.facts
  obtain ⟨d1, -, -, -, -⟩ := F3
  obtain ⟨nn, hnn⟩ : ∃ n, n = g3.f.n := ⟨_, rfl⟩
  rw [← hnn] at d1 hn32
  have HNN := Lib.hid (show sE (tF 0 32) (rr1 b) = 0 → nn = rrN b from fun h => hn32.2 (GE3'.out.trans h))
  have hn32 := hn32.1
  have LI3 := Lib.hid (show LI b ZC w Q 0 g3 w3 from ⟨HQ3.out, HR3.out, fun h0 => by
      obtain ⟨ok, at', -, -⟩ := GE3.out.2.2 (by rw [← GE3.out.1]; exact h0)
      have hl : g3.l = rr2 b := by rw [ok.l, L2.out]; rfl
      exact ⟨by rw [← GE3'.out]; exact h0, by omega, by rw [hl]; simp, sl_back T2.out at'.s, at'.a, at'.c⟩,
    ⟨none, 0, [], rfl, by simp, HP3.out, ⟨rfl, .inl ⟨rfl, rfl⟩⟩, fun _ => rfl⟩, fun h0 => by
      rw [CE.out, if_neg (by rw [Z1.out]; omega), if_pos (by rw [← GE3'.out]; exact h0)]; exact GE3'.out.symm⟩)
  clear hnn HP3 HQ3 HR3 TA3 GE3 GD3 HC3 HP2 HR2 HQ2 GD2 HC2 SL2 AC2 TA2 TI2 HP1 HR1 SL1 AC1 HN1
  go_upto_region 9 with fail
  clear d1
  go_loopw [8] (fun i wr => ∃ (k : Nat) (g : Gt), k ≤ nn ∧ i = .int .i64 (k : Int) ∧ LI b ZC w Q k g wr ∧ Turn (fun _ => False) w wr) (fun i _ => nn - (intOf i).toNat)
  case atStart => exact ⟨0, g3, Nat.zero_le _, rfl, LI3.out, T3.out⟩
  case round =>
    obtain ⟨k, gr, hk, rfl, hli, ht⟩ := hrel
    have HI := Lib.hid hli
    have Tr := Lib.hid ht
    have HQr := Lib.hid hli.q
    have HRr := Lib.hid hli.r
    clear hli ht LI3 T3 GE3'
    by_cases hge : gr.e = 0
    · have hz0 : ((gr.e : Int) == 0) = true := by rw [hge]; rfl
      have hzz : ((gr.e : Int) != 0) = false := by rw [hge]; rfl
      have Fr := HQr.out.facts
      obtain ⟨d1, d2, d35, d36, -⟩ := Fr
      obtain ⟨z2, l32, hl, sl, an, ac⟩ := HI.out.good hge
      have Z2 := Lib.hid z2
      have L32 := Lib.hid l32
      have HGL := Lib.hid hl
      have SWr := Lib.hid sl
      have ACr := Lib.hid (And.intro an ac)
      have SLr := Lib.hid (sl_fwd Tr.out sl)
      have HGE := Lib.hid hge
      obtain ⟨ng, hng⟩ : ∃ n, n = gr.l.length := ⟨_, rfl⟩
      rw [← hng] at d36
      have HNr := Lib.hid hng
      have HLENr := Lib.hid (show gr.l.length ≤ 1000000 by rw [hl, List.length_drop]; have h1 := sL_le (tF 0 32) (rr1 b); have h2 := sL_le (tF 1 100) b; have := HLEN.out; unfold rr2 rr1 at *; omega)
      obtain ⟨Ap, cp, ids, il, i32, hca, how, hid'⟩ := HI.out.path
      have IL := Lib.hid il
      have I32 := Lib.hid i32
      have HCA := Lib.hid hca
      have HOW := Lib.hid how
      have HIR := Lib.hid (hid' hge)
      clear hge z2 l32 hl sl an ac hng il i32 hca how hid' HI
      by_cases hlt : k < nn
      · have t1 : decide ((k : Int) < (nn : Int)) = true := by rw [decide_eq_true_eq]; omega
        have TK := Lib.hid (take_full (fun i => w.heap.size ≤ i) gr.A gr.c ng (gr.l) HNr.out.symm (tF 2 0) wr rfl (.inr (.inr rfl)) (by show (0 : Nat) < _; decide) SLr.out ACr.out.1 (by have := ACr.out.2; have := HNr.out; omega) (by have := HLENr.out; have := HNr.out; omega))
        rw [tF_cells] at TK
        go_wp2_with (go_at_call 30; refine stop ?_)
        unfold Stop
        refine TK.out.mono ?_
        rintro r wta ⟨gt, rfl, hd, hge, hgx, hg0, t⟩
        clear d1 d2 d35 d36 hzz hz0
        have GDt := Lib.hid hd
        have GEt := Lib.hid (And.intro hge (And.intro hgx hg0))
        have tta := t
        clear TK hd hge hgx hg0 t
        obtain ⟨Ct, hCt⟩ : ∃ C, C = gt.cells.toArray := ⟨_, rfl⟩
        have GK := Lib.hid (gkeep gt GDt.out)
        rw [← hCt] at GK ⊢
        have HCt := Lib.hid hCt
        clear hCt
        have HA := Lib.hid (show wta.heap[Q]? = some (.cells gr.cells.toArray 75 (0, 0)) from tta.heap HQr.out.1 (fun h => h))
        have GS := Lib.hid (show gr.cells.toArray.size = Ct.size by rw [GK.out.2.1]; exact (gkeep gr HQr.out.2).2.1)
        go_upto_region 12 with (refine wpList_store_row rfl _ _ _ rfl Q Ct rfl rfl 75 gr.cells.toArray HA.out GK.out.1 GS.out GK.out.2.2 ?_)
        obtain ⟨wt, hw⟩ : ∃ w', w' = wta.setRow Q Ct := ⟨_, rfl⟩
        have tt : Turn (fun i => i = Q) wr wt := by rw [hw]; exact (tta.mono (fun _ _ h => h.elim)).trans ((Turn.refl (fun i => i = Q) _).setRow _ _ (fun _ => rfl)) (fun _ _ h => h)
        have HQt := Lib.hid (show GBl wt Q gt from ⟨by rw [hw, ← HCt.out]; exact setRow_heap _ _ _ _ _ _ HA.out, GDt.out⟩)
        change Code.wp _ _ _ _ (wta.setRow Q Ct)
        rw [← hw]
        clear hw HA GS
        have Tt := Lib.hid (Tr.out.trans tt (fun i hi h => by have := QB.out; omega))
        have HRt := Lib.hid (tt.heap HRr.out (fun h => by have := QB.out; omega))
        have TAt := Lib.hid tt
        clear tt tta GK
        have hPQ : ¬ w.heap.size + 1 = Q := by have := QB.out; omega
        have HCt := Lib.hid (show CAt wt (w.heap.size + 1) (CI ids) Ap cp from TAt.out.heap HCA.out hPQ)
        have HOt := Lib.hid (turn_ownS TAt.out HOW.out (fun g hg h => by have := (HOW.out.lt g hg).1; omega))
        have Fc := HCt.out.facts (CI_L ids I32.out)
        have d37 := Fc.path
        rw [show (CI ids).ids.length = k from IL.out] at d37
        have dd := HQt.out.facts.d
        obtain ⟨DC, hDC⟩ : ∃ D, D = (gt.f.d.map bv).toArray := ⟨_, rfl⟩
        rw [← hDC] at dd
        have HDC := Lib.hid hDC
        clear hDC Fc
        go_step
        iterate 15 go_step
        refine wpList_build_idL (o := ⟨some 53, _, _, _, _, _⟩) rfl gt.f.d GDt.out DC HDC.out #[(0, .tmp 52)] rfl rfl ?_
        obtain ⟨wa, hwa⟩ : ∃ wa, wa = wt.alloc (.cells DC 24) := ⟨_, rfl⟩
        have ta : Turn (fun _ => False) wt wa := by rw [hwa]; exact (Turn.refl _ _).alloc _
        have GAa := Lib.hid (show wa.heap[wt.heap.size]? = some (.cells DC 24 (0, 0)) by rw [hwa]; exact heap_alloc_new _ _)
        have HOa := Lib.hid (turn_ownS ta HOt.out (fun _ _ h => h))
        have HCa := Lib.hid (show CAt wa (w.heap.size + 1) (CI ids) Ap cp from ta.heap HCt.out (fun h => h))
        have HQa := Lib.hid (HQt.out.turn ta (fun h => h))
        have HRa := Lib.hid (ta.heap HRt.out (fun h => h))
        have Ta := Lib.hid (Tt.out.trans ta (fun _ _ h => h))
        have hsa : Q + 1 ≤ wa.heap.size := lt_of_block HQa.out.1
        rw [← hwa]
        clear hwa ta dd d37 HCt HOt
        generalize wt.heap.size = gA at *
        refine wpList_append_own (o := ⟨some 54, _, _, _, _, _⟩) wa rfl _ _ 31 rfl (Q + 1) 24 j0 (.agg ZIdT) 32 32 Tryz.underlying31 hj hy0 hy1 hy2 (by kernel_rfl) (by decide) _ k (idsV ids) rfl HOa.out ⟨gA, 0, none⟩ 1 1 (gt.f.d.map bv) rfl (by rw [List.length_map, GDt.out]) (fun j u hu => ?_) (bv_one _) ?_ ?_ hsa ?_
        · have e : (⟨gA, 0, none⟩ : Addr).add j = ⟨gA, j, none⟩ := by unfold Addr.add; by_cases hj : j = 0 <;> simp [hj]
          rw [e, cell_of_row _ _ _ _ _ _ GAa.out, HDC.out, List.getElem?_toArray]; exact hu
        · unfold maxLen; omega
        · omega
        intro v' wb q1 q2 _
        obtain ⟨A', c', rfl, hc', hn'⟩ := own_slN q1
        have tg := Turn.of_grown q2
        have HCb := Lib.hid (show CAt wb (w.heap.size + 1) (CI ids) Ap cp from tg.heap HCa.out (fun e => by have := (HOa.out.lt _ e.symm).1; have := QB.out; omega))
        have HQb := Lib.hid (HQa.out.turn tg (fun e => by have := (HOa.out.lt _ e.symm).1; omega))
        have HRb := Lib.hid (tg.heap HRa.out (fun e => by have := (HOa.out.lt _ e.symm).1; have := QB.out; omega))
        have Tb := Lib.hid (show Turn (fun _ => False) w wb from Ta.out.trans tg (fun i hi e => by have := (HOa.out.lt i e.symm).1; have := QB.out; omega))
        have HOb := Lib.hid q1
        have f37 := frozen_of_row wb (w.heap.size + 1) 37 _ _ HCb.out
        have d37 := (HCb.out.facts (CI_L ids I32.out)).path
        rw [show (CI ids).ids.length = k from IL.out] at d37
        clear q1 q2 tg hc' hn' HCa HQa HRa Ta hsa
        go_wp2_with fail
        obtain ⟨hs', ts'⟩ := HCb.out.setPath (CI_L ids I32.out) (A' := A') (c' := c') (ids ++ [gt.f.d])
        rw [show (ids ++ [gt.f.d]).length = k + 1 by rw [List.length_append, IL.out]; rfl] at hs' ts'
        have HS' := Lib.hid hs'
        have TS' := Lib.hid ts'
        clear hs' ts' f37 d37
        go_roundw
        case rel =>
          have gee : gt.e = if gr.l.length < 32 then 2 else 0 := GEt.out.1
          have glen : gr.l.length = (rr2 b).length - 32 * k := by rw [HGL.out, List.length_drop]
          refine ⟨k + 1, gt, by omega, by go_num, ⟨HQb.out.turn TS'.out (fun h => by have := QB.out; omega), TS'.out.heap HRb.out (fun h => by omega), fun h0 => ?_, ⟨A', c', ids ++ [gt.f.d], by rw [List.length_append, IL.out]; rfl, ?_, HS'.out, by rw [idsV_app]; exact turn_ownS TS'.out HOb.out (fun g hg h => by have := (HOb.out.lt g hg).1; have := QB.out; omega), fun h0 => ?_⟩, fun h0 => ?_⟩, Tb.out.trans TS'.out (fun i hi h => by omega)⟩
          · obtain ⟨ok, at', -, -⟩ := GEt.out.2.2 (by rw [← GEt.out.1]; exact h0)
            have h32 : 32 ≤ gr.l.length := by rw [gee] at h0; split at h0 <;> omega
            refine ⟨Z2.out, by have := L32.out; omega, ?_, sl_back Tr.out at'.s, at'.a, at'.c⟩
            rw [ok.l, show sL (tF 2 0) gr.l = gr.l.drop 32 from rfl, HGL.out, List.drop_drop, show 32 * k + 32 = 32 * (k + 1) by omega]
          · intro d hd
            rcases List.mem_append.1 hd with h | h
            · exact I32.out d h
            · obtain rfl : d = gt.f.d := by simpa using h
              exact GDt.out
          · obtain ⟨ok, -⟩ := GEt.out.2.2 (by rw [← GEt.out.1]; exact h0)
            rw [rrI_succ, HIR.out, ← HGL.out, show gt.f.d = gr.l.take 32 from ok.d]
          · have h2 : gr.l.length < 32 := by rw [gee] at h0; split at h0 <;> omega
            have h3 := HNN.out Z2.out
            rw [CE.out, if_neg (by rw [Z1.out]; omega), if_neg (by rw [Z2.out]; omega), if_pos (by omega), gee, if_pos h2]
        case measure => simp [intOf]; omega
      · obtain rfl : k = nn := by omega
        have t1 : decide ((k : Int) < (k : Int)) = false := by rw [decide_eq_false_iff_not]; omega
        have IFULL := Lib.hid (show ids = rrI b (rrN b) by rw [← HNN.out Z2.out]; exact HIR.out)
        have HL3 := Lib.hid (show gr.l = rr3 b by rw [HGL.out, HNN.out Z2.out]; rfl)
        have LN := Lib.hid (show ¬ (rr2 b).length < 32 * rrN b by rw [← HNN.out Z2.out]; have := L32.out; omega)
        clear hk hlt
        have TK := Lib.hid (take_full (fun i => w.heap.size ≤ i) gr.A gr.c ng (gr.l) HNr.out.symm (tF 1 100) wr rfl (.inr (.inl rfl)) (by show (100 : Nat) < _; decide) SLr.out ACr.out.1 (by have := ACr.out.2; have := HNr.out; omega) (by have := HLENr.out; have := HNr.out; omega))
        rw [tF_cells] at TK
        go_wp2_with (go_at_call 30; refine stop ?_)
        unfold Stop
        refine TK.out.mono ?_
        rintro r w5a ⟨g5, rfl, hd, hge, hgx, hg0, t⟩
        clear d1 d2 d35 d36 hzz hz0 t1
        have GD5 := Lib.hid hd
        have GE5 := Lib.hid (And.intro hge (And.intro hgx hg0))
        have t5a := t
        clear TK hd hge hgx hg0 t
        obtain ⟨C5, hC5⟩ : ∃ C, C = g5.cells.toArray := ⟨_, rfl⟩
        have GK := Lib.hid (gkeep g5 GD5.out)
        rw [← hC5] at GK ⊢
        have HC5 := Lib.hid hC5
        clear hC5
        have HA := Lib.hid (show w5a.heap[Q]? = some (.cells gr.cells.toArray 75 (0, 0)) from t5a.heap HQr.out.1 (fun h => h))
        have GS := Lib.hid (show gr.cells.toArray.size = C5.size by rw [GK.out.2.1]; exact (gkeep gr HQr.out.2).2.1)
        go_upto_region 16 with (refine wpList_store_row rfl _ _ _ rfl Q C5 rfl rfl 75 gr.cells.toArray HA.out GK.out.1 GS.out GK.out.2.2 ?_)
        obtain ⟨w5, hw⟩ : ∃ w', w' = w5a.setRow Q C5 := ⟨_, rfl⟩
        have tt : Turn (fun i => i = Q) wr w5 := by rw [hw]; exact (t5a.mono (fun _ _ h => h.elim)).trans ((Turn.refl (fun i => i = Q) _).setRow _ _ (fun _ => rfl)) (fun _ _ h => h)
        have HQ5 := Lib.hid (show GBl w5 Q g5 from ⟨by rw [hw, ← HC5.out]; exact setRow_heap _ _ _ _ _ _ HA.out, GD5.out⟩)
        change Code.wp _ _ _ _ (w5a.setRow Q C5)
        rw [← hw]
        clear hw HA GS
        have T5 := Lib.hid (Tr.out.trans tt (fun i hi h => by have := QB.out; omega))
        have HR5 := Lib.hid (tt.heap HRr.out (fun h => by have := QB.out; omega))
        have TA5 := Lib.hid tt
        clear tt t5a GK
        have hPQ : ¬ w.heap.size + 1 = Q := by have := QB.out; omega
        have HC5 := Lib.hid (show CAt w5 (w.heap.size + 1) (CI ids) Ap cp from TA5.out.heap HCA.out hPQ)
        have HO5 := Lib.hid (turn_ownS TA5.out HOW.out (fun g hg h => by have := (HOW.out.lt g hg).1; omega))
        have G5e := Lib.hid (show g5.e = sE (tF 1 100) (rr3 b) by have := GE5.out.1; rw [HL3.out] at this; exact this)
        have RE0 := Lib.hid (fun (h : sE (tF 1 100) (rr3 b) ≠ 0) => show readCE b = sE (tF 1 100) (rr3 b) by
          rw [CE.out, if_neg (by rw [Z1.out]; omega), if_neg (by rw [Z2.out]; omega), if_neg LN.out, if_pos h])
        clear HCA HOW HRr HQr
        by_cases hz : g5.e = 0
        rotate_left 1
        · have hzz : ((g5.e : Int) != 0) = true := by simp; exact_mod_cast hz
          have F5 := HQ5.out.facts
          have d35 := F5.e
          have RE := Lib.hid (show readCE b = g5.e from by rw [G5e.out]; exact RE0.out (by rw [← G5e.out]; exact hz))
          have NE := Lib.hid hz
          clear hz F5
          go_upto_region 17 with fail
          refine wp_region_rel 117 (StC w.heap.size ZC) [.one ?_, .one ?_, .one ?_, .rel (fun _ _ => True), .one ?_] (by kernel_rfl) (by kernel_rfl) rfl (by kernel_rfl) (StC.refl _ _) (StC.trans _ _) ⟨fun _ _ _ _ _ => trivial, trivial⟩ ?main
          case main =>
          iterate 2
            refine wpR_one (A' := ?_) (StC.refl _ _) (by rfl) _ rfl 117 (by rfl) (by rfl) ?_ ?_ ?_
            rotate_left 1
            · simp only [Act.put, List.setIfInBounds_toArray, List.set_cons_zero, List.set_cons_succ]; rfl
            · intro w1 hs hf K hK
              go_big_quiet_op
              first
                | go_big_quiet_on
                | (refine ⟨_, fun _ _ => rfl, ?_⟩; go_big_quiet_on)
              rfl
          refine wpR_one (A' := ?_) (StC.refl _ _) (by rfl) _ rfl 117 (by rfl) (by rfl) ?_ ?_ ?_
          rotate_left 1
          · simp only [Act.put, List.setIfInBounds_toArray, List.set_cons_zero, List.set_cons_succ]; rfl
          · intro w1 hs hf K hK
            refine cls_load_cell 3 (.tmp 70) rfl ⟨Q, 35, none⟩ rfl (.int .i64 (g5.e : Int)) (fun w h => by simp [go_sem, h]) (fun w4 h2 => (StC.trans _ _ _ _ _ hs h2).1.cell (show w5.drew.cell? _ = _ from d35) (by have := QB.out; show Q ≠ w.heap.size; omega)) ?_
            refine hK _ ?_
            simp only [Act.put, List.setIfInBounds_toArray, List.set_cons_zero, List.set_cons_succ]
            rfl
          refine wpR_rel (A' := ?_) (by rfl) ?_ ?_ ?_
          · intro w1 hs hf
            exact does_store_noneC _ _ rfl rfl KZ.out (by rw [HZC.out]; rfl) (hs.2 HR5.out)
          rotate_left 1
          · intro x
            simp only [Act.put, List.setIfInBounds_toArray, List.set_cons_zero, List.set_cons_succ]; rfl
          intro xx
          iterate 1
            refine wpR_one (A' := ?_) (StC.refl _ _) (by rfl) _ rfl 117 (by rfl) (by rfl) ?_ ?_ ?_
            rotate_left 1
            · simp only [Act.put, List.setIfInBounds_toArray, List.set_cons_zero, List.set_cons_succ]; rfl
            · intro w1 hs hf K hK
              go_big_quiet_op
              first
                | go_big_quiet_on
                | (refine ⟨_, fun _ _ => rfl, ?_⟩; go_big_quiet_on)
              rfl
          intro wz hs1 hf
          have h3 := hs1.2 HR5.out
          have T6 := Lib.hid (T5.out.trans ((Turn.refl _ _).drew.trans hs1.1 (fun _ _ h => h)) (fun i hi h => by omega))
          have H3 := Lib.hid h3
          clear hs1 hf h3
          go_wp2_with fail
          refine bodyPost_ret (v := .tuple #[.agg ZC, .int .i64 (g5.e : Int)]) ?_ rfl (ERR.out _ _ RE.out NE.out T6.out)
          exact results_cr Tryz.results10 _ _ w.heap.size _ _ rfl rfl H3.out HSZ.out
        have hzz : ((g5.e : Int) != 0) = false := by rw [hz]; rfl
        have Z5 := Lib.hid (show sE (tF 1 100) (rr3 b) = 0 from G5e.out.symm.trans hz)
        obtain ⟨ok5, at5, an5, ac5⟩ := GE5.out.2.2 (by rw [← GE5.out.1]; exact hz)
        have SW5 := Lib.hid (sl_back Tr.out at5.s)
        have SH5 := Lib.hid (sl_back Tr.out at5.t)
        have SL5 := Lib.hid (sl_fwd T5.out SW5.out)
        have AC5 := Lib.hid (And.intro at5.a at5.c)
        have AH5 := Lib.hid (And.intro an5 ac5)
        have L5 := Lib.hid (show g5.l = rr4 b by rw [ok5.l, HL3.out]; rfl)
        have B5 := Lib.hid (show g5.f.b = rrH b by rw [ok5.b, HL3.out]; rfl)
        have F5 := HQ5.out.facts
        obtain ⟨d1, d2, d35, d36, -⟩ := F5
        obtain ⟨n5, hn5⟩ : ∃ n, n = g5.l.length := ⟨_, rfl⟩
        rw [← hn5] at d36
        have HN5 := Lib.hid hn5
        obtain ⟨nh, hnh⟩ : ∃ n, n = g5.f.b.length := ⟨_, rfl⟩
        rw [← hnh] at d2
        have HNH := Lib.hid hnh
        have HLEN5 := Lib.hid (show g5.l.length ≤ 1000000 by rw [ok5.l]; have h1 := sL_le (tF 1 100) gr.l; have := HLENr.out; omega)
        clear hz hn5 hnh ok5 at5 an5 ac5 GE5
        have TK := Lib.hid (take_full (fun i => w.heap.size ≤ i) g5.A g5.c n5 (g5.l) HN5.out.symm (tF 2 0) w5 rfl (.inr (.inr rfl)) (by show (0 : Nat) < _; decide) SL5.out AC5.out.1 (by have := AC5.out.2; have := HN5.out; omega) (by have := HLEN5.out; have := HN5.out; omega))
        rw [tF_cells] at TK
        go_wp2_with (go_at_call 30; refine stop ?_)
        unfold Stop
        refine TK.out.mono ?_
        rintro r w6a ⟨g6, rfl, hd, hge, hgx, hg0, t⟩
        clear d1 d2 d35 d36 hzz
        have GD6 := Lib.hid hd
        have GE6 := Lib.hid (And.intro hge (And.intro hgx hg0))
        have t6a := t
        clear TK hd hge hgx hg0 t
        obtain ⟨C6, hC6⟩ : ∃ C, C = g6.cells.toArray := ⟨_, rfl⟩
        have GK := Lib.hid (gkeep g6 GD6.out)
        rw [← hC6] at GK ⊢
        have HC6 := Lib.hid hC6
        clear hC6
        have HA := Lib.hid (show w6a.heap[Q]? = some (.cells g5.cells.toArray 75 (0, 0)) from t6a.heap HQ5.out.1 (fun h => h))
        have GS := Lib.hid (show g5.cells.toArray.size = C6.size by rw [GK.out.2.1]; exact (gkeep g5 HQ5.out.2).2.1)
        go_upto_region 20 with (refine wpList_store_row rfl _ _ _ rfl Q C6 rfl rfl 75 g5.cells.toArray HA.out GK.out.1 GS.out GK.out.2.2 ?_)
        obtain ⟨w6, hw⟩ : ∃ w', w' = w6a.setRow Q C6 := ⟨_, rfl⟩
        have tt : Turn (fun i => i = Q) w5 w6 := by rw [hw]; exact (t6a.mono (fun _ _ h => h.elim)).trans ((Turn.refl (fun i => i = Q) _).setRow _ _ (fun _ => rfl)) (fun _ _ h => h)
        have HQ6 := Lib.hid (show GBl w6 Q g6 from ⟨by rw [hw, ← HC6.out]; exact setRow_heap _ _ _ _ _ _ HA.out, GD6.out⟩)
        change Code.wp _ _ _ _ (w6a.setRow Q C6)
        rw [← hw]
        clear hw HA GS
        have T6 := Lib.hid (T5.out.trans tt (fun i hi h => by have := QB.out; omega))
        have HR6 := Lib.hid (tt.heap HR5.out (fun h => by have := QB.out; omega))
        have TA6 := Lib.hid tt
        clear tt t6a GK
        have HC6 := Lib.hid (show CAt w6 (w.heap.size + 1) (CI ids) Ap cp from TA6.out.heap HC5.out hPQ)
        have HO6 := Lib.hid (turn_ownS TA6.out HO5.out (fun g hg h => by have := (HO5.out.lt g hg).1; omega))
        have G6e := Lib.hid (show g6.e = if (rr4 b).length < 32 then 2 else 0 by have := GE6.out.1; rw [L5.out] at this; exact this)
        have RE1 := Lib.hid (show readCE b = if (rr4 b).length < 32 then 2 else if rr5 b ≠ [] then 3 else if readE (rrE b) ≠ 0 then readE (rrE b) else hreadE (rrH b) by
          rw [CE.out, if_neg (by rw [Z1.out]; omega), if_neg (by rw [Z2.out]; omega), if_neg LN.out, if_neg (by rw [Z5.out]; omega)])
        clear HC5 HO5 HR5 HQ5 RE0
        by_cases hz : g6.e = 0
        rotate_left 1
        · have hzz : ((g6.e : Int) != 0) = true := by simp; exact_mod_cast hz
          have F6 := HQ6.out.facts
          have d35 := F6.e
          have RE := Lib.hid (show readCE b = g6.e from by have h := G6e.out; rw [RE1.out]; split at h <;> rename_i h4; (rw [if_pos h4]; exact h.symm); exact absurd h hz)
          have NE := Lib.hid hz
          clear hz F6
          go_upto_region 21 with fail
          refine wp_region_rel 117 (StC w.heap.size ZC) [.one ?_, .one ?_, .one ?_, .rel (fun _ _ => True), .one ?_] (by kernel_rfl) (by kernel_rfl) rfl (by kernel_rfl) (StC.refl _ _) (StC.trans _ _) ⟨fun _ _ _ _ _ => trivial, trivial⟩ ?main
          case main =>
          iterate 2
            refine wpR_one (A' := ?_) (StC.refl _ _) (by rfl) _ rfl 117 (by rfl) (by rfl) ?_ ?_ ?_
            rotate_left 1
            · simp only [Act.put, List.setIfInBounds_toArray, List.set_cons_zero, List.set_cons_succ]; rfl
            · intro w1 hs hf K hK
              go_big_quiet_op
              first
                | go_big_quiet_on
                | (refine ⟨_, fun _ _ => rfl, ?_⟩; go_big_quiet_on)
              rfl
          refine wpR_one (A' := ?_) (StC.refl _ _) (by rfl) _ rfl 117 (by rfl) (by rfl) ?_ ?_ ?_
          rotate_left 1
          · simp only [Act.put, List.setIfInBounds_toArray, List.set_cons_zero, List.set_cons_succ]; rfl
          · intro w1 hs hf K hK
            refine cls_load_cell 3 (.tmp 83) rfl ⟨Q, 35, none⟩ rfl (.int .i64 (g6.e : Int)) (fun w h => by simp [go_sem, h]) (fun w4 h2 => (StC.trans _ _ _ _ _ hs h2).1.cell (show w6.drew.cell? _ = _ from d35) (by have := QB.out; show Q ≠ w.heap.size; omega)) ?_
            refine hK _ ?_
            simp only [Act.put, List.setIfInBounds_toArray, List.set_cons_zero, List.set_cons_succ]
            rfl
          refine wpR_rel (A' := ?_) (by rfl) ?_ ?_ ?_
          · intro w1 hs hf
            exact does_store_noneC _ _ rfl rfl KZ.out (by rw [HZC.out]; rfl) (hs.2 HR6.out)
          rotate_left 1
          · intro x
            simp only [Act.put, List.setIfInBounds_toArray, List.set_cons_zero, List.set_cons_succ]; rfl
          intro xx
          iterate 1
            refine wpR_one (A' := ?_) (StC.refl _ _) (by rfl) _ rfl 117 (by rfl) (by rfl) ?_ ?_ ?_
            rotate_left 1
            · simp only [Act.put, List.setIfInBounds_toArray, List.set_cons_zero, List.set_cons_succ]; rfl
            · intro w1 hs hf K hK
              go_big_quiet_op
              first
                | go_big_quiet_on
                | (refine ⟨_, fun _ _ => rfl, ?_⟩; go_big_quiet_on)
              rfl
          intro wz hs1 hf
          have h3 := hs1.2 HR6.out
          have T6 := Lib.hid (T6.out.trans ((Turn.refl _ _).drew.trans hs1.1 (fun _ _ h => h)) (fun i hi h => by omega))
          have H3 := Lib.hid h3
          clear hs1 hf h3
          go_wp2_with fail
          refine bodyPost_ret (v := .tuple #[.agg ZC, .int .i64 (g6.e : Int)]) ?_ rfl (ERR.out _ _ RE.out NE.out T6.out)
          exact results_cr Tryz.results10 _ _ w.heap.size _ _ rfl rfl H3.out HSZ.out
        have hzz : ((g6.e : Int) != 0) = false := by rw [hz]; rfl
        have Z6 := Lib.hid (show ¬ (rr4 b).length < 32 by have h := G6e.out; rw [hz] at h; split at h <;> omega)
        obtain ⟨ok6, at6, -, -⟩ := GE6.out.2.2 (by rw [← GE6.out.1]; exact hz)
        have hd6 : g6.f.d = (rr4 b).take 32 := by rw [ok6.d, L5.out]; rfl
        have hl6 : g6.l = rr5 b := by rw [ok6.l, L5.out]; rfl
        have HD6 := Lib.hid hd6
        have F6 := HQ6.out.facts
        obtain ⟨-, -, d35, d36, dd⟩ := F6
        obtain ⟨n6, hn6⟩ : ∃ n, n = g6.l.length := ⟨_, rfl⟩
        rw [← hn6] at d36
        have HN6 := Lib.hid (show n6 = (rr5 b).length by rw [hn6, hl6])
        obtain ⟨DC, hDC⟩ : ∃ D, D = (g6.f.d.map bv).toArray := ⟨_, rfl⟩
        rw [← hDC] at dd
        have sDC : DC.size = 32 := by rw [hDC]; simp [GD6.out]
        have DK := Lib.hid (show (Tryz.prog.info? 24).map (·.size) = some DC.size ∧ DC.all (·.oneCell') = true from ⟨by rw [sDC]; exact id_info, by rw [hDC]; exact all_oneCell_toArray (bv_one _)⟩)
        have CIL := Lib.hid (CI_L ids I32.out)
        have TH := Lib.hid (show w6.there (w.heap.size + 1) 105 DC.size by rw [sDC]; exact HC6.out.there CIL.out 105 32 (by omega))
        have HDC := Lib.hid hDC
        clear hz ok6 at6 hd6 hl6 hn6 hDC sDC GE6
        go_upto_region 23 with (refine wpList_store_mid rfl _ _ _ rfl (w.heap.size + 1) 105 DC rfl rfl TH.out DK.out.1 DK.out.2 ?_)
        obtain ⟨hs7, ts7⟩ := HC6.out.setT CIL.out g6.f.d GD6.out
        rw [show g6.f.d.map bv = DC.toList by rw [HDC.out]] at hs7 ts7
        obtain ⟨w7, hw7⟩ : ∃ w7, w7 = w6.setCells (w.heap.size + 1) 105 DC.toList := ⟨_, rfl⟩
        rw [← hw7] at hs7 ts7
        change Code.wp _ _ _ _ (w6.setCells (w.heap.size + 1) 105 DC.toList)
        rw [← hw7]
        have HC7 := Lib.hid hs7
        have T7 := Lib.hid (show Turn (fun _ => False) w w7 from T6.out.trans ts7 (fun i hi h => by have h' : i = w.heap.size + 1 := h; omega))
        have HO7 := Lib.hid (turn_ownS ts7 HO6.out (fun g hg h => by have h' : g = w.heap.size + 1 := h; have := (HO6.out.lt g hg).1; have := QB.out; omega))
        have HR7 := Lib.hid (ts7.heap HR6.out (fun h => by have h' : w.heap.size = w.heap.size + 1 := h; omega))
        have e36 := ts7.cell d36 (fun h => by have h' : Q = w.heap.size + 1 := h; have := QB.out; omega)
        have L7 := Lib.hid (show ({ CI ids with t := g6.f.d } : Crt).L from ⟨rfl, HZ_L, GD6.out, I32.out⟩)
        clear hw7 hs7 ts7 d35 d36 dd TH DK HC6 HO6 HR6 HQ6 hzz
        by_cases h5 : rr5 b = []
        rotate_left 1
        · have hn0 : 0 < n6 := by rw [HN6.out]; exact List.length_pos_iff.2 h5
          have tn : decide (0 < (n6 : Int)) = true := by rw [decide_eq_true_eq]; omega
          have tn2 : decide (0 < n6) = true := by rw [decide_eq_true_eq]; omega
          have RE := Lib.hid (show readCE b = 3 by rw [RE1.out, if_neg Z6.out, if_pos h5])
          clear h5
          go_wp2_with (refine wpList_store_row rfl _ _ _ rfl w.heap.size ZC rfl (by rw [HZC.out]; rfl) 35 ZC HR7.out KZ.out.1 rfl KZ.out.2 ?_)
          have h3 := setRow_heap w7 w.heap.size ZC ZC 35 (0, 0) HR7.out
          refine bodyPost_ret (v := .tuple #[.agg ZC, .int .i64 3]) ?_ rfl (ERR.out 3 _ RE.out (by decide) (T7.out.trans ((Turn.refl (fun i => i = w.heap.size) _).setRow _ _ (fun _ => rfl)) (fun i hi h => by have h' : i = w.heap.size := h; omega)))
          exact results_cr Tryz.results10 _ _ w.heap.size _ _ rfl rfl h3 HSZ.out
        have hn0 : n6 = 0 := by rw [HN6.out, h5]; rfl
        have RE2 := Lib.hid (show readCE b = if readE (rrE b) ≠ 0 then readE (rrE b) else hreadE (rrH b) by rw [RE1.out, if_neg Z6.out, if_neg (by rw [h5]; simp)])
        have EV := Lib.hid (eread_any g2.f.A g2.f.c g2.f.b w7 (sl_fwd T7.out SEW.out).sl AE2.out.1 AE2.out.2 (by rw [B2.out]; show ((numR b).take (numV b)).length ≤ _; rw [List.length_take]; have := numR_le b; have := HLEN.out; omega))
        rw [← HNE.out] at EV
        have RVL := Lib.hid (readV_d (rrE b))
        rw [B2.out] at EV
        obtain ⟨EV1, hEV⟩ : ∃ L, L = (readV (rrE b)).cells := ⟨_, rfl⟩
        obtain ⟨xe, hxe⟩ : ∃ x, x = readE (rrE b) := ⟨_, rfl⟩
        rw [← hEV, ← hxe] at EV
        rw [← hxe] at RE2
        have nEV : EV1.length = 37 := by rw [hEV]; exact Ent.len _ RVL.out
        have EK1 := Lib.hid (show (Tryz.prog.info? 27).map (·.size) = some EV1.toArray.size ∧ Z37E.size = EV1.toArray.size ∧ EV1.toArray.all (·.oneCell') = true from ⟨by rw [List.size_toArray, nEV]; exact en_info, (show Z37E.size = 37 from rfl).trans (by rw [List.size_toArray, nEV]), by rw [hEV]; exact Ent.one _⟩)
        have HEV := Lib.hid hEV
        have HNV := Lib.hid nEV
        clear h5 hEV hxe nEV
        subst hn0
        go_wp2_with (go_at_call 31; refine stop ?_)
        unfold Stop
        refine EV.out.mono ?_
        rintro r w8 ⟨rfl, t8⟩
        have T8 := Lib.hid (T7.out.trans t8 (fun _ _ h => h))
        have HC8 := Lib.hid (show CAt w8 (w.heap.size + 1) { CI ids with t := g6.f.d } Ap cp from t8.heap HC7.out (fun h => h))
        have HO8 := Lib.hid (turn_ownS t8 HO7.out (fun _ _ h => h))
        have HR8 := Lib.hid (t8.heap HR7.out (fun h => h))
        clear t8 e36 HC7 HO7 HR7 EV
        have HA := Lib.hid (show (w8.alloc (.cells Z37E 27)).heap[w8.heap.size]? = some (.cells Z37E 27 (0, 0)) from heap_alloc_new _ _)
        go_upto_region 26 with (refine wpList_store_row rfl _ _ _ rfl w8.heap.size EV1.toArray rfl rfl 27 Z37E HA.out EK1.out.1 EK1.out.2.1 EK1.out.2.2 ?_)
        obtain ⟨w9, hw9⟩ : ∃ w', w' = (w8.alloc (.cells Z37E 27)).setRow w8.heap.size EV1.toArray := ⟨_, rfl⟩
        have t9 : Turn (fun _ => False) w8 w9 := by rw [hw9]; exact ((Turn.refl (fun _ => False) w8).alloc _).setRow _ _ (fun h => by omega)
        have HG9 := Lib.hid (show w9.heap[w8.heap.size]? = some (.cells EV1.toArray 27 (0, 0)) by rw [hw9]; exact setRow_heap _ _ _ _ _ _ HA.out)
        have HP10 := Lib.hid (show w.heap.size + 1 < w8.heap.size from lt_of_block HC8.out)
        change Code.wp _ _ _ _ ((w8.alloc (.cells Z37E 27)).setRow w8.heap.size EV1.toArray)
        rw [← hw9]
        have T9 := Lib.hid (T8.out.trans t9 (fun _ _ h => h))
        have HC9 := Lib.hid (show CAt w9 (w.heap.size + 1) { CI ids with t := g6.f.d } Ap cp from t9.heap HC8.out (fun h => h))
        have HO9 := Lib.hid (turn_ownS t9 HO8.out (fun _ _ h => h))
        have HR9 := Lib.hid (t9.heap HR8.out (fun h => h))
        clear hw9 t9 HA HC8 HO8 HR8 T8
        generalize w8.heap.size = p10 at *
        by_cases hxe : xe = 0
        rotate_left 1
        · have hzz : ((xe : Int) != 0) = true := by simp; exact_mod_cast hxe
          have RE := Lib.hid (show readCE b = xe by rw [RE2.out, if_pos hxe])
          have NE := Lib.hid hxe
          clear hxe
          go_wp2_with (refine wpList_store_row rfl _ _ _ rfl w.heap.size ZC rfl (by rw [HZC.out]; rfl) 35 ZC HR9.out KZ.out.1 rfl KZ.out.2 ?_)
          have h3 := setRow_heap w9 w.heap.size ZC ZC 35 (0, 0) HR9.out
          refine bodyPost_ret (v := .tuple #[.agg ZC, .int .i64 (xe : Int)]) ?_ rfl (ERR.out xe _ RE.out NE.out (T9.out.trans ((Turn.refl (fun i => i = w.heap.size) _).setRow _ _ (fun _ => rfl)) (fun i hi h => by have h' : i = w.heap.size := h; omega)))
          exact results_cr Tryz.results10 _ _ w.heap.size _ _ rfl rfl h3 HSZ.out
        have hzz : ((xe : Int) != 0) = false := by rw [hxe]; rfl
        have RE3 := Lib.hid (show readCE b = hreadE (rrH b) by rw [RE2.out, if_neg (by rw [hxe]; simp)])
        have HV := Lib.hid (hrread_any g5.f.A g5.f.c g5.f.b w9 (sl_fwd T9.out SH5.out).sl AH5.out.1 AH5.out.2 (by rw [B5.out]; show ((numR (rr3 b)).take (numV (rr3 b))).length ≤ _; rw [List.length_take]; have := numR_le (rr3 b); have h1 : (rr3 b).length ≤ 1000000 := (by rw [← HL3.out]; exact HLENr.out); omega))
        rw [← HNH.out] at HV
        rw [B5.out] at HV
        obtain ⟨HV1, hHV⟩ : ∃ L, L = (hreadV (rrH b)).cells := ⟨_, rfl⟩
        obtain ⟨xh, hxh⟩ : ∃ x, x = hreadE (rrH b) := ⟨_, rfl⟩
        rw [← hHV, ← hxh] at HV
        rw [← hxh] at RE3
        have nHV : HV1.length = 67 := by rw [hHV]; exact Hdr.len _ (hreadV_L _)
        have HK1 := Lib.hid (show (Tryz.prog.info? 33).map (·.size) = some HV1.toArray.size ∧ Z67H.size = HV1.toArray.size ∧ HV1.toArray.all (·.oneCell') = true from ⟨by rw [List.size_toArray, nHV]; exact hd_info, (show Z67H.size = 67 from rfl).trans (by rw [List.size_toArray, nHV]), by rw [hHV]; exact Hdr.one _⟩)
        have HHV := Lib.hid hHV
        have HNHV := Lib.hid nHV
        clear hxe hHV hxh nHV
        go_wp2_with (go_at_call 32; refine stop ?_)
        unfold Stop
        refine HV.out.mono ?_
        rintro r w10 ⟨rfl, t10⟩
        have T10 := Lib.hid (T9.out.trans t10 (fun _ _ h => h))
        have HC10 := Lib.hid (show CAt w10 (w.heap.size + 1) { CI ids with t := g6.f.d } Ap cp from t10.heap HC9.out (fun h => h))
        have HO10 := Lib.hid (turn_ownS t10 HO9.out (fun _ _ h => h))
        have HR10 := Lib.hid (t10.heap HR9.out (fun h => h))
        have HG10 := Lib.hid (t10.heap HG9.out (fun h => h))
        clear t10 HC9 HO9 HR9 HG9 T9 HV hzz
        have HA := Lib.hid (show (w10.alloc (.cells Z67H 33)).heap[w10.heap.size]? = some (.cells Z67H 33 (0, 0)) from heap_alloc_new _ _)
        go_upto_region 29 with (refine wpList_store_row rfl _ _ _ rfl w10.heap.size HV1.toArray rfl rfl 33 Z67H HA.out HK1.out.1 HK1.out.2.1 HK1.out.2.2 ?_)
        obtain ⟨w11, hw11⟩ : ∃ w', w' = (w10.alloc (.cells Z67H 33)).setRow w10.heap.size HV1.toArray := ⟨_, rfl⟩
        have t11 : Turn (fun _ => False) w10 w11 := by rw [hw11]; exact ((Turn.refl (fun _ => False) w10).alloc _).setRow _ _ (fun h => by omega)
        have HH11 := Lib.hid (show w11.heap[w10.heap.size]? = some (.cells HV1.toArray 33 (0, 0)) by rw [hw11]; exact setRow_heap _ _ _ _ _ _ HA.out)
        have HP12 := Lib.hid (show w.heap.size + 1 < w10.heap.size from lt_of_block HC10.out)
        change Code.wp _ _ _ _ ((w10.alloc (.cells Z67H 33)).setRow w10.heap.size HV1.toArray)
        rw [← hw11]
        have T11 := Lib.hid (T10.out.trans t11 (fun _ _ h => h))
        have HC11 := Lib.hid (show CAt w11 (w.heap.size + 1) { CI ids with t := g6.f.d } Ap cp from t11.heap HC10.out (fun h => h))
        have HO11 := Lib.hid (turn_ownS t11 HO10.out (fun _ _ h => h))
        have HR11 := Lib.hid (t11.heap HR10.out (fun h => h))
        have HG11 := Lib.hid (t11.heap HG10.out (fun h => h))
        clear hw11 t11 HA HC10 HO10 HR10 HG10 T10
        generalize w10.heap.size = p12 at *
        by_cases hxh : xh = 0
        rotate_left 1
        · have hzz : ((xh : Int) != 0) = true := by simp; exact_mod_cast hxh
          have NE := Lib.hid hxh
          clear hxh
          go_wp2_with (refine wpList_store_row rfl _ _ _ rfl w.heap.size ZC rfl (by rw [HZC.out]; rfl) 35 ZC HR11.out KZ.out.1 rfl KZ.out.2 ?_)
          have h3 := setRow_heap w11 w.heap.size ZC ZC 35 (0, 0) HR11.out
          refine bodyPost_ret (v := .tuple #[.agg ZC, .int .i64 (xh : Int)]) ?_ rfl (ERR.out xh _ RE3.out NE.out (T11.out.trans ((Turn.refl (fun i => i = w.heap.size) _).setRow _ _ (fun _ => rfl)) (fun i hi h => by have h' : i = w.heap.size := h; omega)))
          exact results_cr Tryz.results10 _ _ w.heap.size _ _ rfl rfl h3 HSZ.out
        have hzz : ((xh : Int) != 0) = false := by rw [hxh]; rfl
        have RE4 := Lib.hid (show readCE b = 0 by rw [RE3.out, hxh])
        clear hxh
        have rE := (show rowOf w11 p10 0 37 = some EV1.toArray by have := rowOf_block HG11.out 0 37 (by rw [HNV.out]; omega); rwa [List.drop_zero, List.take_of_length_le (by rw [HNV.out]; exact Nat.le_refl _)] at this)
        have TH := Lib.hid (show w11.there (w.heap.size + 1) 0 EV1.toArray.size by have e : EV1.toArray.size = 37 := (by rw [List.size_toArray]; exact HNV.out); rw [e]; exact HC11.out.there L7.out 0 37 (by omega))
        go_upto_region 32 with (refine wpList_store_mid rfl _ _ _ rfl (w.heap.size + 1) 0 EV1.toArray rfl rfl TH.out EK1.out.1 EK1.out.2.2 ?_)
        obtain ⟨hs12, ts12⟩ := HC11.out.setE L7.out (readV (rrE b)) RVL.out
        rw [← HEV.out] at hs12 ts12
        obtain ⟨w12, hw12⟩ : ∃ w', w' = w11.setCells (w.heap.size + 1) 0 EV1.toArray.toList := ⟨_, rfl⟩
        rw [show EV1 = EV1.toArray.toList from rfl, ← hw12] at hs12 ts12
        change Code.wp _ _ _ _ (w11.setCells (w.heap.size + 1) 0 EV1.toArray.toList)
        rw [← hw12]
        have HC12 := Lib.hid hs12
        have T12 := Lib.hid (show Turn (fun _ => False) w w12 from T11.out.trans ts12 (fun i hi h => by have h' : i = w.heap.size + 1 := h; omega))
        have HO12 := Lib.hid (turn_ownS ts12 HO11.out (fun g hg h => by have h' : g = w.heap.size + 1 := h; have := (HO11.out.lt g hg).1; have := QB.out; omega))
        have HR12 := Lib.hid (ts12.heap HR11.out (fun h => by have h' : w.heap.size = w.heap.size + 1 := h; omega))
        have HH12 := Lib.hid (ts12.heap HH11.out (fun h => by have h' : p12 = w.heap.size + 1 := h; have := HP12.out; omega))
        have L12 := Lib.hid (show ({ { CI ids with t := g6.f.d } with e := readV (rrE b) } : Crt).L from ⟨RVL.out, HZ_L, GD6.out, I32.out⟩)
        clear hw12 hs12 ts12 rE TH HC11 HO11 HR11 HG11 HH11 T11
        have rH := (show rowOf w12 p12 0 67 = some HV1.toArray by have := rowOf_block HH12.out 0 67 (by rw [HNHV.out]; omega); rwa [List.drop_zero, List.take_of_length_le (by rw [HNHV.out]; exact Nat.le_refl _)] at this)
        have TH := Lib.hid (show w12.there (w.heap.size + 1) 38 HV1.toArray.size by have e : HV1.toArray.size = 67 := (by rw [List.size_toArray]; exact HNHV.out); rw [e]; exact HC12.out.there L12.out 38 67 (by omega))
        go_upto_region 33 with (refine wpList_store_mid rfl _ _ _ rfl (w.heap.size + 1) 38 HV1.toArray rfl rfl TH.out HK1.out.1 HK1.out.2.2 ?_)
        obtain ⟨hs13, ts13⟩ := HC12.out.setH L12.out (hreadV (rrH b)) (hreadV_L _)
        rw [← HHV.out] at hs13 ts13
        obtain ⟨w13, hw13⟩ : ∃ w', w' = w12.setCells (w.heap.size + 1) 38 HV1.toArray.toList := ⟨_, rfl⟩
        rw [show HV1 = HV1.toArray.toList from rfl, ← hw13] at hs13 ts13
        change Code.wp _ _ _ _ (w12.setCells (w.heap.size + 1) 38 HV1.toArray.toList)
        rw [← hw13]
        have HC13 := Lib.hid hs13
        have T13 := Lib.hid (show Turn (fun _ => False) w w13 from T12.out.trans ts13 (fun i hi h => by have h' : i = w.heap.size + 1 := h; omega))
        have HO13 := Lib.hid (turn_ownS ts13 HO12.out (fun g hg h => by have h' : g = w.heap.size + 1 := h; have := (HO12.out.lt g hg).1; have := QB.out; omega))
        have HR13 := Lib.hid (ts13.heap HR12.out (fun h => by have h' : w.heap.size = w.heap.size + 1 := h; omega))
        clear hw13 hs13 ts13 rH TH HC12 HO12 HR12 HH12 T12
        have hV : readCV b = ⟨readV (rrE b), hreadV (rrH b), g6.f.d, ids⟩ := by
          unfold readCV
          rw [if_neg (by rw [RE4.out]; simp), HD6.out, IFULL.out]
        have LV := Lib.hid (show (readCV b).L by rw [hV]; exact ⟨RVL.out, hreadV_L _, GD6.out, I32.out⟩)
        have HC14 := Lib.hid (show CAt w13 (w.heap.size + 1) (readCV b) Ap cp by rw [hV]; exact HC13.out)
        have HV := Lib.hid (show (readCV b).ids = ids by rw [hV])
        obtain ⟨XC, hXC⟩ : ∃ X, X = ((readCV b).cells Ap cp).toArray := ⟨_, rfl⟩
        have rA := (HC14.out.facts LV.out).all
        rw [← hXC] at rA
        have sX : XC.size = 137 := by rw [hXC, List.size_toArray, Crt.len _ _ _ LV.out]
        have XK := Lib.hid (show (Tryz.prog.info? 35).map (·.size) = some XC.size ∧ ZC.size = XC.size ∧ XC.all (·.oneCell') = true from ⟨by rw [sX]; exact cr_info, by rw [sX, HSZ.out], by rw [hXC]; exact Crt.one _ _ _⟩)
        have HXC := Lib.hid hXC
        have HSX := Lib.hid sX
        clear hV hXC sX HC13 HC14
        go_wp2_with (refine wpList_store_row rfl _ _ _ rfl w.heap.size XC rfl rfl 35 ZC HR13.out XK.out.1 XK.out.2.1 XK.out.2.2 ?_)
        have h3 := setRow_heap w13 w.heap.size ZC XC 35 (0, 0) HR13.out
        have tz : Turn (fun i => i = w.heap.size) w13 (w13.setRow w.heap.size XC) := (Turn.refl _ _).setRow _ _ (fun _ => rfl)
        have HOZ := Lib.hid (turn_ownS tz HO13.out (fun g hg h => by have h' : g = w.heap.size := h; have := (HO13.out.lt g hg).1; have := QB.out; omega))
        refine bodyPost_ret (v := .tuple #[.agg XC, .int .i64 0]) ?_ rfl ⟨Ap, cp, by rw [HXC.out, RE4.out]; rfl, ?_, T13.out.trans tz (fun i hi h => by have h' : i = w.heap.size := h; omega)⟩
        · exact results_cr Tryz.results10 _ _ w.heap.size _ _ rfl rfl h3 HSX.out
        · obtain ⟨A', c', e', hc', hn'⟩ := own_slN HOZ.out
          injection e' with e1 e2 e3
          subst e1 e3
          unfold CPath
          rw [HV.out]
          exact ⟨IdsAt.of_own HOZ.out I32.out, by rw [IL.out]; exact hc', hn'⟩
    · have hz0 : ((gr.e : Int) == 0) = false := by simp; omega
      have BAD := Lib.hid (HI.out.bad hge)
      have Frr := HQr.out.facts
      obtain ⟨-, -, d35, -, -⟩ := Frr
      by_cases hlt : k < nn
      · have t1 : decide ((k : Int) < (nn : Int)) = true := by rw [decide_eq_true_eq]; omega
        have hz := hge
        have hzz : ((gr.e : Int) != 0) = true := by simp; exact_mod_cast hz
        have Fr := HQr.out.facts
        have RE := Lib.hid (show readCE b = gr.e from BAD.out)
        have NE := Lib.hid hz
        clear hz hge Fr d35
        have d35 := HQr.out.facts.e
        go_upto_region 14 with fail
        refine wp_region_rel 117 (StC w.heap.size ZC) [.one ?_, .one ?_, .one ?_, .rel (fun _ _ => True), .one ?_] (by kernel_rfl) (by kernel_rfl) rfl (by kernel_rfl) (StC.refl _ _) (StC.trans _ _) ⟨fun _ _ _ _ _ => trivial, trivial⟩ ?main
        case main =>
        iterate 2
          refine wpR_one (A' := ?_) (StC.refl _ _) (by rfl) _ rfl 117 (by rfl) (by rfl) ?_ ?_ ?_
          rotate_left 1
          · simp only [Act.put, List.setIfInBounds_toArray, List.set_cons_zero, List.set_cons_succ]; rfl
          · intro w1 hs hf K hK
            go_big_quiet_op
            first
              | go_big_quiet_on
              | (refine ⟨_, fun _ _ => rfl, ?_⟩; go_big_quiet_on)
            rfl
        refine wpR_one (A' := ?_) (StC.refl _ _) (by rfl) _ rfl 117 (by rfl) (by rfl) ?_ ?_ ?_
        rotate_left 1
        · simp only [Act.put, List.setIfInBounds_toArray, List.set_cons_zero, List.set_cons_succ]; rfl
        · intro w1 hs hf K hK
          refine cls_load_cell 3 (.tmp 60) rfl ⟨Q, 35, none⟩ rfl (.int .i64 (gr.e : Int)) (fun w h => by simp [go_sem, h]) (fun w4 h2 => (StC.trans _ _ _ _ _ hs h2).1.cell (show wr.drew.cell? _ = _ from d35) (by have := QB.out; show Q ≠ w.heap.size; omega)) ?_
          refine hK _ ?_
          simp only [Act.put, List.setIfInBounds_toArray, List.set_cons_zero, List.set_cons_succ]
          rfl
        refine wpR_rel (A' := ?_) (by rfl) ?_ ?_ ?_
        · intro w1 hs hf
          exact does_store_noneC _ _ rfl rfl KZ.out (by rw [HZC.out]; rfl) (hs.2 HRr.out)
        rotate_left 1
        · intro x
          simp only [Act.put, List.setIfInBounds_toArray, List.set_cons_zero, List.set_cons_succ]; rfl
        intro xx
        iterate 1
          refine wpR_one (A' := ?_) (StC.refl _ _) (by rfl) _ rfl 117 (by rfl) (by rfl) ?_ ?_ ?_
          rotate_left 1
          · simp only [Act.put, List.setIfInBounds_toArray, List.set_cons_zero, List.set_cons_succ]; rfl
          · intro w1 hs hf K hK
            go_big_quiet_op
            first
              | go_big_quiet_on
              | (refine ⟨_, fun _ _ => rfl, ?_⟩; go_big_quiet_on)
            rfl
        intro wz hs1 hf
        have h3 := hs1.2 HRr.out
        have T6 := Lib.hid (Tr.out.trans ((Turn.refl _ _).drew.trans hs1.1 (fun _ _ h => h)) (fun i hi h => by omega))
        have H3 := Lib.hid h3
        clear hs1 hf h3
        go_wp2_with fail
        refine bodyPost_ret (v := .tuple #[.agg ZC, .int .i64 (gr.e : Int)]) ?_ rfl (ERR.out _ _ RE.out NE.out T6.out)
        exact results_cr Tryz.results10 _ _ w.heap.size _ _ rfl rfl H3.out HSZ.out
      · have t1 : decide ((k : Int) < (nn : Int)) = false := by rw [decide_eq_false_iff_not]; omega
        have hz := hge
        have hzz : ((gr.e : Int) != 0) = true := by simp; exact_mod_cast hz
        have Fr := HQr.out.facts
        have RE := Lib.hid (show readCE b = gr.e from BAD.out)
        have NE := Lib.hid hz
        clear hz hge Fr d35
        have d35 := HQr.out.facts.e
        go_upto_region 14 with fail
        refine wp_region_rel 117 (StC w.heap.size ZC) [.one ?_, .one ?_, .one ?_, .rel (fun _ _ => True), .one ?_] (by kernel_rfl) (by kernel_rfl) rfl (by kernel_rfl) (StC.refl _ _) (StC.trans _ _) ⟨fun _ _ _ _ _ => trivial, trivial⟩ ?main
        case main =>
        iterate 2
          refine wpR_one (A' := ?_) (StC.refl _ _) (by rfl) _ rfl 117 (by rfl) (by rfl) ?_ ?_ ?_
          rotate_left 1
          · simp only [Act.put, List.setIfInBounds_toArray, List.set_cons_zero, List.set_cons_succ]; rfl
          · intro w1 hs hf K hK
            go_big_quiet_op
            first
              | go_big_quiet_on
              | (refine ⟨_, fun _ _ => rfl, ?_⟩; go_big_quiet_on)
            rfl
        refine wpR_one (A' := ?_) (StC.refl _ _) (by rfl) _ rfl 117 (by rfl) (by rfl) ?_ ?_ ?_
        rotate_left 1
        · simp only [Act.put, List.setIfInBounds_toArray, List.set_cons_zero, List.set_cons_succ]; rfl
        · intro w1 hs hf K hK
          refine cls_load_cell 3 (.tmp 60) rfl ⟨Q, 35, none⟩ rfl (.int .i64 (gr.e : Int)) (fun w h => by simp [go_sem, h]) (fun w4 h2 => (StC.trans _ _ _ _ _ hs h2).1.cell (show wr.drew.cell? _ = _ from d35) (by have := QB.out; show Q ≠ w.heap.size; omega)) ?_
          refine hK _ ?_
          simp only [Act.put, List.setIfInBounds_toArray, List.set_cons_zero, List.set_cons_succ]
          rfl
        refine wpR_rel (A' := ?_) (by rfl) ?_ ?_ ?_
        · intro w1 hs hf
          exact does_store_noneC _ _ rfl rfl KZ.out (by rw [HZC.out]; rfl) (hs.2 HRr.out)
        rotate_left 1
        · intro x
          simp only [Act.put, List.setIfInBounds_toArray, List.set_cons_zero, List.set_cons_succ]; rfl
        intro xx
        iterate 1
          refine wpR_one (A' := ?_) (StC.refl _ _) (by rfl) _ rfl 117 (by rfl) (by rfl) ?_ ?_ ?_
          rotate_left 1
          · simp only [Act.put, List.setIfInBounds_toArray, List.set_cons_zero, List.set_cons_succ]; rfl
          · intro w1 hs hf K hK
            go_big_quiet_op
            first
              | go_big_quiet_on
              | (refine ⟨_, fun _ _ => rfl, ?_⟩; go_big_quiet_on)
            rfl
        intro wz hs1 hf
        have h3 := hs1.2 HRr.out
        have T6 := Lib.hid (Tr.out.trans ((Turn.refl _ _).drew.trans hs1.1 (fun _ _ h => h)) (fun i hi h => by omega))
        have H3 := Lib.hid h3
        clear hs1 hf h3
        go_wp2_with fail
        refine bodyPost_ret (v := .tuple #[.agg ZC, .int .i64 (gr.e : Int)]) ?_ rfl (ERR.out _ _ RE.out NE.out T6.out)
        exact results_cr Tryz.results10 _ _ w.heap.size _ _ rfl rfl H3.out HSZ.out
end
end Go.Proofs.YthoaaieiiokcmaaGreatDoor
