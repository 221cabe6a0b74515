/- Merged: The contract of the document's 'Read'. -/
import Derived.Test.YthoaaieiiokcmaaGreatDoorM28
import Derived.BigRegion
namespace Go.Proofs.YthoaaieiiokcmaaGreatDoor
section
set_option linter.unusedVariables false
set_option linter.unusedSimpArgs false
open Go.RowKit
attribute [local go_sem ↓] loadAt_en loadAt_id loadAt_fd
attribute [local go_sem] run_enLoad run_idLoad run_fdLoad rowOf_drew rowOf_drewN
abbrev M6 : Array Value := #[.int .u64 3, .int .u64 63, .int .u64 0, .int .u64 4611686018427387904, .int .u64 63, .int .u64 1099511627776]
abbrev Z32 : Array Value := #[.int .u8 0, .int .u8 0, .int .u8 0, .int .u8 0, .int .u8 0, .int .u8 0, .int .u8 0, .int .u8 0, .int .u8 0, .int .u8 0, .int .u8 0, .int .u8 0, .int .u8 0, .int .u8 0, .int .u8 0, .int .u8 0, .int .u8 0, .int .u8 0, .int .u8 0, .int .u8 0, .int .u8 0, .int .u8 0, .int .u8 0, .int .u8 0, .int .u8 0, .int .u8 0, .int .u8 0, .int .u8 0, .int .u8 0, .int .u8 0, .int .u8 0, .int .u8 0]
theorem m6_at (k : Nat) (hk : k < 6) : (M6 : Array Value)[k]? = some (.int .u64 (fM k : Int)) := by
  rcases (show k = 0 ∨ k = 1 ∨ k = 2 ∨ k = 3 ∨ k = 4 ∨ k = 5 by omega) with rfl | rfl | rfl | rfl | rfl | rfl <;> rfl
theorem fk_no {k : Nat} (h : k ≠ 2) : (fk k).cells.toArray = FL 0 (fM k) := by unfold fk; rw [if_neg h]; rfl
theorem fk_kind (k : Nat) : (fk k).k = 0 ∨ (fk k).k = 1 ∨ (fk k).k = 2 := by
  unfold fk; by_cases h : k = 2
  · rw [if_pos h]; exact .inr (.inr rfl)
  · rw [if_neg h]; exact .inl rfl
set_option maxRecDepth 100000 in
set_option maxRecDepth 100000 in
theorem built_en32 (x0 x1 x2 x3 x4 x5 x6 x7 x8 x9 x10 x11 x12 x13 x14 x15 x16 x17 x18 x19 x20 x21 x22 x23 x24 x25 x26 x27 x28 x29 x30 x31 : Value) (k s a y p : Int) : Tryz.prog.built 27 [(0, .int .i64 k), (1, .int .i64 s), (2, .agg #[x0, x1, x2, x3, x4, x5, x6, x7, x8, x9, x10, x11, x12, x13, x14, x15, x16, x17, x18, x19, x20, x21, x22, x23, x24, x25, x26, x27, x28, x29, x30, x31]), (3, .int .u64 a), (4, .int .i64 y), (5, .int .i64 p)] = some #[.int .i64 k, .int .i64 s, x0, x1, x2, x3, x4, x5, x6, x7, x8, x9, x10, x11, x12, x13, x14, x15, x16, x17, x18, x19, x20, x21, x22, x23, x24, x25, x26, x27, x28, x29, x30, x31, .int .u64 a, .int .i64 y, .int .i64 p] := by kernel_rfl
set_option maxRecDepth 100000 in
theorem built_en (l : List Value) (k s a y p : Int) (h : l.length = 32) : Tryz.prog.built 27 [(0, .int .i64 k), (1, .int .i64 s), (2, .agg l.toArray), (3, .int .u64 a), (4, .int .i64 y), (5, .int .i64 p)] = some ([Value.int .i64 k, .int .i64 s] ++ (l ++ [Value.int .u64 a, .int .i64 y, .int .i64 p])).toArray := by
  match l, h with
  | [x0, x1, x2, x3, x4, x5, x6, x7, x8, x9, x10, x11, x12, x13, x14, x15, x16, x17, x18, x19, x20, x21, x22, x23, x24, x25, x26, x27, x28, x29, x30, x31], _ => exact built_en32 x0 x1 x2 x3 x4 x5 x6 x7 x8 x9 x10 x11 x12 x13 x14 x15 x16 x17 x18 x19 x20 x21 x22 x23 x24 x25 x26 x27 x28 x29 x30 x31 k s a y p
theorem dd_step {k : Nat} {b : List B8} (h : k ≠ 2) : dd (k + 1) b = dd k b := by
  unfold dd
  by_cases h2 : k ≤ 2
  · rw [if_pos h2, if_pos (by omega)]
  · rw [if_neg h2, if_neg (by omega)]
/-- The result's block holds no entry, and whatever is stored there is none. -/
def StZ (W : Nat) (w w' : World) : Prop := Turn (fun i => i = W) w w' ∧ (w.heap[W]? = some (.cells Z37E 27 (0, 0)) → w'.heap[W]? = some (.cells Z37E 27 (0, 0)))
theorem StZ.refl (W : Nat) (w : World) : StZ W w w := ⟨Turn.refl _ _, fun h => h⟩
theorem StZ.trans (W : Nat) (a b c : World) (h : StZ W a b) (k : StZ W b c) : StZ W a c := ⟨h.1.trans k.1 (fun _ _ h => h), fun g => k.2 (h.2 g)⟩
set_option maxRecDepth 100000 in
theorem does_store_none {o : Oper} {a : Act} {w : World} {W : Nat} (x y : Operand) (ho : o.op = .store 27 x y) (hx : a.eval x = .pointer (some ⟨W, 0, none⟩)) (C : Array Value) (hC : C = Z37E) (hy : a.eval y = .agg C) (hg : w.heap[W]? = some (.cells Z37E 27 (0, 0))) : doesR Tryz.prog o a w (fun _ w' => True ∧ StZ W w w') := by
  have hs : Z37E.size = C.size := by rw [hC]
  have hi : (Tryz.prog.info? 27).map (·.size) = some C.size := by rw [hC]; exact en_info
  have h1 : C.all (·.oneCell') = true := by rw [hC, ← EZ_eq]; exact Ent.one _
  unfold doesR execOp
  simp only [ho, hx, hy, Instr.storeAt, Instr.sureAddr, Sem.run_bind, Sem.run_pure, Result.andThen_ok, run_storeVar_row w W _ 27 Z37E C hg hi hs h1]
  refine ⟨trivial, (Turn.refl _ _).setRow _ _ (fun _ => rfl), fun _ => ?_⟩
  rw [setRow_heap w W Z37E C _ _ hg, hC]
set_option maxRecDepth 100000 in
theorem results_er {fn : Func} {p u : Tmp} (h : fn.results = #[.cell p 27, .tmp u]) (tmps : Array Value) (w : World) (g : Nat) (cs : Array Value) (v : Value)
    (hp : tmps.getD p undef = .pointer (some ⟨g, 0, none⟩)) (hv : tmps.getD u undef = v) (hg : w.heap[g]? = some (.cells cs 27 (0, 0))) (hc : cs.size = 37) :
    (results fn tmps).run Tryz.prog w = .ok (.tuple #[.agg cs, v]) w := results_en h tmps w g cs v hp hv hg hc
set_option maxRecDepth 100000 in
set_option maxHeartbeats 8000000 in
theorem eread_any (A : Option Addr) (c : Nat) (b : List B8) (w : World) (hs : Sl w w.heap.size A (b.map bv)) (hA : A = none → c = 0) (hc : b.length ≤ c) (hlen : b.length ≤ 1099511627776) :
    Calls Tryz.prog 31 #[.slice A b.length c] w fun r w' => r = .returned (.tuple #[.agg (readV b).cells.toArray, .int .i64 ((readE b : Nat) : Int)]) ∧ Turn (fun _ => False) w w' := by
  have hzd := en_zero
  have hzf := zero_field'
  have hzg := zero_got'
  obtain ⟨i0, hi, hz0, hz1, hz2⟩ := info_parts info_u64
  obtain ⟨CZ, hCZ⟩ : ∃ CZ, CZ = Z37E := ⟨_, rfl⟩
  have sZ : CZ.size = 37 := by rw [hCZ]; rfl
  have K1 := Lib.hid (show (Tryz.prog.info? 27).map (·.size) = some CZ.size by rw [sZ]; exact en_info)
  have K2 := Lib.hid (show Z37E.size = CZ.size by rw [sZ]; rfl)
  have K3 := Lib.hid (show CZ.all (·.oneCell') = true by rw [hCZ, ← EZ_eq]; exact Ent.one _)
  have HCZ := Lib.hid hCZ
  have HSZ := Lib.hid sZ
  clear hCZ sZ
  obtain ⟨w3, hw3⟩ : ∃ w3, w3 = ((w.alloc (.cells Z37E 27)).alloc (.cells M6 25)).alloc (.cells Z32 24) := ⟨_, rfl⟩
  obtain ⟨n, hn⟩ : ∃ n, n = b.length := ⟨_, rfl⟩
  rw [← hn]
  have HN := Lib.hid hn
  have HS := Lib.hid hs
  have HA := Lib.hid hA
  have HC := Lib.hid hc
  clear hs hA hc hn
  go_enter Tryz.func31, Tryz.ntmps31
  go_wp2
  change Code.wp _ _ _ _ (((w.alloc (.cells Z37E 27)).alloc (.cells M6 25)).alloc (.cells Z32 24))
  rw [← hw3]
  have t3 : Turn (fun _ => False) w w3 := by rw [hw3]; exact (((Turn.refl _ _).alloc _).alloc _).alloc _
  have s3 : w3.heap.size = w.heap.size + 3 := by rw [hw3]; simp
  have g0 : w3.heap[w.heap.size]? = some (.cells Z37E 27 (0, 0)) := by rw [hw3, Below.heap_alloc _ _ _ (by simp; omega)]; exact heap_alloc2_old w _ _
  have g1 : w3.heap[w.heap.size + 1]? = some (.cells M6 25 (0, 0)) := by rw [hw3, Below.heap_alloc _ _ _ (by simp)]; exact heap_alloc2_new w _ _
  have g2 : w3.heap[w.heap.size + 2]? = some (.cells Z32 24 (0, 0)) := by
    have := heap_alloc_new ((w.alloc (.cells Z37E 27)).alloc (.cells M6 25)) (.cells Z32 24)
    rw [← hw3] at this
    simpa using this
  have HS3 := Lib.hid (show SlN w3 (fun i => w.heap.size ≤ i) A (b.map bv) from (SlN.of HS.out (N := fun i => w.heap.size ≤ i) (fun i hi => by omega)).turn t3 (fun _ h => h.elim) (fun _ _ h => h))
  have T3 := Lib.hid t3
  have SZ3 := Lib.hid s3
  have G0 := Lib.hid g0
  have G1 := Lib.hid g1
  have G2 := Lib.hid g2
  clear hw3 t3 s3 g0 g1 g2
  go_loopw [0, 5, 7] (fun v0 v5 v7 wr => ∃ (k n' c' : Nat) (A' : Option Addr), k ≤ 6 ∧ v7 = .int .i64 (k : Int) ∧ v0 = .slice A' n' c' ∧ n' = (rr k b).length ∧ (∀ j, j < k → er j b = 0) ∧ SlN wr (fun i => w.heap.size ≤ i) A' ((rr k b).map bv) ∧ (A' = none → c' = 0) ∧ n' ≤ c' ∧ wr.ownsRow (w.heap.size + 3) 25 1 v5 k ((vs k b).map fun z => Value.int .u64 ((z : Nat) : Int)) ∧ wr.heap[w.heap.size]? = some (.cells Z37E 27 (0, 0)) ∧ wr.heap[w.heap.size + 1]? = some (.cells M6 25 (0, 0)) ∧ wr.heap[w.heap.size + 2]? = some (.cells ((dd k b).map bv).toArray 24 (0, 0)) ∧ w.heap.size + 3 ≤ wr.heap.size ∧ Turn (fun _ => False) w wr) (fun _ _ v7 _ => 6 - (intOf v7).toNat)
  case atStart => exact ⟨0, n, c, A, by omega, rfl, rfl, HN.out, fun j h => by omega, HS3.out, HA.out, by have := HC.out; have := HN.out; omega, World.ownsRow_nil _ _ _ _, G0.out, G1.out, G2.out, by rw [SZ3.out]; exact Nat.le_refl _, T3.out⟩
  case round =>
    clear HS3 T3 SZ3 G0 G1 G2 HS HA HC HN w3
    obtain ⟨k, n', c', A', hk, rfl, rfl, hn', h0, hs, hA, hc, ho, g0, g1, g2, hsz, ht⟩ := hrel
    by_cases hk6 : k < 6
    · by_cases hk2 : k = 2
      ·
        have HH := Lib.hid (show (∀ j, j < k → er j b = 0) ∧ SlN wr (fun i => w.heap.size ≤ i) A' ((rr k b).map bv) ∧ (A' = none → c' = 0) ∧ n' ≤ c' ∧ n' = (rr k b).length from ⟨h0, hs, hA, hc, hn'⟩)
        have HO := Lib.hid ho
        have HG0 := Lib.hid g0
        have HG1 := Lib.hid g1
        have HG2 := Lib.hid g2
        have HSZR := Lib.hid hsz
        have HTR := Lib.hid ht
        have hm : wr.cell? ⟨w.heap.size + 1, k, none⟩ = some (.int .u64 (fM k : Int)) := by rw [cell_of_row _ _ _ _ _ _ g1]; exact m6_at k hk6
        have hfm := fM_lt k
        subst hk2
        rw [show fM 2 = 0 from rfl] at hm
        clear h0 hs hA hc hn' ho g0 g1 g2 hsz ht
        obtain ⟨CF, hCF⟩ : ∃ CF, CF = FL 0 0 := ⟨_, rfl⟩
        have sF : CF.size = 35 := by rw [hCF]; rfl
        have F1 := Lib.hid (show (Tryz.prog.info? 73).map (·.size) = some CF.size by rw [sF]; exact fd_info)
        have F2 := Lib.hid (show Z35.size = CF.size by rw [sF]; rfl)
        have F3 := Lib.hid (show CF.all (·.oneCell') = true by rw [hCF]; exact Fd.one ⟨0, 0, none, 0, [], zeros 32⟩)
        have HA7 := Lib.hid (show (wr.alloc (.cells Z35 73)).heap[wr.heap.size]? = some (.cells Z35 73 (0, 0)) from heap_alloc_new _ _)
        have HCF := Lib.hid hCF
        clear hCF sF
        go_upto_region 8 with (refine wpList_store_row rfl _ _ _ rfl wr.heap.size CF rfl (by rw [HCF.out]; rfl) 73 Z35 HA7.out F1.out F2.out F3.out ?_)
        obtain ⟨wa, hwa⟩ : ∃ wa, wa = (wr.alloc (.cells Z35 73)).setRow wr.heap.size CF := ⟨_, rfl⟩
        have ta : Turn (fun _ => False) wr wa := by rw [hwa]; exact ((Turn.refl _ _).alloc _).setRow _ _ (fun h => by omega)
        have ga : wa.heap[wr.heap.size]? = some (.cells CF 73 (0, 0)) := by rw [hwa]; exact setRow_heap _ _ _ _ _ _ HA7.out
        change Code.wp _ _ _ _ ((wr.alloc (.cells Z35 73)).setRow wr.heap.size CF)
        rw [← hwa]
        clear hwa hm
        have cz := (show wa.cell? ⟨wr.heap.size, 0, none⟩ = some (.int .i64 0) by rw [cell_of_row _ _ _ _ _ _ ga, HCF.out]; rfl)
        have fz := frozen_of_row wa wr.heap.size 0 _ _ ga
        go_upto_region 10 with fail
        obtain ⟨wb, hwb⟩ : ∃ wb, wb = wa.setCell ⟨wr.heap.size, 0, none⟩ (.int .i64 2) := ⟨_, rfl⟩
        have tb : Turn (fun _ => False) wr wb := by rw [hwb]; exact ta.trans (set_turn wa wr.heap.size 0 _) (fun i hi h => by omega)
        have gb : wb.heap[wr.heap.size]? = some (.cells (fk 2).cells.toArray 73 (0, 0)) := by rw [hwb, heap_setCell_same _ _ 0 _ _ _ ga, HCF.out]; rfl
        change Code.wp _ _ _ _ (wa.setCell ⟨wr.heap.size, 0, none⟩ (.int .i64 2))
        rw [← hwb]
        clear hwb cz fz ga ta
        have TK := take_full (fun i => w.heap.size ≤ i) A' c' n' (rr 2 b) HH.out.2.2.2.2.symm (fk 2) wb rfl (fk_kind 2) (fM_lt 2) (HH.out.2.1.turn tb (fun _ h => h.elim) (fun _ _ h => h)) HH.out.2.2.1 HH.out.2.2.2.1 (by have := rr_le 2 b; have := HH.out.2.2.2.2; omega)
        obtain ⟨CK, hCK⟩ : ∃ CK, CK = (fk 2).cells.toArray := ⟨_, rfl⟩
        rw [← hCK] at TK gb
        have hrow := row35_at gb (by rw [hCK]; rfl)
        have TK := Lib.hid TK
        have TB := Lib.hid tb
        clear hCK gb tb F1 F2 F3 HA7 HCF CF
        go_wp2_with fail
        refine TK.out.mono ?_
        rintro r w1 ⟨g, rfl, hd, hge, hgx, hg0, t1⟩
        obtain ⟨C, hC⟩ : ∃ C, C = g.cells.toArray := ⟨_, rfl⟩
        obtain ⟨sC, oC, a1, a2, a35, a36⟩ := g.at C hC hd
        rw [← hC]
        have HCC := Lib.hid hC
        have HD := Lib.hid hd
        clear hC hrow TK
        have HAG := Lib.hid (show (w1.alloc (.cells Z37 75)).heap[w1.heap.size]? = some (.cells Z37 75 (0, 0)) from heap_alloc_new _ _)
        have H1 := Lib.hid (show (Tryz.prog.info? 75).map (·.size) = some C.size by rw [sC]; exact got_info')
        have H2 := Lib.hid (show Z37.size = C.size by rw [sC]; rfl)
        have H3 := Lib.hid oC
        go_upto_region 11 with (refine wpList_store_row rfl _ _ _ rfl w1.heap.size C rfl rfl 75 Z37 HAG.out H1.out H2.out H3.out ?_)
        obtain ⟨w2, hw2⟩ : ∃ w2, w2 = (w1.alloc (.cells Z37 75)).setRow w1.heap.size C := ⟨_, rfl⟩
        have t2 : Turn (fun _ => False) wr w2 := by rw [hw2]; exact (TB.out.trans t1 (fun _ _ h => h)).trans (((Turn.refl (fun _ => False) _).alloc _).setRow _ _ (fun h => by omega)) (fun _ _ h => h)
        have hg2 : w2.heap[w1.heap.size]? = some (.cells C 75 (0, 0)) := by rw [hw2]; exact setRow_heap _ _ _ _ _ _ HAG.out
        have d1 : w2.cell? ⟨w1.heap.size, 1, none⟩ = some (.int .u64 (g.f.n : Int)) := by rw [cell_of_row _ _ _ _ _ _ hg2]; exact a1
        have d35 : w2.cell? ⟨w1.heap.size, 35, none⟩ = some (.int .i64 (g.e : Int)) := by rw [cell_of_row _ _ _ _ _ _ hg2]; exact a35
        have d36 : w2.cell? ⟨w1.heap.size, 36, none⟩ = some (.slice g.A g.l.length g.c) := by rw [cell_of_row _ _ _ _ _ _ hg2]; exact a36
        have HG := Lib.hid (show g.e = er 2 b ∧ (er 2 b = 0 → GOk g (fk 2) (rr 2 b) ∧ GAt wb (fun i => w.heap.size ≤ i) g ∧ (g.f.A = none → g.f.c = 0) ∧ g.f.b.length ≤ g.f.c) from ⟨hge, hg0⟩)
        have HGR := Lib.hid hg2
        have HT2 := Lib.hid t2
        have HTB2 := Lib.hid (show Turn (fun _ => False) wb w2 by rw [hw2]; exact t1.trans (((Turn.refl (fun _ => False) _).alloc _).setRow _ _ (fun h => by omega)) (fun _ _ h => h))
        change Code.wp _ _ _ _ ((w1.alloc (.cells Z37 75)).setRow w1.heap.size C)
        rw [← hw2]
        have HQ := Lib.hid (show wr.heap.size ≤ w1.heap.size from Nat.le_trans TB.out.size t1.size)
        have HQ2 := Lib.hid (show w1.heap.size < w2.heap.size from lt_of_block hg2)
        clear hw2 t1 t2 hg2 hge hgx hg0 sC oC a1 a2 a35 a36 hd H1 H2 H3 HAG
        generalize w1.heap.size = Q at *
        by_cases hz : er 2 b = 0
        ·
          have hzz : ((g.e : Int) != 0) = false := by rw [HG.out.1, hz]; rfl
          obtain ⟨ok, at', -, -⟩ := HG.out.2 hz
          have HNV := Lib.hid (show g.f.n = nv 2 b from ok.n)
          have HDV := Lib.hid (show g.f.d = sD (fk 2) (rr 2 b) from ok.d)
          have HLV := Lib.hid (show g.l = rr (2 + 1) b from ok.l)
          have HSV := Lib.hid (show SlN w2 (fun i => w.heap.size ≤ i) g.A (g.l.map bv) from at'.s.turn HTB2.out (fun _ h => h.elim) (fun _ _ h => h))
          have HAV := Lib.hid (And.intro at'.a at'.c)
          have HZ := Lib.hid hz
          have O2 := HT2.out.own HO.out (fun _ _ h => h)
          have ha : Below w2.heap.size w2 (w2.alloc (.cells #[.int .u64 (g.f.n : Int)] 25)) := (Below.refl _ _).alloc (Nat.le_refl _) _
          have HO2 := Lib.hid (own_below O2 ha)
          have hsz2 : w.heap.size + 3 ≤ w2.heap.size := Nat.le_trans HSZR.out HT2.out.size
          clear HG hz ok at' O2 ha
          go_wp2_with (at_builtin; refine stop ?_)
          unfold Stop
          refine wpList_append_any_at (o := ⟨some 39, _, _, _, _, _⟩) rfl _ _ 109 rfl (w.heap.size + 3) 25 i0 (.int .u64 0) 8 Tryz.underlying109 hi hz0 hz1 hz2 rfl u5 2 _ rfl HO2.out (some ⟨w2.heap.size, 0, none⟩) 1 1 [.int .u64 (g.f.n : Int)] rfl (fun h => by cases h) rfl (one_new w2 _ _) (by intro u hu; rw [List.mem_singleton] at hu; rw [hu]; rfl) (by unfold maxLen; omega) (by omega) (by simp; omega) ?_
          intro v5 w4 g1 g2 g3
          have HO4 := Lib.hid (show w4.ownsRow (w.heap.size + 3) 25 1 v5 (2 + 1) ((vs (2 + 1) b).map fun z => Value.int .u64 ((z : Nat) : Int)) by
            rw [vs, List.map_append, ← HNV.out]; exact g1)
          have hS : Turn (fun i => some i = u5.ownBlock) w2 w4 := ((Turn.refl _ w2).alloc (.cells #[.int .u64 (g.f.n : Int)] 25)).grown g2 (fun i _ e => e)
          have hlow : ∀ i, some i = u5.ownBlock → w.heap.size + 3 ≤ i ∧ i < wr.heap.size := fun i e => HO.out.lt i e.symm
          have HS4 := Lib.hid hS
          have HLOW := Lib.hid hlow
          have HSV4 := Lib.hid (show SlN w4 (fun i => w.heap.size ≤ i) g.A (g.l.map bv) from HSV.out.turn hS (fun i h => by have := (hlow i h).1; show w.heap.size ≤ i; omega) (fun _ _ h => h))
          have G04 := Lib.hid (hS.heap (HT2.out.heap HG0.out (fun h => h)) (fun h => by have := (hlow _ h).1; omega))
          have G14 := Lib.hid (hS.heap (HT2.out.heap HG1.out (fun h => h)) (fun h => by have := (hlow _ h).1; omega))
          have G24 := Lib.hid (hS.heap (HT2.out.heap HG2.out (fun h => h)) (fun h => by have := (hlow _ h).1; omega))
          have GQ4 := Lib.hid (hS.heap HGR.out (fun h => by have := (hlow _ h).2; have := HQ.out; omega))
          have T4 := Lib.hid (show Turn (fun _ => False) w w4 from (HTR.out.trans HT2.out (fun _ _ h => h)).trans hS (fun i hi h => by have := (hlow i h).1; omega))
          have SZ4 := Lib.hid (show w.heap.size + 3 ≤ w4.heap.size from Nat.le_trans hsz2 hS.size)
          clear g1 g2 g3 hS hlow d1 d35 d36 hzz HO2 HSV HGR
          have hrowQ := g.atR C HCC.out HD.out GQ4.out
          obtain ⟨DA, hDA⟩ : ∃ DA, DA = (g.f.d.map bv).toArray := ⟨_, rfl⟩
          rw [← hDA] at hrowQ
          have sD : DA.size = 32 := by rw [hDA]; simp [HD.out]
          have Q1 := Lib.hid (show (Tryz.prog.info? 24).map (·.size) = some DA.size by rw [sD]; exact id_info)
          have Q2 := Lib.hid (show ((dd 2 b).map bv).toArray.size = DA.size by rw [sD]; rfl)
          have Q3 := Lib.hid (show DA.all (·.oneCell') = true by rw [hDA]; exact all_oneCell_toArray (bv_one _))
          have HDA := Lib.hid hDA
          clear hDA sD
          go_wp2_with (refine wpList_store_row rfl _ _ _ rfl (w.heap.size + 2) DA rfl rfl 24 _ G24.out Q1.out Q2.out Q3.out ?_)
          have t5 : Turn (fun i => i = w.heap.size + 2) w4 (w4.setRow (w.heap.size + 2) DA) := (Turn.refl _ _).setRow _ _ (fun _ => rfl)
          have h3 := setRow_heap w4 (w.heap.size + 2) _ DA 24 (0, 0) G24.out
          have T5 := Lib.hid t5
          have H3 := Lib.hid h3
          clear t5 h3 hrowQ
          go_roundw
          case rel => exact ⟨2 + 1, _, _, _, by omega, by go_num, rfl, by rw [HLV.out], (fun j hj => by rcases (show j < 2 ∨ j = 2 by omega) with h | rfl; exact HH.out.1 j h; exact HZ.out), by rw [← HLV.out]; exact HSV4.out.turn T5.out (fun i h => by rw [h]; show w.heap.size ≤ _; omega) (fun _ _ h => h), HAV.out.1, HAV.out.2, T5.out.own HO4.out (fun i h e => by have := (HO4.out.lt i h).1; omega), T5.out.heap G04.out (by omega), T5.out.heap G14.out (by omega), (by rw [show dd (2 + 1) b = sD (fk 2) (rr 2 b) from rfl, ← HDV.out, ← HDA.out]; exact H3.out), Nat.le_trans SZ4.out T5.out.size, T4.out.trans T5.out (fun i hi h => by omega)⟩
          case measure => simp [intOf]
        ·
          have hzz : ((g.e : Int) != 0) = true := by rw [HG.out.1]; simp; omega
          have HR := Lib.hid (readE_first (by omega) HH.out.1 hz)
          have HGE := Lib.hid HG.out.1
          have G0' := Lib.hid (HT2.out.heap HG0.out (fun h => h))
          have T02 := Lib.hid (HTR.out.trans HT2.out (fun _ _ h => h))
          clear hz HG d1 d36
          go_upto_region 12 with fail
          refine wp_region_rel 76 (StZ w.heap.size) [.one ?_, .one ?_, .one ?_, .rel (fun _ _ => True), .one ?_] (by kernel_rfl) (by kernel_rfl) rfl (by kernel_rfl) (StZ.refl _) (StZ.trans _) ⟨fun _ _ _ _ _ => trivial, trivial⟩ ?main
          case main =>
          iterate 2
            refine wpR_one (A' := ?_) (StZ.refl _) (by rfl) _ rfl 76 (by rfl) (by rfl) ?_ ?_ ?_
            rotate_left 1
            · simp only [Act.put, List.setIfInBounds_toArray, List.set_cons_zero, List.set_cons_succ]; rfl
            · intro w1 hs hf K hK
              go_big_quiet_op
              first
                | go_big_quiet_on
                | (refine ⟨_, fun _ _ => rfl, ?_⟩; go_big_quiet_on)
              rfl
          refine wpR_one (A' := ?_) (StZ.refl _) (by rfl) _ rfl 76 (by rfl) (by rfl) ?_ ?_ ?_
          rotate_left 1
          · simp only [Act.put, List.setIfInBounds_toArray, List.set_cons_zero, List.set_cons_succ]; rfl
          · intro w1 hs hf K hK
            refine cls_load_cell 3 (.tmp 30) rfl ⟨Q, 35, none⟩ rfl (.int .i64 (g.e : Int)) (fun w h => by simp [go_sem, h]) (fun w4 h2 => (StZ.trans _ _ _ _ hs h2).1.cell (show w2.drew.cell? _ = _ from d35) (by have := HSZR.out; have := HQ.out; show Q ≠ w.heap.size; omega)) ?_
            refine hK _ ?_
            simp only [Act.put, List.setIfInBounds_toArray, List.set_cons_zero, List.set_cons_succ]
            rfl
          refine wpR_rel (A' := ?_) (by rfl) ?_ ?_ ?_
          · intro w1 hs hf
            exact does_store_none _ _ rfl rfl Z37E rfl rfl (hs.2 G0'.out)
          rotate_left 1
          · intro x
            simp only [Act.put, List.setIfInBounds_toArray, List.set_cons_zero, List.set_cons_succ]; rfl
          intro x32
          iterate 1
            refine wpR_one (A' := ?_) (StZ.refl _) (by rfl) _ rfl 76 (by rfl) (by rfl) ?_ ?_ ?_
            rotate_left 1
            · simp only [Act.put, List.setIfInBounds_toArray, List.set_cons_zero, List.set_cons_succ]; rfl
            · intro w1 hs hf K hK
              go_big_quiet_op
              first
                | go_big_quiet_on
                | (refine ⟨_, fun _ _ => rfl, ?_⟩; go_big_quiet_on)
              rfl
          intro w5 hs1 hf
          have h3 := hs1.2 G0'.out
          have T6 := T02.out.trans ((Turn.refl _ _).drew.trans hs1.1 (fun _ _ h => h)) (fun i hi h => by omega)
          have H3 := Lib.hid h3
          have T6' := Lib.hid T6
          clear hs1 hf h3 T6
          go_wp2_with fail
          refine bodyPost_ret (v := .tuple #[.agg Z37E, .int .i64 (g.e : Int)]) ?_ rfl ⟨by rw [HR.out.1, HR.out.2, HGE.out]; rfl, T6'.out⟩
          exact results_er Tryz.results31 _ _ w.heap.size _ _ rfl rfl H3.out rfl
      ·
        have HH := Lib.hid (show (∀ j, j < k → er j b = 0) ∧ SlN wr (fun i => w.heap.size ≤ i) A' ((rr k b).map bv) ∧ (A' = none → c' = 0) ∧ n' ≤ c' ∧ n' = (rr k b).length from ⟨h0, hs, hA, hc, hn'⟩)
        have HO := Lib.hid ho
        have HG0 := Lib.hid g0
        have HG1 := Lib.hid g1
        have HG2 := Lib.hid g2
        have HSZR := Lib.hid hsz
        have HTR := Lib.hid ht
        have hm : wr.cell? ⟨w.heap.size + 1, k, none⟩ = some (.int .u64 (fM k : Int)) := by rw [cell_of_row _ _ _ _ _ _ g1]; exact m6_at k hk6
        have hfm := fM_lt k
        obtain ⟨m, hmm⟩ : ∃ m, m = fM k := ⟨_, rfl⟩
        rw [← hmm] at hm hfm
        have HMM := Lib.hid hmm
        have hkb : ((k : Int) == 2) = false := by simp; omega
        clear hmm
        clear h0 hs hA hc hn' ho g0 g1 g2 hsz ht
        obtain ⟨CF, hCF⟩ : ∃ CF, CF = FL 0 m := ⟨_, rfl⟩
        have sF : CF.size = 35 := by rw [hCF]; rfl
        have F1 := Lib.hid (show (Tryz.prog.info? 73).map (·.size) = some CF.size by rw [sF]; exact fd_info)
        have F2 := Lib.hid (show Z35.size = CF.size by rw [sF]; rfl)
        have F3 := Lib.hid (show CF.all (·.oneCell') = true by rw [hCF]; exact Fd.one ⟨0, m, none, 0, [], zeros 32⟩)
        have HA7 := Lib.hid (show (wr.alloc (.cells Z35 73)).heap[wr.heap.size]? = some (.cells Z35 73 (0, 0)) from heap_alloc_new _ _)
        have HCF := Lib.hid hCF
        clear hCF sF
        go_upto_region 8 with (refine wpList_store_row rfl _ _ _ rfl wr.heap.size CF rfl (by rw [HCF.out]; rfl) 73 Z35 HA7.out F1.out F2.out F3.out ?_)
        obtain ⟨wa, hwa⟩ : ∃ wa, wa = (wr.alloc (.cells Z35 73)).setRow wr.heap.size CF := ⟨_, rfl⟩
        have ta : Turn (fun _ => False) wr wa := by rw [hwa]; exact ((Turn.refl _ _).alloc _).setRow _ _ (fun h => by omega)
        have ga : wa.heap[wr.heap.size]? = some (.cells CF 73 (0, 0)) := by rw [hwa]; exact setRow_heap _ _ _ _ _ _ HA7.out
        change Code.wp _ _ _ _ ((wr.alloc (.cells Z35 73)).setRow wr.heap.size CF)
        rw [← hwa]
        clear hwa hm
        go_upto_region 10 with fail
        obtain ⟨wb, hwb⟩ : ∃ wb, wb = wa := ⟨_, rfl⟩
        have tb : Turn (fun _ => False) wr wb := by rw [hwb]; exact ta
        have gb : wb.heap[wr.heap.size]? = some (.cells (fk k).cells.toArray 73 (0, 0)) := by rw [hwb, fk_no hk2, ← HMM.out, ← HCF.out]; exact ga
        rw [← hwb]
        clear hwb ga ta
        have TK := take_full (fun i => w.heap.size ≤ i) A' c' n' (rr k b) HH.out.2.2.2.2.symm (fk k) wb rfl (fk_kind k) (fM_lt k) (HH.out.2.1.turn tb (fun _ h => h.elim) (fun _ _ h => h)) HH.out.2.2.1 HH.out.2.2.2.1 (by have := rr_le k b; have := HH.out.2.2.2.2; omega)
        obtain ⟨CK, hCK⟩ : ∃ CK, CK = (fk k).cells.toArray := ⟨_, rfl⟩
        rw [← hCK] at TK gb
        have hrow := row35_at gb (by rw [hCK]; rfl)
        have TK := Lib.hid TK
        have TB := Lib.hid tb
        clear hCK gb tb F1 F2 F3 HA7 HCF CF
        go_wp2_with fail
        refine TK.out.mono ?_
        rintro r w1 ⟨g, rfl, hd, hge, hgx, hg0, t1⟩
        obtain ⟨C, hC⟩ : ∃ C, C = g.cells.toArray := ⟨_, rfl⟩
        obtain ⟨sC, oC, a1, a2, a35, a36⟩ := g.at C hC hd
        rw [← hC]
        have HCC := Lib.hid hC
        have HD := Lib.hid hd
        clear hC hrow TK
        have HAG := Lib.hid (show (w1.alloc (.cells Z37 75)).heap[w1.heap.size]? = some (.cells Z37 75 (0, 0)) from heap_alloc_new _ _)
        have H1 := Lib.hid (show (Tryz.prog.info? 75).map (·.size) = some C.size by rw [sC]; exact got_info')
        have H2 := Lib.hid (show Z37.size = C.size by rw [sC]; rfl)
        have H3 := Lib.hid oC
        go_upto_region 11 with (refine wpList_store_row rfl _ _ _ rfl w1.heap.size C rfl rfl 75 Z37 HAG.out H1.out H2.out H3.out ?_)
        obtain ⟨w2, hw2⟩ : ∃ w2, w2 = (w1.alloc (.cells Z37 75)).setRow w1.heap.size C := ⟨_, rfl⟩
        have t2 : Turn (fun _ => False) wr w2 := by rw [hw2]; exact (TB.out.trans t1 (fun _ _ h => h)).trans (((Turn.refl (fun _ => False) _).alloc _).setRow _ _ (fun h => by omega)) (fun _ _ h => h)
        have hg2 : w2.heap[w1.heap.size]? = some (.cells C 75 (0, 0)) := by rw [hw2]; exact setRow_heap _ _ _ _ _ _ HAG.out
        have d1 : w2.cell? ⟨w1.heap.size, 1, none⟩ = some (.int .u64 (g.f.n : Int)) := by rw [cell_of_row _ _ _ _ _ _ hg2]; exact a1
        have d35 : w2.cell? ⟨w1.heap.size, 35, none⟩ = some (.int .i64 (g.e : Int)) := by rw [cell_of_row _ _ _ _ _ _ hg2]; exact a35
        have d36 : w2.cell? ⟨w1.heap.size, 36, none⟩ = some (.slice g.A g.l.length g.c) := by rw [cell_of_row _ _ _ _ _ _ hg2]; exact a36
        have HG := Lib.hid (show g.e = er k b ∧ (er k b = 0 → GOk g (fk k) (rr k b) ∧ GAt wb (fun i => w.heap.size ≤ i) g ∧ (g.f.A = none → g.f.c = 0) ∧ g.f.b.length ≤ g.f.c) from ⟨hge, hg0⟩)
        have HGR := Lib.hid hg2
        have HT2 := Lib.hid t2
        have HTB2 := Lib.hid (show Turn (fun _ => False) wb w2 by rw [hw2]; exact t1.trans (((Turn.refl (fun _ => False) _).alloc _).setRow _ _ (fun h => by omega)) (fun _ _ h => h))
        change Code.wp _ _ _ _ ((w1.alloc (.cells Z37 75)).setRow w1.heap.size C)
        rw [← hw2]
        have HQ := Lib.hid (show wr.heap.size ≤ w1.heap.size from Nat.le_trans TB.out.size t1.size)
        have HQ2 := Lib.hid (show w1.heap.size < w2.heap.size from lt_of_block hg2)
        clear hw2 t1 t2 hg2 hge hgx hg0 sC oC a1 a2 a35 a36 hd H1 H2 H3 HAG
        generalize w1.heap.size = Q at *
        by_cases hz : er k b = 0
        ·
          have hzz : ((g.e : Int) != 0) = false := by rw [HG.out.1, hz]; rfl
          obtain ⟨ok, at', -, -⟩ := HG.out.2 hz
          have HNV := Lib.hid (show g.f.n = nv k b from ok.n)
          have HDV := Lib.hid (show g.f.d = sD (fk k) (rr k b) from ok.d)
          have HLV := Lib.hid (show g.l = rr (k + 1) b from ok.l)
          have HSV := Lib.hid (show SlN w2 (fun i => w.heap.size ≤ i) g.A (g.l.map bv) from at'.s.turn HTB2.out (fun _ h => h.elim) (fun _ _ h => h))
          have HAV := Lib.hid (And.intro at'.a at'.c)
          have HZ := Lib.hid hz
          have O2 := HT2.out.own HO.out (fun _ _ h => h)
          have ha : Below w2.heap.size w2 (w2.alloc (.cells #[.int .u64 (g.f.n : Int)] 25)) := (Below.refl _ _).alloc (Nat.le_refl _) _
          have HO2 := Lib.hid (own_below O2 ha)
          have hsz2 : w.heap.size + 3 ≤ w2.heap.size := Nat.le_trans HSZR.out HT2.out.size
          clear HG hz ok at' O2 ha
          go_wp2_with (at_builtin; refine stop ?_)
          unfold Stop
          refine wpList_append_any_at (o := ⟨some 39, _, _, _, _, _⟩) rfl _ _ 109 rfl (w.heap.size + 3) 25 i0 (.int .u64 0) 8 Tryz.underlying109 hi hz0 hz1 hz2 rfl u5 k _ rfl HO2.out (some ⟨w2.heap.size, 0, none⟩) 1 1 [.int .u64 (g.f.n : Int)] rfl (fun h => by cases h) rfl (one_new w2 _ _) (by intro u hu; rw [List.mem_singleton] at hu; rw [hu]; rfl) (by unfold maxLen; omega) (by omega) (by simp; omega) ?_
          intro v5 w4 g1 g2 g3
          have HO4 := Lib.hid (show w4.ownsRow (w.heap.size + 3) 25 1 v5 (k + 1) ((vs (k + 1) b).map fun z => Value.int .u64 ((z : Nat) : Int)) by
            rw [vs, List.map_append, ← HNV.out]; exact g1)
          have hS : Turn (fun i => some i = u5.ownBlock) w2 w4 := ((Turn.refl _ w2).alloc (.cells #[.int .u64 (g.f.n : Int)] 25)).grown g2 (fun i _ e => e)
          have hlow : ∀ i, some i = u5.ownBlock → w.heap.size + 3 ≤ i ∧ i < wr.heap.size := fun i e => HO.out.lt i e.symm
          have HS4 := Lib.hid hS
          have HLOW := Lib.hid hlow
          have HSV4 := Lib.hid (show SlN w4 (fun i => w.heap.size ≤ i) g.A (g.l.map bv) from HSV.out.turn hS (fun i h => by have := (hlow i h).1; show w.heap.size ≤ i; omega) (fun _ _ h => h))
          have G04 := Lib.hid (hS.heap (HT2.out.heap HG0.out (fun h => h)) (fun h => by have := (hlow _ h).1; omega))
          have G14 := Lib.hid (hS.heap (HT2.out.heap HG1.out (fun h => h)) (fun h => by have := (hlow _ h).1; omega))
          have G24 := Lib.hid (hS.heap (HT2.out.heap HG2.out (fun h => h)) (fun h => by have := (hlow _ h).1; omega))
          have GQ4 := Lib.hid (hS.heap HGR.out (fun h => by have := (hlow _ h).2; have := HQ.out; omega))
          have T4 := Lib.hid (show Turn (fun _ => False) w w4 from (HTR.out.trans HT2.out (fun _ _ h => h)).trans hS (fun i hi h => by have := (hlow i h).1; omega))
          have SZ4 := Lib.hid (show w.heap.size + 3 ≤ w4.heap.size from Nat.le_trans hsz2 hS.size)
          clear g1 g2 g3 hS hlow d1 d35 d36 hzz HO2 HSV HGR
          go_wp2_with fail
          go_roundw
          case rel => exact ⟨k + 1, _, _, _, by omega, by go_num, rfl, by rw [HLV.out], (fun j hj => by rcases (show j < k ∨ j = k by omega) with h | rfl; exact HH.out.1 j h; exact HZ.out), by rw [← HLV.out]; exact HSV4.out, HAV.out.1, HAV.out.2, HO4.out, G04.out, G14.out, (by rw [show dd (k + 1) b = dd k b from dd_step hk2]; exact G24.out), SZ4.out, T4.out⟩
          case measure => simp [intOf]; omega
        ·
          have hzz : ((g.e : Int) != 0) = true := by rw [HG.out.1]; simp; omega
          have HR := Lib.hid (readE_first (by omega) HH.out.1 hz)
          have HGE := Lib.hid HG.out.1
          have G0' := Lib.hid (HT2.out.heap HG0.out (fun h => h))
          have T02 := Lib.hid (HTR.out.trans HT2.out (fun _ _ h => h))
          clear hz HG d1 d36
          go_upto_region 12 with fail
          refine wp_region_rel 76 (StZ w.heap.size) [.one ?_, .one ?_, .one ?_, .rel (fun _ _ => True), .one ?_] (by kernel_rfl) (by kernel_rfl) rfl (by kernel_rfl) (StZ.refl _) (StZ.trans _) ⟨fun _ _ _ _ _ => trivial, trivial⟩ ?main
          case main =>
          iterate 2
            refine wpR_one (A' := ?_) (StZ.refl _) (by rfl) _ rfl 76 (by rfl) (by rfl) ?_ ?_ ?_
            rotate_left 1
            · simp only [Act.put, List.setIfInBounds_toArray, List.set_cons_zero, List.set_cons_succ]; rfl
            · intro w1 hs hf K hK
              go_big_quiet_op
              first
                | go_big_quiet_on
                | (refine ⟨_, fun _ _ => rfl, ?_⟩; go_big_quiet_on)
              rfl
          refine wpR_one (A' := ?_) (StZ.refl _) (by rfl) _ rfl 76 (by rfl) (by rfl) ?_ ?_ ?_
          rotate_left 1
          · simp only [Act.put, List.setIfInBounds_toArray, List.set_cons_zero, List.set_cons_succ]; rfl
          · intro w1 hs hf K hK
            refine cls_load_cell 3 (.tmp 30) rfl ⟨Q, 35, none⟩ rfl (.int .i64 (g.e : Int)) (fun w h => by simp [go_sem, h]) (fun w4 h2 => (StZ.trans _ _ _ _ hs h2).1.cell (show w2.drew.cell? _ = _ from d35) (by have := HSZR.out; have := HQ.out; show Q ≠ w.heap.size; omega)) ?_
            refine hK _ ?_
            simp only [Act.put, List.setIfInBounds_toArray, List.set_cons_zero, List.set_cons_succ]
            rfl
          refine wpR_rel (A' := ?_) (by rfl) ?_ ?_ ?_
          · intro w1 hs hf
            exact does_store_none _ _ rfl rfl Z37E rfl rfl (hs.2 G0'.out)
          rotate_left 1
          · intro x
            simp only [Act.put, List.setIfInBounds_toArray, List.set_cons_zero, List.set_cons_succ]; rfl
          intro x32
          iterate 1
            refine wpR_one (A' := ?_) (StZ.refl _) (by rfl) _ rfl 76 (by rfl) (by rfl) ?_ ?_ ?_
            rotate_left 1
            · simp only [Act.put, List.setIfInBounds_toArray, List.set_cons_zero, List.set_cons_succ]; rfl
            · intro w1 hs hf K hK
              go_big_quiet_op
              first
                | go_big_quiet_on
                | (refine ⟨_, fun _ _ => rfl, ?_⟩; go_big_quiet_on)
              rfl
          intro w5 hs1 hf
          have h3 := hs1.2 G0'.out
          have T6 := T02.out.trans ((Turn.refl _ _).drew.trans hs1.1 (fun _ _ h => h)) (fun i hi h => by omega)
          have H3 := Lib.hid h3
          have T6' := Lib.hid T6
          clear hs1 hf h3 T6
          go_wp2_with fail
          refine bodyPost_ret (v := .tuple #[.agg Z37E, .int .i64 (g.e : Int)]) ?_ rfl ⟨by rw [HR.out.1, HR.out.2, HGE.out]; rfl, T6'.out⟩
          exact results_er Tryz.results31 _ _ w.heap.size _ _ rfl rfl H3.out rfl
    · obtain rfl : k = 6 := by omega
      have hE := readE_end h0
      have hB := f_bounds (f6_none h0)
      have ho6 : wr.ownsRow (w.heap.size + 3) 25 1 u5 6 ([numV b, numV (l1 b), 0, numV (l3 b), numV (l4 b), numV (l5 b)].map fun z => Value.int .u64 ((z : Nat) : Int)) := ho
      rw [show dd 6 b = (l2 b).take 32 from rfl] at g2
      rw [show rr 6 b = l6 b from rfl] at hn'
      obtain ⟨b1, b2, b3, b4, b5, b6, -⟩ := hB
      have HBV := Lib.hid (show bodV b = eN (numV b) (numV (l1 b)) ((l2 b).take 32) (numV (l3 b)) (numV (l4 b)) (numV (l5 b)) from rfl)
      generalize numV b = xK at *
      generalize numV (l1 b) = xS at *
      generalize numV (l3 b) = xA at *
      generalize numV (l4 b) = xY at *
      generalize numV (l5 b) = xP at *
      generalize (l2 b).take 32 = xD at *
      rcases ho6.2 with ⟨_, hn⟩ | ⟨gq, cap, cur, rfl, hBq, hgq, hcq, _⟩
      · omega
      have cl := fun j u hu => ho6.cells (g := gq) rfl j u hu
      have c0 : wr.cell? ⟨gq, 0, none⟩ = some (.int .u64 (xK : Int)) := cl 0 _ rfl
      have c1 : wr.cell? ⟨gq, 1, none⟩ = some (.int .u64 (xS : Int)) := cl 1 _ rfl
      have c3 : wr.cell? ⟨gq, 3, none⟩ = some (.int .u64 (xA : Int)) := cl 3 _ rfl
      have c4 : wr.cell? ⟨gq, 4, none⟩ = some (.int .u64 (xY : Int)) := cl 4 _ rfl
      have c5 : wr.cell? ⟨gq, 5, none⟩ = some (.int .u64 (xP : Int)) := cl 5 _ rfl
      have HG0 := Lib.hid g0
      have HG2 := Lib.hid g2
      have HTR := Lib.hid ht
      clear cl ho ho6 hBq hgq hcq h0 hs hA hc g0 g1 g2 ht
      by_cases hl : l6 b = []
      · have hn0 : n' = 0 := by rw [hn', hl]; rfl
        subst hn0
        by_cases hk0 : xK = 0
        · subst hk0
          have HR := Lib.hid (hE.1 (.inr rfl))
          clear hE hl hn' HBV
          go_wp2_with (refine wpList_store_row rfl _ _ _ rfl w.heap.size CZ rfl (by rw [HCZ.out]; rfl) 27 Z37E HG0.out K1.out K2.out K3.out ?_)
          have h3 := setRow_heap wr w.heap.size Z37E CZ 27 (0, 0) HG0.out
          have t6 : Turn (fun i => i = w.heap.size) wr (wr.setRow w.heap.size CZ) := (Turn.refl _ _).setRow _ _ (fun _ => rfl)
          refine bodyPost_ret (v := .tuple #[.agg CZ, .int .i64 3]) ?_ rfl ⟨by rw [HR.out.1, HR.out.2, HCZ.out]; rfl, HTR.out.trans t6 (fun i hi h => by omega)⟩
          exact results_er Tryz.results31 _ _ w.heap.size _ _ rfl rfl h3 HSZ.out
        · have HR := Lib.hid (hE.2 hl hk0)
          have hkz : ((xK : Int) == 0) = false := by simp; omega
          clear hE hl hn' hk0
          go_upto_region 19 with fail
          have HBU := Lib.hid (built_en (xD.map bv) (xK : Int) (xS : Int) (xA : Int) (xY : Int) (xP : Int) (by simpa using b3))
          obtain ⟨CB, hCB⟩ : ∃ CB, CB = (eN xK xS xD xA xY xP).cells.toArray := ⟨_, rfl⟩
          have HBU' : Tryz.prog.built 27 [(0, .int .i64 (xK : Int)), (1, .int .i64 (xS : Int)), (2, .agg (xD.map bv).toArray), (3, .int .u64 (xA : Int)), (4, .int .i64 (xY : Int)), (5, .int .i64 (xP : Int))] = some CB := by rw [HBU.out, hCB]; rfl
          have sB : CB.size = 37 := by rw [hCB, List.size_toArray, Ent.len _ b3]
          have B1 := Lib.hid (show (Tryz.prog.info? 27).map (·.size) = some CB.size by rw [sB]; exact en_info)
          have B2 := Lib.hid (show Z37E.size = CB.size by rw [sB]; rfl)
          have B3 := Lib.hid (show CB.all (·.oneCell') = true by rw [hCB]; exact Ent.one _)
          have HSB := Lib.hid sB
          have HCB := Lib.hid hCB
          have HB' := Lib.hid HBU'
          have HWS := Lib.hid (fun (w' : World) (h : Stp wr.drew w') => show Turn (fun _ => False) wr w' from Turn.of_below (stp_start h (Below.refl _ _)))
          have HC := Lib.hid (show ∀ (w' : World), Stp wr.drew w' → ∀ (j : Nat) (v : Value), wr.cell? ⟨gq, j, none⟩ = some v → w'.cell? ⟨gq, j, none⟩ = some v from fun w' h j v hv => (HWS.out w' h).cell hv (fun h => h))
          have HR2 := Lib.hid (show ∀ (w' : World), Stp wr.drew w' → w'.rangeAt (w.heap.size + 2) 0 (xD.map bv) from fun w' h j v hj => (HWS.out w' h).cell (by rw [cell_of_row _ _ _ _ _ _ HG2.out, List.getElem?_toArray, Nat.zero_add]; exact hj) (fun h => h))
          have HDS := Lib.hid (show (Tryz.prog.info? 24).map (·.size) = some (xD.map bv).length by rw [List.length_map, b3]; exact id_info)
          clear HBU HBU' hCB sB
          refine wp_region_rel_tail 20 76 (by kernel_rfl) (by kernel_rfl) Stp [.one ?_, .one ?_, .one ?_, .one ?_, .one ?_, .one ?_, .one ?_, .one ?_, .one ?_, .one ?_, .one ?_, .one ?_, .one ?_, .one ?_, .one ?_, .one ?_, .one ?_, .one ?_, .one ?_, .one ?_] (by kernel_rfl) rfl (by kernel_rfl) Stp.refl Stp.trans trivial ?main
          case main =>
          simp only [List.take_succ_cons, List.take_zero, List.drop_succ_cons, List.drop_zero]
          iterate 2
            refine wpR_one (A' := ?_) Stp.refl (by rfl) _ rfl 76 (by rfl) (by rfl) ?_ ?_ ?_
            rotate_left 1
            · simp only [Act.put, List.setIfInBounds_toArray, List.set_cons_zero, List.set_cons_succ]; rfl
            · intro w1 hs hf K hK
              go_big_quiet_op
              first
                | go_big_quiet_on
                | (refine ⟨_, fun _ _ => rfl, ?_⟩; go_big_quiet_on)
              rfl
          refine wpR_one (A' := ?_) Stp.refl (by rfl) _ rfl 76 (by rfl) (by rfl) ?_ ?_ ?_
          rotate_left 1
          · simp only [Act.put, List.setIfInBounds_toArray, List.set_cons_zero, List.set_cons_succ]; rfl
          · intro w1 hs hf K hK
            refine cls_load_cell 25 (.tmp 56) rfl ⟨gq, 0, none⟩ rfl (.int .u64 (xK : Int)) (fun w h => by simp [go_sem, h]) (fun w2 h2 => HC.out w2 (Stp.trans _ _ _ hs h2) 0 _ c0) ?_
            refine hK _ ?_
            simp only [Act.put, List.setIfInBounds_toArray, List.set_cons_zero, List.set_cons_succ]
            rfl
          iterate 1
            refine wpR_one (A' := ?_) Stp.refl (by rfl) _ rfl 76 (by rfl) (by rfl) ?_ ?_ ?_
            rotate_left 1
            · simp only [Act.put, List.setIfInBounds_toArray, List.set_cons_zero, List.set_cons_succ]; rfl
            · intro w1 hs hf K hK
              go_big_quiet_op
              first
                | go_big_quiet_on
                | (refine ⟨_, fun _ _ => rfl, ?_⟩; go_big_quiet_on)
              rfl
          iterate 2
            refine wpR_one (A' := ?_) Stp.refl (by rfl) _ rfl 76 (by rfl) (by rfl) ?_ ?_ ?_
            rotate_left 1
            · simp only [Act.put, List.setIfInBounds_toArray, List.set_cons_zero, List.set_cons_succ]; rfl
            · intro w1 hs hf K hK
              go_big_quiet_op
              first
                | go_big_quiet_on
                | (refine ⟨_, fun _ _ => rfl, ?_⟩; go_big_quiet_on)
              rfl
          refine wpR_one (A' := ?_) Stp.refl (by rfl) _ rfl 76 (by rfl) (by rfl) ?_ ?_ ?_
          rotate_left 1
          · simp only [Act.put, List.setIfInBounds_toArray, List.set_cons_zero, List.set_cons_succ]; rfl
          · intro w1 hs hf K hK
            refine cls_load_cell 25 (.tmp 60) rfl ⟨gq, 1, none⟩ rfl (.int .u64 (xS : Int)) (fun w h => by simp [go_sem, h]) (fun w2 h2 => HC.out w2 (Stp.trans _ _ _ hs h2) 1 _ c1) ?_
            refine hK _ ?_
            simp only [Act.put, List.setIfInBounds_toArray, List.set_cons_zero, List.set_cons_succ]
            rfl
          iterate 1
            refine wpR_one (A' := ?_) Stp.refl (by rfl) _ rfl 76 (by rfl) (by rfl) ?_ ?_ ?_
            rotate_left 1
            · simp only [Act.put, List.setIfInBounds_toArray, List.set_cons_zero, List.set_cons_succ]; rfl
            · intro w1 hs hf K hK
              go_big_quiet_op
              first
                | go_big_quiet_on
                | (refine ⟨_, fun _ _ => rfl, ?_⟩; go_big_quiet_on)
              rfl
          refine wpR_one (A' := ?_) Stp.refl (by rfl) _ rfl 76 (by rfl) (by rfl) ?_ ?_ ?_
          rotate_left 1
          · simp only [Act.put, List.setIfInBounds_toArray, List.set_cons_zero, List.set_cons_succ]; rfl
          · intro w1 hs hf K hK
            refine cls_load 24 (.tmp 6) rfl (w.heap.size + 2) (0) rfl ((xD.map bv)) _ (fun w2 h2 => HR2.out w2 (Stp.trans _ _ _ hs h2)) Tryz.underlying24 rfl HDS.out ?_
            refine hK _ ?_
            simp only [Act.put, List.setIfInBounds_toArray, List.set_cons_zero, List.set_cons_succ]
            rfl
          iterate 2
            refine wpR_one (A' := ?_) Stp.refl (by rfl) _ rfl 76 (by rfl) (by rfl) ?_ ?_ ?_
            rotate_left 1
            · simp only [Act.put, List.setIfInBounds_toArray, List.set_cons_zero, List.set_cons_succ]; rfl
            · intro w1 hs hf K hK
              go_big_quiet_op
              first
                | go_big_quiet_on
                | (refine ⟨_, fun _ _ => rfl, ?_⟩; go_big_quiet_on)
              rfl
          refine wpR_one (A' := ?_) Stp.refl (by rfl) _ rfl 76 (by rfl) (by rfl) ?_ ?_ ?_
          rotate_left 1
          · simp only [Act.put, List.setIfInBounds_toArray, List.set_cons_zero, List.set_cons_succ]; rfl
          · intro w1 hs hf K hK
            refine cls_load_cell 25 (.tmp 65) rfl ⟨gq, 3, none⟩ rfl (.int .u64 (xA : Int)) (fun w h => by simp [go_sem, h]) (fun w2 h2 => HC.out w2 (Stp.trans _ _ _ hs h2) 3 _ c3) ?_
            refine hK _ ?_
            simp only [Act.put, List.setIfInBounds_toArray, List.set_cons_zero, List.set_cons_succ]
            rfl
          iterate 2
            refine wpR_one (A' := ?_) Stp.refl (by rfl) _ rfl 76 (by rfl) (by rfl) ?_ ?_ ?_
            rotate_left 1
            · simp only [Act.put, List.setIfInBounds_toArray, List.set_cons_zero, List.set_cons_succ]; rfl
            · intro w1 hs hf K hK
              go_big_quiet_op
              first
                | go_big_quiet_on
                | (refine ⟨_, fun _ _ => rfl, ?_⟩; go_big_quiet_on)
              rfl
          refine wpR_one (A' := ?_) Stp.refl (by rfl) _ rfl 76 (by rfl) (by rfl) ?_ ?_ ?_
          rotate_left 1
          · simp only [Act.put, List.setIfInBounds_toArray, List.set_cons_zero, List.set_cons_succ]; rfl
          · intro w1 hs hf K hK
            refine cls_load_cell 25 (.tmp 68) rfl ⟨gq, 4, none⟩ rfl (.int .u64 (xY : Int)) (fun w h => by simp [go_sem, h]) (fun w2 h2 => HC.out w2 (Stp.trans _ _ _ hs h2) 4 _ c4) ?_
            refine hK _ ?_
            simp only [Act.put, List.setIfInBounds_toArray, List.set_cons_zero, List.set_cons_succ]
            rfl
          iterate 1
            refine wpR_one (A' := ?_) Stp.refl (by rfl) _ rfl 76 (by rfl) (by rfl) ?_ ?_ ?_
            rotate_left 1
            · simp only [Act.put, List.setIfInBounds_toArray, List.set_cons_zero, List.set_cons_succ]; rfl
            · intro w1 hs hf K hK
              go_big_quiet_op
              first
                | go_big_quiet_on
                | (refine ⟨_, fun _ _ => rfl, ?_⟩; go_big_quiet_on)
              rfl
          iterate 2
            refine wpR_one (A' := ?_) Stp.refl (by rfl) _ rfl 76 (by rfl) (by rfl) ?_ ?_ ?_
            rotate_left 1
            · simp only [Act.put, List.setIfInBounds_toArray, List.set_cons_zero, List.set_cons_succ]; rfl
            · intro w1 hs hf K hK
              go_big_quiet_op
              first
                | go_big_quiet_on
                | (refine ⟨_, fun _ _ => rfl, ?_⟩; go_big_quiet_on)
              rfl
          refine wpR_one (A' := ?_) Stp.refl (by rfl) _ rfl 76 (by rfl) (by rfl) ?_ ?_ ?_
          rotate_left 1
          · simp only [Act.put, List.setIfInBounds_toArray, List.set_cons_zero, List.set_cons_succ]; rfl
          · intro w1 hs hf K hK
            refine cls_load_cell 25 (.tmp 72) rfl ⟨gq, 5, none⟩ rfl (.int .u64 (xP : Int)) (fun w h => by simp [go_sem, h]) (fun w2 h2 => HC.out w2 (Stp.trans _ _ _ hs h2) 5 _ c5) ?_
            refine hK _ ?_
            simp only [Act.put, List.setIfInBounds_toArray, List.set_cons_zero, List.set_cons_succ]
            rfl
          iterate 1
            refine wpR_one (A' := ?_) Stp.refl (by rfl) _ rfl 76 (by rfl) (by rfl) ?_ ?_ ?_
            rotate_left 1
            · simp only [Act.put, List.setIfInBounds_toArray, List.set_cons_zero, List.set_cons_succ]; rfl
            · intro w1 hs hf K hK
              go_big_quiet_op
              first
                | go_big_quiet_on
                | (refine ⟨_, fun _ _ => rfl, ?_⟩; go_big_quiet_on)
              rfl
          intro w5 hs1 hf
          have T5 := Lib.hid (HWS.out w5 hs1)
          have G5 := Lib.hid (T5.out.heap HG0.out (fun h => h))
          clear hs1 hf
          go_wp2_with (first
            | (refine wpList_build_eq (o := ⟨some 75, _, _, _, _, _⟩) rfl 27 #[(0, .tmp 58), (1, .tmp 62), (2, .tmp 63), (3, .tmp 66), (4, .tmp 70), (5, .tmp 74)] rfl CB HB'.out ?_)
            | (refine wpList_store_row rfl _ _ _ rfl w.heap.size CB rfl rfl 27 Z37E G5.out B1.out B2.out B3.out ?_))
          have h3 := setRow_heap w5 w.heap.size Z37E CB 27 (0, 0) G5.out
          have t6 : Turn (fun i => i = w.heap.size) w5 (w5.setRow w.heap.size CB) := (Turn.refl _ _).setRow _ _ (fun _ => rfl)
          refine bodyPost_ret (v := .tuple #[.agg CB, .int .i64 0]) ?_ rfl ⟨by rw [HR.out.1, HR.out.2, HBV.out, HCB.out]; rfl, (HTR.out.trans T5.out (fun _ _ h => h)).trans t6 (fun i hi h => by omega)⟩
          exact results_er Tryz.results31 _ _ w.heap.size _ _ rfl rfl h3 HSB.out
      · have HR := Lib.hid (hE.1 (.inl hl))
        have hnp : 0 < n' := by rw [hn']; exact List.length_pos_iff.2 hl
        have tn : decide (0 < (n' : Int)) = true := by rw [decide_eq_true_eq]; omega
        have tn2 : decide (0 < n') = true := by rw [decide_eq_true_eq]; omega
        clear hE hl hn' HBV hnp
        go_wp2_with (refine wpList_store_row rfl _ _ _ rfl w.heap.size CZ rfl (by rw [HCZ.out]; rfl) 27 Z37E HG0.out K1.out K2.out K3.out ?_)
        have h3 := setRow_heap wr w.heap.size Z37E CZ 27 (0, 0) HG0.out
        have t6 : Turn (fun i => i = w.heap.size) wr (wr.setRow w.heap.size CZ) := (Turn.refl _ _).setRow _ _ (fun _ => rfl)
        refine bodyPost_ret (v := .tuple #[.agg CZ, .int .i64 3]) ?_ rfl ⟨by rw [HR.out.1, HR.out.2, HCZ.out]; rfl, HTR.out.trans t6 (fun i hi h => by omega)⟩
        exact results_er Tryz.results31 _ _ w.heap.size _ _ rfl rfl h3 HSZ.out
end
end Go.Proofs.YthoaaieiiokcmaaGreatDoor
