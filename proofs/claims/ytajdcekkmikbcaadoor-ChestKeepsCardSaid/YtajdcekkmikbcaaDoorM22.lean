/- Merged: The landed drum: Write. -/
import Derived.Test.YtajdcekkmikbcaaDoorM21
import Derived.Test.YtajdcekkmikbcaaDoorM08
import Derived.Test.YtajdcekkmikbcaaDoorM20
import Derived.Laws.Tables
namespace Go.Proofs.YtajdcekkmikbcaaDoor
section
set_option linter.unusedVariables false
open Go.RowKit
set_option maxRecDepth 100000 in
theorem spot_none {w : World} {ad : Addr} {v : Value} (h : w.cell? ad = some v) : ad.spot = none := by
  unfold World.cell? at h
  cases hh : ad.spot with
  | none => rfl
  | some z =>
    rw [hh] at h
    revert h
    split <;> simp
set_option maxRecDepth 100000 in
theorem addr_zero0 (a : Addr) : a.add 0 = a := by unfold Addr.add; split <;> simp_all
/-- The row's new element. -/
def LWR (x : Nat × Sec) (news : List Value) (_ : World) : Prop := news = wtV x
def SlW (B : Nat) (x : Nat × Sec) (v : Value) (w : World) : Prop := ∃ g, B ≤ g ∧ v = .slice (some ⟨g, 0, none⟩) 1 1 ∧ w.heap[g]? = some (.cells (wtV x).toArray 94 (0, 0))
set_option maxRecDepth 100000 in
theorem arr64 (A : Option Addr) (c : Nat) (w : World) : (Instr.arrayAt 92 (.slice A 64 c)).run Tryd.prog w = .ok (.pointer A) w := by kernel_rfl
attribute [local go_sem] arr64
set_option maxRecDepth 100000 in
theorem info_wr : (Tryd.prog.info? 94).map (fun i => (i.zero, i.size, i.bytes)) = some (some (.agg ZWr), 65, 72) := by kernel_rfl
set_option maxRecDepth 100000 in
theorem built_wr64 (x0 x1 x2 x3 x4 x5 x6 x7 x8 x9 x10 x11 x12 x13 x14 x15 x16 x17 x18 x19 x20 x21 x22 x23 x24 x25 x26 x27 x28 x29 x30 x31 x32 x33 x34 x35 x36 x37 x38 x39 x40 x41 x42 x43 x44 x45 x46 x47 x48 x49 x50 x51 x52 x53 x54 x55 x56 x57 x58 x59 x60 x61 x62 x63 : Value) (k : Int) : Tryd.prog.built 94 [(0, .int .i64 k), (1, .agg #[x0, x1, x2, x3, x4, x5, x6, x7, x8, x9, x10, x11, x12, x13, x14, x15, x16, x17, x18, x19, x20, x21, x22, x23, x24, x25, x26, x27, x28, x29, x30, x31, x32, x33, x34, x35, x36, x37, x38, x39, x40, x41, x42, x43, x44, x45, x46, x47, x48, x49, x50, x51, x52, x53, x54, x55, x56, x57, x58, x59, x60, x61, x62, x63])] = some #[.int .i64 k, x0, x1, x2, x3, x4, x5, x6, x7, x8, x9, x10, x11, x12, x13, x14, x15, x16, x17, x18, x19, x20, x21, x22, x23, x24, x25, x26, x27, x28, x29, x30, x31, x32, x33, x34, x35, x36, x37, x38, x39, x40, x41, x42, x43, x44, x45, x46, x47, x48, x49, x50, x51, x52, x53, x54, x55, x56, x57, x58, x59, x60, x61, x62, x63] := by kernel_rfl
set_option maxRecDepth 100000 in
theorem built_wr (l : List Value) (k : Int) (h : l.length = 64) : Tryd.prog.built 94 [(0, .int .i64 k), (1, .agg l.toArray)] = some (Value.int .i64 k :: l).toArray := by
  match l, h with
  | x0 :: x1 :: x2 :: x3 :: x4 :: x5 :: x6 :: x7 :: x8 :: x9 :: x10 :: x11 :: x12 :: x13 :: x14 :: x15 :: x16 :: x17 :: x18 :: x19 :: x20 :: x21 :: x22 :: x23 :: x24 :: x25 :: x26 :: x27 :: x28 :: x29 :: x30 :: x31 :: x32 :: x33 :: x34 :: x35 :: x36 :: x37 :: x38 :: x39 :: x40 :: x41 :: x42 :: x43 :: x44 :: x45 :: x46 :: x47 :: x48 :: x49 :: x50 :: x51 :: x52 :: x53 :: x54 :: x55 :: x56 :: x57 :: x58 :: x59 :: x60 :: x61 :: x62 :: x63 :: [], _ => exact built_wr64 x0 x1 x2 x3 x4 x5 x6 x7 x8 x9 x10 x11 x12 x13 x14 x15 x16 x17 x18 x19 x20 x21 x22 x23 x24 x25 x26 x27 x28 x29 x30 x31 x32 x33 x34 x35 x36 x37 x38 x39 x40 x41 x42 x43 x44 x45 x46 x47 x48 x49 x50 x51 x52 x53 x54 x55 x56 x57 x58 x59 x60 x61 x62 x63 k
set_option maxRecDepth 100000 in
theorem fill_wr64 (x0 x1 x2 x3 x4 x5 x6 x7 x8 x9 x10 x11 x12 x13 x14 x15 x16 x17 x18 x19 x20 x21 x22 x23 x24 x25 x26 x27 x28 x29 x30 x31 x32 x33 x34 x35 x36 x37 x38 x39 x40 x41 x42 x43 x44 x45 x46 x47 x48 x49 x50 x51 x52 x53 x54 x55 x56 x57 x58 x59 x60 x61 x62 x63 y : Value) : Instr.fill (fun i => some (i * 65, 65)) ((Array.range (1 * 65)).map fun x => (Value.agg ZWr).cells[x % (Value.agg ZWr).cells.size]!) [(0, .agg #[y, x0, x1, x2, x3, x4, x5, x6, x7, x8, x9, x10, x11, x12, x13, x14, x15, x16, x17, x18, x19, x20, x21, x22, x23, x24, x25, x26, x27, x28, x29, x30, x31, x32, x33, x34, x35, x36, x37, x38, x39, x40, x41, x42, x43, x44, x45, x46, x47, x48, x49, x50, x51, x52, x53, x54, x55, x56, x57, x58, x59, x60, x61, x62, x63])] = some #[y, x0, x1, x2, x3, x4, x5, x6, x7, x8, x9, x10, x11, x12, x13, x14, x15, x16, x17, x18, x19, x20, x21, x22, x23, x24, x25, x26, x27, x28, x29, x30, x31, x32, x33, x34, x35, x36, x37, x38, x39, x40, x41, x42, x43, x44, x45, x46, x47, x48, x49, x50, x51, x52, x53, x54, x55, x56, x57, x58, x59, x60, x61, x62, x63] := by kernel_rfl
set_option maxRecDepth 100000 in
theorem fill_wr (l : List Value) (y : Value) (h : l.length = 64) : Instr.fill (fun i => some (i * 65, 65)) ((Array.range (1 * 65)).map fun x => (Value.agg ZWr).cells[x % (Value.agg ZWr).cells.size]!) [(0, .agg (y :: l).toArray)] = some (y :: l).toArray := by
  match l, h with
  | x0 :: x1 :: x2 :: x3 :: x4 :: x5 :: x6 :: x7 :: x8 :: x9 :: x10 :: x11 :: x12 :: x13 :: x14 :: x15 :: x16 :: x17 :: x18 :: x19 :: x20 :: x21 :: x22 :: x23 :: x24 :: x25 :: x26 :: x27 :: x28 :: x29 :: x30 :: x31 :: x32 :: x33 :: x34 :: x35 :: x36 :: x37 :: x38 :: x39 :: x40 :: x41 :: x42 :: x43 :: x44 :: x45 :: x46 :: x47 :: x48 :: x49 :: x50 :: x51 :: x52 :: x53 :: x54 :: x55 :: x56 :: x57 :: x58 :: x59 :: x60 :: x61 :: x62 :: x63 :: [], _ => exact fill_wr64 x0 x1 x2 x3 x4 x5 x6 x7 x8 x9 x10 x11 x12 x13 x14 x15 x16 x17 x18 x19 x20 x21 x22 x23 x24 x25 x26 x27 x28 x29 x30 x31 x32 x33 x34 x35 x36 x37 x38 x39 x40 x41 x42 x43 x44 x45 x46 x47 x48 x49 x50 x51 x52 x53 x54 x55 x56 x57 x58 x59 x60 x61 x62 x63 y
set_option maxRecDepth 100000 in
theorem build_wr (l : List Value) (y : Value) (h : l.length = 64) (w : World) : (Instr.buildSlice 69 1 #[(0, .agg (y :: l).toArray)]).run Tryd.prog w = .ok (.slice (some ⟨w.heap.size, 0, none⟩) 1 1) (w.alloc (.cells (y :: l).toArray 94)) := by
  obtain ⟨i0, hi, hz0, hz1, hz2⟩ := info_parts info_wr
  refine run_buildSlice w 69 94 1 _ _ i0 (.agg ZWr) Tryd.underlying69 hi hz0 (by rw [hz1]; decide) (by rw [hz1]; decide) ?_
  rw [hz1]
  exact fill_wr l y h
set_option maxRecDepth 100000 in
theorem does_build_wr {o : Oper} {a : Act} {w : World} {R : Value → World → Prop} (x : Operand) (ho : o.op = .buildSlice 69 1 #[(0, x)]) (l : List Value) (y : Value) (h : l.length = 64) (hx : a.eval x = .agg (y :: l).toArray) (hR : R (.slice (some ⟨w.heap.size, 0, none⟩) 1 1) (w.alloc (.cells (y :: l).toArray 94))) : doesR Tryd.prog o a w R := by
  unfold doesR execOp
  simp only [ho, List.map_toArray, List.map_cons, List.map_nil, hx, Sem.run_bind, build_wr l y h w, Result.andThen_ok]
  exact hR
set_option maxRecDepth 100000 in
theorem cls_build {P : Program} {C : World → Prop} {o : Oper} {a : Act} {K : Act → Prop} (ty : TypeId) (parts : Array (Nat × Operand)) (ho : o.op = .build ty parts) (cs : Array Value) (hf' : P.built ty (parts.toList.map fun p => (p.1, a.eval p.2)) = some cs) (hK : K (a.put o.dst (.agg cs))) : o.quiet P a C K :=
  cls_cell (.agg cs) (fun w _ => by
    have hf : P.built ty (parts.map fun (i, x) => (i, a.eval x)).toList = some cs := by rw [Array.toList_map]; exact hf'
    unfold execOp
    simp only [ho, Sem.run_bind, run_build w ty _ cs hf, Result.andThen_ok]
    rfl) hK
set_option maxRecDepth 100000 in
theorem wt_one (x : Nat × Sec) : ∀ u ∈ wtV x, u.oneCell' = true := by
  intro u hu
  simp only [wtV, List.mem_cons] at hu
  rcases hu with rfl | hu
  · rfl
  · exact bv_one _ _ hu
set_option maxRecDepth 100000 in
theorem LMem.more {w w' : World} {g n : Nat} {Sv Wv : Value} {d : Dr} {D : Nat → Prop} (h : LMem w' g Sv Wv d n D) : LMem w' g Sv Wv d n (Dn D w w') :=
  ⟨h.box, h.ok, h.small, h.rowL, h.rowW, h.few, h.neL, h.neW, h.ne, .inl h.ownG, fun k hk => .inl (h.ownL k hk), fun k hk => .inl (h.ownW k hk), fun k hk => hk.elim (h.lt k) (fun h => h.2)⟩
set_option maxHeartbeats 4000000 in
set_option maxRecDepth 100000 in
theorem lwrite_any (g n : Nat) (Sv Wv : Value) (d : Dr) (D : Nat → Prop) (a : Int) (A : Option Addr) (c : Nat) (bb : List B8) (w : World) (h : LMem w g Sv Wv d n D) (hM : SlN w D A (bb.map bv)) (hMl : bb.length ≤ maxLen) (hroom : d.W.length < 10000) :
    Calls Tryd.prog 26 #[.pointer (some ⟨g, 0, none⟩), .int .i64 a, .slice A bb.length c] w fun r w' => r = .returned (.int .i64 (d.writeE a bb : Int)) ∧ (∃ Wv', LMem w' g Sv Wv' (d.write a bb) n (Dn D w w')) ∧ Turn D w w' := by
  have HH := Lib.hid h
  have HR := Lib.hid (lreach_any g n Sv Wv d D a w h)
  have HM := Lib.hid hM
  unfold maxLen at hMl
  have err : ∀ (x : Nat), d.writeE a bb = x → d.write a bb = d → Calls Tryd.prog 26 #[.pointer (some ⟨g, 0, none⟩), .int .i64 a, .slice A bb.length c] w (fun r w' => r = .returned (.int .i64 (x : Int)) ∧ w' = w) →
      Calls Tryd.prog 26 #[.pointer (some ⟨g, 0, none⟩), .int .i64 a, .slice A bb.length c] w fun r w' => r = .returned (.int .i64 (d.writeE a bb : Int)) ∧ (∃ Wv', LMem w' g Sv Wv' (d.write a bb) n (Dn D w w')) ∧ Turn D w w' := by
    intro x hx hx0 hc
    refine hc.mono ?_
    rintro r w' ⟨rfl, hw⟩
    subst hw
    rw [hx, hx0]
    exact ⟨rfl, ⟨_, HH.out.more⟩, Turn.refl _ _⟩
  clear h hM
  by_cases hr : d.readE a = 0
  case neg =>
    refine err (d.readE a) (by unfold Dr.writeE; rw [if_pos hr]) (by unfold Dr.write; rw [if_pos (.inl hr)]) ?_
    clear err HM
    generalize d.readE a = E at HR hr ⊢
    have hE : ((E : Int) == 0) = false := by rw [beq_eq_false_iff_ne]; omega
    go_enter Tryd.func26, Tryd.ntmps26
    go_wp2_with (go_at_call 50; refine HR.out.mono ?_; rintro r w1 ⟨rfl, hw1⟩; rw [hw1]; clear hw1 w1)
    go_ret
    exact ⟨rfl, rfl⟩
  obtain ⟨hoff, ha0, hka⟩ := Dr.readE_ok HH.out.ok hr
  obtain ⟨k, rfl⟩ : ∃ k : Nat, a = (k : Int) := ⟨a.toNat, by omega⟩
  have hk : k < n := hka
  rw [hr] at HR
  by_cases h64 : bb.length = 64
  case neg =>
    have d64 : ((bb.length : Int) == 64) = false := by rw [beq_eq_false_iff_ne]; omega
    refine err 1 (by unfold Dr.writeE; rw [if_neg (by omega), if_pos h64]) (by unfold Dr.write; rw [if_pos (.inr h64)]) ?_
    clear err HM
    go_enter Tryd.func26, Tryd.ntmps26
    go_wp2_with (go_at_call 50; refine HR.out.mono ?_; rintro r w1 ⟨rfl, hw1⟩; rw [hw1]; clear hw1 w1)
    go_ret
    exact ⟨rfl, rfl⟩
  clear err ha0
  have HF := Lib.hid (lburns_any g n Sv Wv d D w HH.out hoff)
  by_cases h1 : d.fuse = 1
  · have e1 : d.writeE (k : Int) bb = 20 := by unfold Dr.writeE; rw [if_neg (by omega), if_neg (by omega), if_pos h1]
    have e2 : d.write (k : Int) bb = d.burn := by unfold Dr.write; rw [if_neg (by omega), if_pos h1]
    rw [e1, e2]
    have t1 : (d.fuse == 1) = true := by simpa using h1
    rw [t1] at HF
    clear e1 e2 h1 t1
    go_enter Tryd.func26, Tryd.ntmps26
    go_wp2_with (first | (go_at_call 50; refine HR.out.mono ?_; rintro r w1 ⟨rfl, hw1⟩; rw [hw1]; clear hw1 w1) | (go_at_call 51; refine HF.out.mono ?_; rintro r w2 ⟨rfl, hb1, ht1⟩; have HB1 := Lib.hid hb1; have HT1 := Lib.hid ht1; clear hb1 ht1))
    go_ret
    exact ⟨rfl, ⟨_, HB1.out.more⟩, HT1.out.mono fun i _ e => by have e : i = g := e; subst e; exact HH.out.ownG⟩
  have e1 : d.writeE (k : Int) bb = 0 := by unfold Dr.writeE; rw [if_neg (by omega), if_neg (by omega), if_neg h1]
  have e2 : d.write (k : Int) bb = { d.burn with W := d.W ++ [(k, bb)] } := by unfold Dr.write; rw [if_neg (by omega), if_neg h1]; rfl
  rw [e1, e2]
  have t1 : (d.fuse == 1) = false := by simpa using h1
  rw [t1] at HF
  clear e1 e2 h1 t1 hr
  go_enter Tryd.func26, Tryd.ntmps26
  go_wp2_with (first | (go_at_call 50; refine HR.out.mono ?_; rintro r w1 ⟨rfl, hw1⟩; rw [hw1]; clear hw1 w1) | (go_at_call 51; refine stop ?_))
  unfold Stop
  refine HF.out.mono ?_
  rintro r wa ⟨rfl, H1, ht1⟩
  have HT1 := Lib.hid ht1
  obtain ⟨AW, cW, eW, -⟩ := own_cells H1.rowW
  obtain ⟨f, hbx, hfz, hfo⟩ := H1.box
  obtain ⟨q0, q1, q2, q3, y0, y1, y2, y3⟩ := hbx.cells
  obtain ⟨ad, rfl, -, hsp⟩ := HM.out 0 (bv bb[0]) (bvs_at bb 0 (by omega))
  have hsp := spot_none hsp
  rw [addr_zero0] at hsp
  obtain ⟨b, o, sp⟩ := ad
  have hsp : sp = none := hsp
  subst hsp
  have HBB := Lib.hid (show (∀ j u, (bb.map bv)[j]? = some u → wa.cell? ⟨b, o + j, none⟩ = some u) ∧ ¬ D b from ⟨fun j u hu => by
    obtain ⟨ad', e, hnd, hc⟩ := HM.out j u hu
    injection e with e; subst e
    have ea : (⟨b, o, none⟩ : Addr).add j = ⟨b, o + j, none⟩ := by unfold Addr.add; split <;> simp_all
    rw [ea] at hc
    exact ht1.cell hc (by intro e; exact hnd (by have e : b = g := e; rw [e]; exact HH.out.ownG)), by
    obtain ⟨ad', e, hnd, hc⟩ := HM.out 0 (bv bb[0]) (bvs_at bb 0 (by omega))
    injection e with e; subst e
    exact hnd⟩)
  have HR1 := Lib.hid H1
  have HBX := Lib.hid hbx
  have hB : ∀ gR, Wv.ownBlock = some gR → gR < wa.heap.size := fun gR e => H1.lt _ (H1.ownW _ e)
  have HBr := Lib.hid hB
  have hgR : Wv.ownBlock ≠ some g := H1.neW
  have hg1 : g < wa.heap.size := hbx.lt
  have HRS : ∀ news w w', LWR (k, bb) news w → Turn (fun q => Wv.ownBlock = some q) w w' → LWR (k, bb) news w' := fun news w w' h _ => h
  have HFO := Lib.hid hfo
  clear ht1 HF H1 HR HM hbx hfo
  go_upto_region 8 with fail
  have hcap : ∀ gR n' cR, Wv = .slice (some ⟨gR, 0, none⟩) n' cR → cR = cW := fun gR n' cR e => by rw [eW] at e; injection e with _ _ e; exact e.symm
  have S29 : ∀ (v : Value) (w w' : World), SlW wa.heap.size (k, bb) v w → App 94 65 d.W.length cW Wv.ownBlock (wtsV d.W) (LWR (k, bb)) w w' → SlW wa.heap.size (k, bb) v w' := fun v w w' ⟨q, hq, e, hh⟩ hs => ⟨q, hq, e, hs.heap hh (fun e => by have := hB _ e; omega)⟩
  refine wp_region_rel_tail 14 33 (by kernel_rfl) (by kernel_rfl) (App 94 65 d.W.length cW Wv.ownBlock (wtsV d.W) (LWR (k, bb))) [.one ?_, .one ?_, .one ?_, .one ?_, .one ?_, .one ?_, .one ?_, .one ?_, .one ?_, .one ?_, .rel (SlW wa.heap.size (k, bb)), .rel (Apd 94 65 d.W.length cW wa.heap.size Wv.ownBlock (wtsV d.W) (LWR (k, bb))), .one ?_, .one ?_] (by kernel_rfl) rfl (by kernel_rfl) App.refl (App.trans HRS) ⟨S29, Apd.stable HRS hB, trivial⟩ ?main
  case main =>
  simp only [List.take_succ_cons, List.take_zero, List.drop_succ_cons, List.drop_zero]
  iterate 4
    refine wpR_one (A' := ?_) App.refl (by rfl) _ rfl 33 (by rfl) (by rfl) ?_ ?_ ?_
    rotate_left 1
    · simp only [Act.put, List.setIfInBounds_toArray, List.set_cons_zero, List.set_cons_succ]; rfl
    · intro w1 hs hf K hK
      go_big_quiet_op
      first
        | go_big_quiet_on
        | (refine ⟨_, fun _ _ => rfl, ?_⟩; go_big_quiet_on)
      rfl
  refine wpR_one (A' := ?_) App.refl (by rfl) _ rfl 33 (by rfl) (by rfl) ?_ ?_ ?_
  rotate_left 1
  · simp only [Act.put, List.setIfInBounds_toArray, List.set_cons_zero, List.set_cons_succ]; rfl
  · intro w1 hs hf K hK
    refine cls_load_cell 69 (.tmp 22) rfl ⟨g, 1, none⟩ rfl (Wv) (fun w h => by rw [eW] at h ⊢; simp [go_sem, h]) (fun w2 h2 => (App.trans HRS _ _ _ hs h2).cell (show wa.drew.cell? _ = _ from q1) hgR) ?_
    refine hK _ ?_
    simp only [Act.put, List.setIfInBounds_toArray, List.set_cons_zero, List.set_cons_succ]
    rfl
  iterate 3
    refine wpR_one (A' := ?_) App.refl (by rfl) _ rfl 33 (by rfl) (by rfl) ?_ ?_ ?_
    rotate_left 1
    · simp only [Act.put, List.setIfInBounds_toArray, List.set_cons_zero, List.set_cons_succ]; rfl
    · intro w1 hs hf K hK
      go_big_quiet_op
      first
        | go_big_quiet_on
        | (refine ⟨_, fun _ _ => rfl, ?_⟩; go_big_quiet_on)
      rfl
  refine wpR_one (A' := ?_) App.refl (by rfl) _ rfl 33 (by rfl) (by rfl) ?_ ?_ ?_
  rotate_left 1
  · simp only [Act.put, List.setIfInBounds_toArray, List.set_cons_zero, List.set_cons_succ]; rfl
  · intro w1 hs hf K hK
    refine cls_load 92 (.tmp 26) rfl (b) (o) rfl (bb.map bv) _ (fun w2 h2 => fun j u hu => (App.trans HRS _ _ _ hs h2).cell (show wa.drew.cell? _ = _ from HBB.out.1 j u hu) (fun e => HBB.out.2 (HR1.out.ownW _ e))) Tryd.underlying92 rfl (by rw [List.length_map, h64]; kernel_rfl) ?_
    refine hK _ ?_
    simp only [Act.put, List.setIfInBounds_toArray, List.set_cons_zero, List.set_cons_succ]
    rfl
  refine wpR_one (A' := ?_) App.refl (by rfl) _ rfl 33 (by rfl) (by rfl) ?_ ?_ ?_
  rotate_left 1
  · simp only [Act.put, List.setIfInBounds_toArray, List.set_cons_zero, List.set_cons_succ]; rfl
  · intro w1 hs hf K hK
    refine cls_build 94 #[(0, .tmp 24), (1, .tmp 27)] rfl (Value.int .i64 (k : Int) :: bb.map bv).toArray (built_wr (bb.map bv) (k : Int) (by simp [h64])) ?_
    refine hK _ ?_
    simp only [Act.put, List.setIfInBounds_toArray, List.set_cons_zero, List.set_cons_succ]
    rfl
  refine wpR_rel (A' := ?_) (by rfl) ?_ ?_ ?_
  · intro w1 hs hf
    have hst : App 94 65 d.W.length cW Wv.ownBlock (wtsV d.W) (LWR (k, bb)) w1 (w1.alloc (.cells (wtV (k, bb)).toArray 94)) := App.of_stp ((Below.refl _ _).alloc (Nat.le_refl _) _) (fun gR e => Nat.lt_of_lt_of_le (HBr.out gR e) (show wa.drew.heap.size ≤ w1.heap.size from hs.t.size))
    exact does_build_wr _ rfl (bb.map bv) (.int .i64 (k : Int)) (by simp [h64]) rfl ⟨⟨_, (show wa.drew.heap.size ≤ w1.heap.size from hs.t.size), rfl, heap_alloc_new _ _⟩, hst⟩
  rotate_left 1
  · intro x
    simp only [Act.put, List.setIfInBounds_toArray, List.set_cons_zero, List.set_cons_succ]; rfl
  intro x29
  refine wpR_rel (A' := ?_) (by rfl) ?_ ?_ ?_
  · intro w1 hs hf
    obtain ⟨g29, hB29, e29, hh29⟩ := AllF_at hf 0 rfl (by kernel_rfl)
    obtain ⟨i, hi, hz, hs1, hby⟩ := info_parts info_wr
    have hrow := hs.keepRow (base := 0) (v := Wv) (show wa.drew.ownsRow 0 _ 65 Wv d.W.length (wtsV d.W) from HR1.out.rowW) rfl hcap
    have hcs : ∀ j u, (wtV (k, bb))[j]? = some u → w1.cell? ((⟨g29, 0, none⟩ : Addr).add j) = some u := fun j u hu => by
      have e : (⟨g29, 0, none⟩ : Addr).add j = ⟨g29, j, none⟩ := by unfold Addr.add; by_cases hj : j = 0 <;> simp [hj]
      rw [e, cell_of_row _ _ _ _ _ _ hh29, List.getElem?_toArray]; exact hu
    obtain ⟨v', w', hr, h3, h4⟩ := run_app (P := Tryd.prog) (B := wa.heap.size) 69 69 i _ 72 Tryd.underlying69 hi hz hs1 hby (by simp [Value.cells, ZWr_size]) (by decide) HRS w1 Wv hrow rfl hcap (fun gR e => Nat.lt_of_lt_of_le (HBr.out gR e) (show wa.drew.heap.size ≤ w1.heap.size from hs.t.size)) (show wa.drew.heap.size ≤ w1.heap.size from hs.t.size) ⟨g29, 0, none⟩ 1 (wtV (k, bb)) (by simp [wtV, h64]) hcs (wt_one _) rfl (by unfold maxLen; omega) (by omega)
    exact does_append _ _ _ _ _ v' rfl rfl e29 hr ⟨h3, h4⟩
  rotate_left 1
  · intro x
    simp only [Act.put, List.setIfInBounds_toArray, List.set_cons_zero, List.set_cons_succ]; rfl
  intro x30
  iterate 2
    refine wpR_one (A' := ?_) App.refl (by rfl) _ rfl 33 (by rfl) (by rfl) ?_ ?_ ?_
    rotate_left 1
    · simp only [Act.put, List.setIfInBounds_toArray, List.set_cons_zero, List.set_cons_succ]; rfl
    · intro w1 hs hf K hK
      go_big_quiet_op
      first
        | go_big_quiet_on
        | (refine ⟨_, fun _ _ => rfl, ?_⟩; go_big_quiet_on)
      rfl
  intro w9 hs hf
  obtain ⟨⟨news, rfl, ho30, hx30, hv30⟩, -⟩ := hf
  obtain ⟨g30, c30, rfl, hb30⟩ : ∃ g' c', x30 = .slice (some ⟨g', 0, none⟩) (d.W.length + 1) c' ∧ (Wv.ownBlock = some g' ∨ wa.heap.size ≤ g') := by
    rcases hv30 with ⟨q, e, rfl⟩ | ⟨q, cq, hq, rfl⟩
    · exact ⟨q, _, rfl, .inl e⟩
    · exact ⟨q, cq, rfl, .inr hq⟩
  have hb9 : LBox w9 g Sv Wv f d.burn.off := LBox.turn (w := wa.drew) HBX.out hs.t hgR
  obtain ⟨p0, p1, p2, p3, z0, z1, z2, z3⟩ := hb9.cells
  have HB9 := Lib.hid hb9
  have HS := Lib.hid hs
  have HO := Lib.hid ho30
  clear hb9 hs hv30 ho30 hx30
  go_wp2
  go_ret
  have hs := HS.out
  have h1 := HR1.out
  have hne30 : g30 ≠ g := by
    rcases hb30 with e | e
    · intro e2; exact hgR (by rw [e, e2])
    · omega
  have TA : Turn (fun q => q = g ∨ Wv.ownBlock = some q) wa (w9.setCell ⟨g, 1, none⟩ (.slice (some ⟨g30, 0, none⟩) (d.W.length + 1) c30)) :=
    ((show Turn (fun q => Wv.ownBlock = some q) wa w9 from ⟨hs.t.os, hs.t.tape, hs.t.output, hs.t.size, hs.t.block⟩).mono (fun _ _ h => .inr h)).setCell _ _ (fun _ => .inl rfl)
  have TG : Turn (fun q => q = g) w9 (w9.setCell ⟨g, 1, none⟩ (.slice (some ⟨g30, 0, none⟩) (d.W.length + 1) c30)) := (Turn.refl (fun q => q = g) w9).setCell ⟨g, 1, none⟩ _ (fun _ => rfl)
  have hsz : w.heap.size ≤ wa.heap.size := HT1.out.size
  have ho9 := own_turn TG HO.out (fun q hq e => by injection hq with hq; have e : q = g := e; exact hne30 (hq.trans e))
  have hlt30 := (ho9.lt g30 rfl).2
  refine ⟨rfl, ⟨.slice (some ⟨g30, 0, none⟩) (d.W.length + 1) c30, ⟨⟨f, HB9.out.setW _, hfz, HFO.out⟩, ⟨h1.ok.len, h1.ok.sec, fun x hx => ?_⟩, h1.small, own_turn TA h1.rowL (fun q hq e => ?_), ?_, by simp; omega, h1.neL, (fun e => ?_), (fun q hq e => ?_), .inl h1.ownG, fun q hq => .inl (h1.ownL q hq), (fun q hq => ?_), (fun q hq => ?_)⟩⟩, ?_⟩
  · rcases List.mem_append.1 hx with h5 | h5
    · exact h1.ok.wait x h5
    · rw [List.mem_singleton] at h5; subst h5; exact ⟨hk, h64⟩
  · rcases e with e | e
    · subst e; exact h1.neL hq
    · exact h1.ne q hq e
  · have e : wtsV (d.W ++ [(k, bb)]) = wtsV d.W ++ wtV (k, bb) := by simp [wtsV]
    rw [List.length_append, e]
    exact ho9
  · injection e with e; exact hne30 e
  · injection e with e
    have e : g30 = q := e
    rcases hb30 with e2 | e2
    · exact h1.ne q hq (by rw [e2, e])
    · have := h1.lt _ (h1.ownL _ hq); omega
  · injection hq with hq
    have hq : g30 = q := hq
    subst hq
    rcases hb30 with e2 | e2
    · exact .inl (h1.ownW _ e2)
    · exact .inr ⟨by omega, hlt30⟩
  · rcases hq with h6 | h6
    · exact Nat.lt_of_lt_of_le (h1.lt q h6) TA.size
    · exact h6.2
  · refine (HT1.out.mono (fun i _ e => by have e : i = g := e; subst e; exact h1.ownG)).trans TA (fun i _ e => ?_)
    rcases e with e | e
    · subst e; exact h1.ownG
    · exact h1.ownW _ e
end
end Go.Proofs.YtajdcekkmikbcaaDoor
