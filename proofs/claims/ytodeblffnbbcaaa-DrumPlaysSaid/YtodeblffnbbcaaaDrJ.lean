/- The document's drum: New. -/
import Derived.Test.YtodeblffnbbcaaaDrI
set_option linter.unusedVariables false
namespace Go.Proofs.Ytodeblffnbbcaaa
open Go.RowKit
def NR (B : Nat) (news : List Value) (w : World) : Prop := ∃ X, news = [X] ∧ Copy B (zeros 64) X w
def SlL (B : Nat) (v : Value) (w : World) : Prop := ∃ g X, B ≤ g ∧ v = .slice (some ⟨g, 0, none⟩) 1 1 ∧ w.heap[g]? = some (.cells #[X] 28 (0, 0)) ∧ Copy B (zeros 64) X w
theorem info_sl : (Try.prog.info? 28).map (fun i => (i.zero, i.size, i.bytes)) = some (some (.slice none 0 0), 1, 24) := by kernel_rfl
theorem make64 (w : World) : (Instr.makeSlice 28 (.int .i64 64) (.int .i64 64)).run Try.prog w = .ok (.slice (some ⟨w.heap.size, 0, none⟩) 64 64) (w.alloc (.cells ((zeros 64).map bv).toArray 5)) := by
  obtain ⟨i0, hi, hz0, hz1, hz2⟩ := info_parts info_u8
  have := run_makeSlice (P := Try.prog) (w := w) 28 5 i0 (.int .u8 0) Try.underlying28 hi hz0 .i64 .i64 64 64 (by omega) (by omega) (by rw [hz1]; decide) (by rw [hz2]; decide) (by omega)
  rw [hz1] at this
  have e : madeCells (Value.int .u8 0).cells ((64 : Int).toNat * 1) = ((zeros 64).map bv).toArray := by kernel_rfl
  rw [e] at this
  exact this
theorem does_make64 {o : Oper} {a : Act} {w : World} {R : Value → World → Prop} (x y : Operand) (ho : o.op = .makeSlice 28 x y) (hx : a.eval x = .int .i64 64) (hy : a.eval y = .int .i64 64) (h : R (.slice (some ⟨w.heap.size, 0, none⟩) 64 64) (w.alloc (.cells ((zeros 64).map bv).toArray 5))) : doesR Try.prog o a w R := by
  unfold doesR execOp
  simp only [ho, hx, hy, Sem.run_bind, make64 w, Result.andThen_ok]
  exact h
theorem build_sl (g n c : Nat) (w : World) : (Instr.buildSlice 37 1 #[(0, .slice (some ⟨g, 0, none⟩) n c)]).run Try.prog w = .ok (.slice (some ⟨w.heap.size, 0, none⟩) 1 1) (w.alloc (.cells #[.slice (some ⟨g, 0, none⟩) n c] 28)) := by
  obtain ⟨i0, hi, hz0, hz1, hz2⟩ := info_parts info_sl
  refine run_buildSlice w 37 28 1 _ _ i0 (.slice none 0 0) Try.underlying37 hi hz0 (by rw [hz1]; decide) (by rw [hz1]; decide) ?_
  rw [hz1]
  have e : ((Array.range (1 * 1)).map fun x => (Value.slice none 0 0).cells[x % (Value.slice none 0 0).cells.size]!) = #[.slice none 0 0] := by kernel_rfl
  rw [e]
  simp [Instr.fill, Value.cells]
theorem does_build_sl1 {o : Oper} {a : Act} {w : World} {R : Value → World → Prop} (x : Operand) (ho : o.op = .buildSlice 37 1 #[(0, x)]) (g k c : Nat) (hx : a.eval x = .slice (some ⟨g, 0, none⟩) k c) (h : R (.slice (some ⟨w.heap.size, 0, none⟩) 1 1) (w.alloc (.cells #[.slice (some ⟨g, 0, none⟩) k c] 28))) : doesR Try.prog o a w R := by
  unfold doesR execOp
  simp only [ho, List.map_toArray, List.map_cons, List.map_nil, hx, Sem.run_bind, build_sl, Result.andThen_ok]
  exact h
/-- The blocks made since w. -/
def Since (w w' : World) : Nat → Prop := fun k => w.heap.size ≤ k ∧ k < w'.heap.size
set_option maxHeartbeats 4000000 in
set_option maxRecDepth 100000 in
theorem rnew_any (n : Nat) (hn : n ≤ 10000) (w : World) :
    Calls Try.prog 9 #[.int .i64 (n : Int)] w fun r w' => r = .returned (.pointer (some ⟨w.heap.size, 0, none⟩)) ∧ (∃ Lv vs, RMem w' w.heap.size Lv (.slice none 0 0) vs [] (Dr.new n) (Since w w')) ∧ Below w.heap.size w w' := by
  go_enter Try.func9, Try.ntmps9
  go_upto_region 3 with fail
  go_loopw [4] (fun i wr => ∃ (j : Nat) (Lv : Value) (vj : List Value), j ≤ n ∧ vj.length = j ∧ i = .int .i64 j ∧ RMem wr w.heap.size Lv (.slice none 0 0) vj [] (Dr.new j) (Since w wr) ∧ Below w.heap.size w wr) (fun i _ => n - (intOf i).toNat)
  case atStart =>
    refine ⟨0, .slice none 0 0, [], Nat.zero_le _, rfl, rfl, ⟨heap_alloc_new w _, by simp [Dr.new], .new 0, by simp, ⟨rfl, .inl ⟨rfl, rfl⟩⟩, ⟨rfl, .inl ⟨rfl, rfl⟩⟩, rfl, by simp, fun i v s h => by simp at h, fun i u x h => by simp at h, (fun e => by cases e), (fun e => by cases e), (fun k e => by cases e), ⟨Nat.le_refl _, by simp⟩, (fun k e => by cases e), (fun k e => by cases e), fun k h => h.2⟩, (Below.refl _ _).alloc (Nat.le_refl _) _⟩
  case round =>
    obtain ⟨j, Lv, vj, hj, hlen, rfl, hm, hb⟩ := hrel
    obtain ⟨wo, ewo⟩ : ∃ wo, wo = wr := ⟨_, rfl⟩
    subst ewo
    have HM := Lib.hid hm
    have HB0 := Lib.hid hb
    obtain ⟨q0, q1, q2, q3, y0, y1, y2, y3⟩ := hm.box.cells
    by_cases hlt : j < n
    · obtain ⟨AL, cL, eL, -⟩ := own_cells hm.rowL
      have hBw : ∀ gR, Lv.ownBlock = some gR → gR < wo.heap.size := fun gR e => hm.lt _ (hm.ownL _ e)
      have HBr := Lib.hid hBw
      have hgR : Lv.ownBlock ≠ some w.heap.size := hm.neL
      have hg1 : w.heap.size < wo.heap.size := hm.box.lt
      have HRS : ∀ news w w', NR wo.heap.size news w → Turn (fun q => Lv.ownBlock = some q) w w' → NR wo.heap.size news w' := fun news w w' ⟨X, e, hX⟩ t => ⟨X, e, copy_turn hX t hBw⟩
      have hcap : ∀ gR n' cR, Lv = .slice (some ⟨gR, 0, none⟩) n' cR → cR = cL := fun gR n' cR e => by rw [eL] at e; injection e with _ _ e; exact e.symm
      have hrw := hm.rowL
      rw [hlen] at hrw eL
      have HRW := Lib.hid hrw
      clear hm hb q1 q2 q3 y1 y2 y3 hrw
      go_upto_region 5 with fail
      have S17 : ∀ (v : Value) (w w' : World), Copy wo.heap.size (zeros 64) v w → App 28 1 j cL Lv.ownBlock vj (NR wo.heap.size) w w' → Copy wo.heap.size (zeros 64) v w' := fun v w w' h hs => copy_turn h hs.t hBw
      have S18 : ∀ (v : Value) (w w' : World), SlL wo.heap.size v w → App 28 1 j cL Lv.ownBlock vj (NR wo.heap.size) w w' → SlL wo.heap.size v w' := fun v w w' ⟨q, X, hq, e, hh, h⟩ hs => ⟨q, X, hq, e, hs.heap hh (fun e => by have := hBw _ e; omega), copy_turn h hs.t hBw⟩
      refine wp_region_rel_tail 10 23 (by kernel_rfl) (by kernel_rfl) (App 28 1 j cL Lv.ownBlock vj (NR wo.heap.size)) [.one ?_, .one ?_, .one ?_, .one ?_, .one ?_, .rel (Copy wo.heap.size (zeros 64)), .rel (SlL wo.heap.size), .rel (Apd 28 1 j cL wo.heap.size Lv.ownBlock vj (NR wo.heap.size)), .one ?_, .one ?_] (by kernel_rfl) rfl (by kernel_rfl) App.refl (App.trans HRS) ⟨S17, S18, Apd.stable HRS hBw, trivial⟩ ?main
      case main =>
      simp only [List.take_succ_cons, List.take_zero, List.drop_succ_cons, List.drop_zero]
      iterate 4
        refine wpR_one (A' := ?_) App.refl (by rfl) _ rfl 23 (by rfl) (by rfl) ?_ ?_ ?_
        rotate_left 1
        · simp only [Act.put, List.setIfInBounds_toArray, List.set_cons_zero, List.set_cons_succ]; rfl
        · intro w1 hs hf K hK
          go_big_quiet_op
          first
            | go_big_quiet_on
            | (refine ⟨_, fun _ _ => rfl, ?_⟩; go_big_quiet_on)
          rfl
      refine wpR_one (A' := ?_) App.refl (by rfl) _ rfl 23 (by rfl) (by rfl) ?_ ?_ ?_
      rotate_left 1
      · simp only [Act.put, List.setIfInBounds_toArray, List.set_cons_zero, List.set_cons_succ]; rfl
      · intro w1 hs hf K hK
        refine cls_load_cell 37 (.tmp 15) rfl ⟨w.heap.size, 0, none⟩ rfl (Lv) (fun w h => by rw [eL] at h ⊢; simp [go_sem, h]) (fun w2 h2 => (App.trans HRS _ _ _ hs h2).cell (show wo.drew.cell? _ = _ from q0) hgR) ?_
        refine hK _ ?_
        simp only [Act.put, List.setIfInBounds_toArray, List.set_cons_zero, List.set_cons_succ]
        rfl
      refine wpR_rel (A' := ?_) (by rfl) ?_ ?_ ?_
      · intro w1 hs hf
        exact does_make64 _ _ rfl rfl rfl ⟨⟨_, 64, (show wo.drew.heap.size ≤ w1.heap.size from hs.t.size), rfl, Nat.le_refl _, own_new w1 _ _ _ 64 (by simp [zeros]) (show wo.drew.heap.size ≤ w1.heap.size from hs.t.size) (by unfold maxLen; omega)⟩, App.of_stp ((Below.refl _ _).alloc (Nat.le_refl _) _) (fun gR e => Nat.lt_of_lt_of_le (HBr.out gR e) (show wo.drew.heap.size ≤ w1.heap.size from hs.t.size))⟩
      rotate_left 1
      · intro x
        simp only [Act.put, List.setIfInBounds_toArray, List.set_cons_zero, List.set_cons_succ]; rfl
      intro x17
      refine wpR_rel (A' := ?_) (by rfl) ?_ ?_ ?_
      · intro w1 hs hf
        have h17 := AllF_at hf 0 rfl (by kernel_rfl)
        obtain ⟨g17, c17, hB17, e17, hc17, ho17⟩ := id h17
        have hst : App 28 1 j cL Lv.ownBlock vj (NR wo.heap.size) w1 (w1.alloc (.cells #[.slice (some ⟨g17, 0, none⟩) 64 c17] 28)) := App.of_stp ((Below.refl _ _).alloc (Nat.le_refl _) _) (fun gR e => Nat.lt_of_lt_of_le (HBr.out gR e) (show wo.drew.heap.size ≤ w1.heap.size from hs.t.size))
        exact does_build_sl1 _ rfl g17 64 c17 e17 ⟨⟨_, _, (show wo.drew.heap.size ≤ w1.heap.size from hs.t.size), rfl, heap_alloc_new _ _, by rw [← e17]; exact copy_turn h17 (e17 ▸ hst).t hBw⟩, hst⟩
      rotate_left 1
      · intro x
        simp only [Act.put, List.setIfInBounds_toArray, List.set_cons_zero, List.set_cons_succ]; rfl
      intro x18
      refine wpR_rel (A' := ?_) (by rfl) ?_ ?_ ?_
      · intro w1 hs hf
        obtain ⟨g37, X, hB37, e37, hh37, hX⟩ := AllF_at hf 0 rfl (by kernel_rfl)
        obtain ⟨i, hi, hz, hs1, hby⟩ := info_parts info_sl
        have hrow := hs.keepRow (base := 0) (v := Lv) (show wo.drew.ownsRow 0 _ 1 Lv j vj from HRW.out) rfl hcap
        have hcs : ∀ j u, ([X] : List Value)[j]? = some u → w1.cell? ((⟨g37, 0, none⟩ : Addr).add j) = some u := fun j u hu => by
          have e : (⟨g37, 0, none⟩ : Addr).add j = ⟨g37, j, none⟩ := by unfold Addr.add; by_cases hj : j = 0 <;> simp [hj]
          rw [e, cell_of_row _ _ _ _ _ _ hh37, List.getElem?_toArray]; exact hu
        have hone : ∀ u ∈ ([X] : List Value), u.oneCell' = true := by
          obtain ⟨gX, cX, -, rfl, -⟩ := hX
          intro u hu
          rw [List.mem_singleton] at hu; rw [hu]; rfl
        obtain ⟨v', w', hr, h3, h4⟩ := run_app (P := Try.prog) (B := wo.heap.size) 37 37 i _ 24 Try.underlying37 hi hz hs1 hby rfl (by decide) HRS w1 Lv hrow rfl hcap (fun gR e => Nat.lt_of_lt_of_le (HBr.out gR e) (show wo.drew.heap.size ≤ w1.heap.size from hs.t.size)) (show wo.drew.heap.size ≤ w1.heap.size from hs.t.size) ⟨g37, 0, none⟩ 1 [X] rfl hcs hone ⟨X, rfl, hX⟩ (by unfold maxLen; omega) (by omega)
        exact does_append _ _ _ _ _ v' rfl rfl e37 hr ⟨h3, h4⟩
      rotate_left 1
      · intro x
        simp only [Act.put, List.setIfInBounds_toArray, List.set_cons_zero, List.set_cons_succ]; rfl
      intro x19
      iterate 2
        refine wpR_one (A' := ?_) App.refl (by rfl) _ rfl 23 (by rfl) (by rfl) ?_ ?_ ?_
        rotate_left 1
        · simp only [Act.put, List.setIfInBounds_toArray, List.set_cons_zero, List.set_cons_succ]; rfl
        · intro w1 hs hf K hK
          go_big_quiet_op
          first
            | go_big_quiet_on
            | (refine ⟨_, fun _ _ => rfl, ?_⟩; go_big_quiet_on)
          rfl
      intro w9 hs hf
      obtain ⟨⟨news, ⟨X, rfl, hX⟩, ho38, hx38, hv38⟩, -⟩ := hf
      obtain ⟨g38, c38, rfl, hb38⟩ : ∃ g' c', x19 = .slice (some ⟨g', 0, none⟩) (j + 1) c' ∧ (Lv.ownBlock = some g' ∨ wo.heap.size ≤ g') := by
        rcases hv38 with ⟨q, e, rfl⟩ | ⟨q, cq, hq, rfl⟩
        · exact ⟨q, _, rfl, .inl e⟩
        · exact ⟨q, cq, rfl, .inr hq⟩
      have hb9 : RBox w9 w.heap.size Lv (.slice none 0 0) (Dr.new j).fuse (Dr.new j).off := RBox.turn (w := wo.drew) HM.out.box hs.t hgR
      obtain ⟨p0, p1, p2, p3, z0, z1, z2, z3⟩ := hb9.cells
      have HB9 := Lib.hid hb9
      have HS := Lib.hid hs
      clear hb9 hs hv38 q0 y0
      go_wp2
      go_roundw
      case rel =>
        have hs := HS.out
        have h1 := HM.out
        have hne38 : g38 ≠ w.heap.size := by
          rcases hb38 with e | e
          · intro e2; exact hgR (by rw [e, e2])
          · omega
        have TA : Turn (fun q => q = w.heap.size ∨ Lv.ownBlock = some q) wo (w9.setCell ⟨w.heap.size, 0, none⟩ (.slice (some ⟨g38, 0, none⟩) (j + 1) c38)) :=
          ((show Turn (fun q => Lv.ownBlock = some q) wo w9 from ⟨hs.t.os, hs.t.tape, hs.t.output, hs.t.size, hs.t.block⟩).mono (fun _ _ h => .inr h)).setCell _ _ (fun _ => .inl rfl)
        have TG : Turn (fun q => q = w.heap.size) w9 (w9.setCell ⟨w.heap.size, 0, none⟩ (.slice (some ⟨g38, 0, none⟩) (j + 1) c38)) := (Turn.refl (fun q => q = w.heap.size) w9).setCell ⟨w.heap.size, 0, none⟩ _ (fun _ => rfl)
        have ho9 := own_turn TG ho38 (fun q hq e => by injection hq with hq; have e : q = w.heap.size := e; exact hne38 (hq.trans e))
        have hlt38 := (ho9.lt g38 rfl).2
        have hD : ∀ q, Since w wo q → Since w (w9.setCell ⟨w.heap.size, 0, none⟩ (.slice (some ⟨g38, 0, none⟩) (j + 1) c38)) q := fun q h => ⟨h.1, Nat.lt_of_lt_of_le h.2 TA.size⟩
        have hlX : (vj ++ [X]).length = j + 1 := by simp [hlen]
        have hsO : ∀ q, Lv.ownBlock = some q → w.heap.size ≤ q := fun q e => (h1.ownL q e).1
        refine ⟨j + 1, .slice (some ⟨g38, 0, none⟩) (j + 1) c38, vj ++ [X], by omega, hlX, by go_num, ?_, ?_⟩
        · refine ⟨HB9.out.setL _, by simp [Dr.new], by rw [hlX]; exact .new _, by rw [hlX]; omega, by rw [hlX]; exact ho9, ⟨rfl, .inl ⟨rfl, rfl⟩⟩, rfl, by simp, fun i v s h2 h3 => ?_, fun i u x h => by simp at h, (fun e => ?_), (fun e => by cases e), (fun q hq e => by cases e), ⟨Nat.le_refl _, Nat.lt_of_lt_of_le hg1 TA.size⟩, (fun q hq => ?_), (fun q e => by cases e), fun q hq => hq.2⟩
          · have hs0 : s = zeros 64 := by
              have h3 : (List.replicate (j + 1) (zeros 64))[i]? = some s := h3
              rw [List.getElem?_replicate] at h3
              split at h3
              · injection h3 with h3; exact h3.symm
              · cases h3
            subst hs0
            by_cases hi : i < j
            · rw [List.getElem?_append_left (by omega)] at h2
              refine (h1.secL i v (zeros 64) h2 (by show (List.replicate j (zeros 64))[i]? = _; rw [List.getElem?_replicate, if_pos hi])).turn TA (fun q h hn _ => hn (h.elim .inl fun h => .inr (.inl h))) (fun q hq h => ?_) hD
              rcases h with e | e | e
              · exact .inl e
              · injection e with e
                rcases hb38 with e2 | e2
                · exact .inr (.inl (by rw [e2]; exact congrArg some e))
                · have e : g38 = q := e; omega
              · cases e
            · have hi2 : i = vj.length := by
                have := (List.getElem?_eq_some_iff.1 h2).1
                simp at this; omega
              subst hi2
              rw [List.getElem?_append_right (Nat.le_refl _)] at h2
              simp at h2
              subst h2
              obtain ⟨gX, cX, hBX, rfl, hcX, hoX⟩ := hX
              have hXg : g38 ≠ gX := by
                rintro rfl
                rcases hoX.2 with ⟨e, -⟩ | ⟨q1, n1, cu1, e1, -, hh1, -⟩
                · cases e
                · rcases ho38.2 with ⟨e, -⟩ | ⟨q2, n2, cu2, e2, -, hh2, -⟩
                  · cases e
                  · injection e1 with e1; injection e1 with e1; injection e1 with e1
                    injection e2 with e2; injection e2 with e2; injection e2 with e2
                    subst e1; subst e2
                    rw [hh1] at hh2
                    injection hh2 with hh2
                    injection hh2 with _ hh2
                    exact absurd hh2 (by decide)
              have csX : ∀ j u, ((zeros 64).map bv)[j]? = some u → w9.cell? ((⟨gX, 0, none⟩ : Addr).add j) = some u := hoX.cells (g := gX) rfl
              have hltX := (hoX.lt gX rfl).2
              refine ⟨by simp [zeros], _, cX, rfl, hcX, ?_, ⟨by show w.heap.size ≤ gX; omega, Nat.lt_of_lt_of_le hltX TG.size⟩, fun j u hu => TG.cell (csX j u hu) (by rw [add_block]; intro e; have e : gX = w.heap.size := e; omega)⟩
              rintro (e | e | e)
              · have e : gX = w.heap.size := e; omega
              · injection e with e; exact hXg e
              · cases e
          · injection e with e; exact hne38 e
          · injection hq with hq
            have hq : g38 = q := hq
            subst hq
            refine ⟨?_, hlt38⟩
            rcases hb38 with e2 | e2
            · exact hsO _ e2
            · omega
        · refine (Turn.of_below HB0.out).trans TA (fun i hi e => ?_) |>.below (fun _ _ h => h.elim) (Nat.le_refl _)
          rcases e with e | e
          · omega
          · have := hsO _ e; omega
      case measure => simp [intOf]; omega
    · have hjn : j = n := by omega
      have hM := HM.out
      rw [hjn] at hM
      have HM2 := Lib.hid hM
      clear hm hb hM
      go_wp2
      go_ret
      exact ⟨rfl, ⟨Lv, vj, HM2.out⟩, HB0.out⟩
end Go.Proofs.Ytodeblffnbbcaaa
