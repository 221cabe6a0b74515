/- Merged: The code's Climb at any place; Is. Bytes compared, and digests compared, as the document does. Certificates as plain records: how they lie in memory, and a load of one as one rule. The document's 'Same' of certificates. The document's 'Is' of certificates. What the landed 'Is' of certificates asks, against the document's; a ring's 'Is' at any shard. -/
import Derived.Test.YthoaaieiiokcmaaDoorM22
import Derived.Test.YthoaaieiiokcmaaDoorM19
import Derived.Test.YthoaaieiiokcmaaDoorM21
namespace Go.Proofs.YthoaaieiiokcmaaDoor
section
set_option linter.unusedVariables false
open Go.RowKit
attribute [local go_sem ↓] loadAt_id
attribute [local go_sem] rowOf_drew rowOf_drewN run_idLoad
theorem climb_any (A : Option Addr) (c : Nat) (b : List B8) (z zn : Int) (p : List (List B8)) (A' : Option Addr) (c' : Nat) (w : World) (hc : b.length ≤ c) (hb : b.length ≤ 1000000) (hpc : p.length ≤ c') (hpm : p.length ≤ 1000000) (hI : IdsAt w A' p) (hB : Bts w A b) (hG : Glob w) :
    Calls Tryd.prog 69 #[.slice A b.length c, .int .i64 z, .int .i64 zn, .slice A' p.length c'] w fun e w' => e = .returned (ansV (climbZ b z zn p)) ∧ Below w.heap.size w w' := by
  by_cases h : 0 ≤ z ∧ z < zn ∧ zn ≤ 1048576
  · obtain ⟨k, rfl⟩ : ∃ k : Nat, z = (k : Int) := ⟨z.toNat, by omega⟩
    obtain ⟨n, rfl⟩ : ∃ n : Nat, zn = (n : Int) := ⟨zn.toNat, by omega⟩
    rw [climbZ_nat (by omega) (by omega)]
    exact climb_nat A c b hc hb n n k p A' c' w (Nat.le_refl _) (by omega) (by omega) hpc hpm hI hB hG
  · have e : climbZ b z zn p = none := by unfold climbZ; rw [if_neg h]
    rw [e]
    exact climb_bad A A' b.length c p.length c' z zn w h
def isD (root : List B8) (o : Option (List B8)) : Bool := match o with | none => false | some d => decide (d = root)
theorem climbZ_len {b : List B8} {z zn : Int} {p : List (List B8)} : ((climbZ b z zn p).getD (zeros 32)).length = 32 := by
  unfold climbZ
  split
  · exact getD_len32
  · rfl
theorem isD_eq (root : List B8) (o : Option (List B8)) : isD root o = (o.isSome && decide (o.getD (zeros 32) = root)) := by cases o <;> simp [isD]
set_option maxRecDepth 100000 in
set_option maxHeartbeats 2000000 in
theorem is_any (root : List B8) (A : Option Addr) (c : Nat) (b : List B8) (z zn : Int) (p : List (List B8)) (A' : Option Addr) (c' : Nat) (w : World) (hr : root.length = 32) (hc : b.length ≤ c) (hb : b.length ≤ 1000000) (hpc : p.length ≤ c') (hpm : p.length ≤ 1000000) (hI : IdsAt w A' p) (hB : Bts w A b) (hG : Glob w) :
    Calls Tryd.prog 34 #[.agg (root.map bv).toArray, .slice A b.length c, .int .i64 z, .int .i64 zn, .slice A' p.length c'] w fun e w' => e = .returned (.bool (isD root (climbZ b z zn p))) ∧ Below w.heap.size w w' := by
  obtain ⟨w1, hw1⟩ : ∃ w1, w1 = w.alloc (.cells (root.map bv).toArray 24) := ⟨_, rfl⟩
  have hb1 : Below w.heap.size w w1 := by rw [hw1]; exact (Below.refl _ _).alloc (Nat.le_refl _) _
  have hz1 : w1.heap[w.heap.size]? = some (.cells (root.map bv).toArray 24 (0, 0)) := by rw [hw1]; exact heap_alloc_new w _
  have C := Lib.hid (climb_any A c b z zn p A' c' w1 hc hb hpc hpm (hI.below hb1) (hB.below hb1) (hG.below hb1 hG.1))
  have hy32 := climbZ_len (b := b) (z := z) (zn := zn) (p := p)
  rw [isD_eq]
  generalize climbZ b z zn p = o at *
  obtain ⟨y, hy⟩ : ∃ y, y = o.getD (zeros 32) := ⟨_, rfl⟩
  obtain ⟨ob, hob⟩ : ∃ ob, ob = o.isSome := ⟨_, rfl⟩
  have ea : ansV o = .tuple #[.agg (y.map bv).toArray, .bool ob] := by rw [hy, hob]; rfl
  rw [ea] at C
  rw [← hy, ← hob]
  rw [← hy] at hy32
  have HB1 := Lib.hid hb1
  have HZ1 := Lib.hid hz1
  have D1 := Lib.hid (show (Tryd.prog.info? 24).map (·.size) = some ((y.map bv).toArray).size by simp only [List.size_toArray, List.length_map, hy32]; kernel_rfl)
  have D2 := Lib.hid (show ZIdT.size = ((y.map bv).toArray).size by simp only [List.size_toArray, List.length_map, hy32]; rfl)
  have D3 := Lib.hid (bvs_one y)
  have S := Lib.hid (fun w => same_any y root w hy32 hr)
  have HR := Lib.hid hr
  have HY := Lib.hid hy32
  clear hb1 hz1 hI hB hG hy hob ea hr hy32
  go_enter Tryd.func34, Tryd.ntmps34
  go_upto_region 1 with fail
  rw [← hw1]
  clear hw1
  go_upto_region 2 with (first
    | (go_at_call 69; refine C.out.mono ?_; rintro e w2 ⟨rfl, hb2⟩; have HB2 := Lib.hid hb2; clear hb2)
    | (refine wpList_store_row rfl _ _ _ rfl w2.heap.size (y.map bv).toArray rfl rfl 24 _ (heap_alloc_new w2 _) D1.out D2.out D3.out ?_; rw [World.setRow_alloc_new]))
  obtain ⟨w3, hw3⟩ : ∃ w3, w3 = w2.alloc (.cells (y.map bv).toArray 24) := ⟨_, rfl⟩
  have h23 : Below w2.heap.size w2 w3 := by rw [hw3]; exact (Below.refl _ _).alloc (Nat.le_refl _) _
  have h13 := HB2.out.trans (h23.mono HB2.out.size)
  have HB3 := Lib.hid (HB1.out.trans (h13.mono HB1.out.size))
  have r1 : rowOf w3 w2.heap.size 0 32 = some (y.map bv).toArray := rowOf_id HY.out (by rw [hw3]; exact heap_alloc_new w2 _)
  have r2 : rowOf w3 w.heap.size 0 32 = some (root.map bv).toArray := rowOf_id HR.out (heap_below h13 HZ1.out)
  rw [← hw3]
  clear hw3 h23 h13
  cases ob with
  | true =>
    go_wp2_with (go_at_call 70; refine (S.out _).mono ?_; rintro e w4 ⟨rfl, hb4⟩)
    go_ret
    exact ⟨by simp, HB3.out.trans (hb4.mono HB3.out.size)⟩
  | false =>
    go_wp2_with fail
    go_ret
    exact ⟨by simp, HB3.out⟩
end
section
set_option linter.unusedVariables false
open Go.RowKit
attribute [local go_sem ↓] loadAt_id
attribute [local go_sem] rowOf_drew rowOf_drewN run_idLoad
theorem Bts.sl {w : World} {A : Option Addr} {xs : List B8} (h : Bts w A xs) : Sl w w.heap.size A (xs.map bv) := fun j u hu => by
  obtain ⟨ad, e, hc⟩ := h j u hu
  have := World.block_lt_of_cell? w _ hc
  rw [add_block] at this
  exact ⟨ad, e, this, hc⟩
theorem neq_id (a b : List B8) (ha : a.length = 32) (hb : b.length = 32) (w : World) : (binOp .neq 24 (.agg (a.map bv).toArray) (.agg (b.map bv).toArray)).run Tryd.prog w = .ok (.bool (!decide (a = b))) w := by
  have h := eq_id a b ha hb w
  have e : (Op.equal 24 (.agg (a.map bv).toArray) (.agg (b.map bv).toArray)).run Tryd.prog w = .ok (decide (a = b)) w := h
  simp only [binOp, Sem.run_bind, e, Result.andThen_ok, Sem.run_pure]
set_option maxRecDepth 100000 in
set_option maxHeartbeats 2000000 in
theorem rsame_any (A A' : Option Addr) (c c' : Nat) (xs ys : List (List B8)) (w : World) (hx : IdsAt w A xs) (hy : IdsAt w A' ys) (hlx : xs.length ≤ maxLen) (hly : ys.length ≤ maxLen) :
    Calls Tryd.prog 49 #[.slice A xs.length c, .slice A' ys.length c'] w fun e w' => e = .returned (.bool (decide (xs = ys))) ∧ ∃ n, w' = w.drewN n := by
  unfold maxLen at hlx hly
  have HX := Lib.hid hx
  have HY := Lib.hid hy
  clear hx hy
  by_cases hl : xs.length = ys.length
  · have HL := Lib.hid hl
    go_enter Tryd.func49, Tryd.ntmps49
    go_wp2
    go_loopw [5] (fun i wr => ∃ k n : Nat, k ≤ xs.length ∧ i = .int .i64 k ∧ xs.take k = ys.take k ∧ wr = w.drewN n) (fun i _ => xs.length - (intOf i).toNat)
    case atStart => exact ⟨0, 0, Nat.zero_le _, rfl, by simp, rfl⟩
    case round =>
      obtain ⟨k, n, hk, rfl, he, rfl⟩ := hrel
      have HE := Lib.hid he
      clear he
      by_cases hlt : k < xs.length
      · have hlt' : k < ys.length := by omega
        obtain ⟨b1, o1, rfl, -, hc⟩ := HX.out.row (List.getElem?_eq_getElem hlt)
        obtain ⟨b2, o2, rfl, -, hc'⟩ := HY.out.row (List.getElem?_eq_getElem hlt')
        have l1 := (HX.out k _ (List.getElem?_eq_getElem hlt)).1
        have l2 := (HY.out k _ (List.getElem?_eq_getElem hlt')).1
        have HT := Lib.hid (show (xs[k] = ys[k]) → xs.take (k + 1) = ys.take (k + 1) from fun h => by rw [List.take_succ_eq_append_getElem hlt, List.take_succ_eq_append_getElem hlt', HE.out, h])
        have HN := Lib.hid (show ¬ (xs[k] = ys[k]) → decide (xs = ys) = false from fun h => by
          rw [decide_eq_false_iff_not]; intro e; subst e; exact h rfl)
        generalize xs[k] = x at *
        generalize ys[k] = y at *
        have q := neq_id x y l1 l2
        by_cases hxy : x = y
        · subst hxy
          have HT2 := Lib.hid (HT.out rfl)
          have q2 : ∀ w, (binOp .neq 24 (.agg (x.map bv).toArray) (.agg (x.map bv).toArray)).run Tryd.prog w = .ok (.bool false) w := fun w => by rw [q w]; simp
          clear HT HN q l1 l2
          generalize (x.map bv).toArray = X at *
          go_wp2
          go_quiet (fail)
          go_wp2
          go_roundw
          case rel => exact ⟨k + 1, _, by omega, by go_num, HT2.out, rfl⟩
          case measure => simp [intOf]; omega
        · have q2 : ∀ w, (binOp .neq 24 (.agg (x.map bv).toArray) (.agg (y.map bv).toArray)).run Tryd.prog w = .ok (.bool true) w := fun w => by rw [q w]; simp [hxy]
          have HN2 := Lib.hid (HN.out hxy)
          clear HT HN q l1 l2
          generalize (x.map bv).toArray = X at *
          generalize (y.map bv).toArray = Y at *
          go_wp2
          go_quiet (fail)
          go_wp2
          go_ret
          rw [HN2.out]
          exact ⟨rfl, n + nq, drewN_add _ _ _⟩
      · have HD : decide (xs = ys) = true := by
          have h := HE.out
          rw [List.take_of_length_le (by omega), List.take_of_length_le (by omega)] at h
          exact decide_eq_true h
        have HD := Lib.hid HD
        go_wp2
        go_ret
        rw [HD.out]
        exact ⟨rfl, _, rfl⟩
  · have HD := Lib.hid (show decide (xs = ys) = false from decide_eq_false fun h => hl (by rw [h]))
    have hl2 : ¬ ((xs.length : Int) = (ys.length : Int)) := by omega
    go_enter Tryd.func49, Tryd.ntmps49
    go_wp2
    go_ret
    rw [HD.out]
    exact ⟨rfl, 0, rfl⟩
end
section
set_option linter.unusedVariables false
set_option linter.unusedSimpArgs false
open Go.RowKit
/-- A certificate, plain: its entry, its header, its tag, its path. -/
structure Crt where
  e : Ent
  h : Hdr
  t : List B8
  ids : List (List B8)
/-- All its digests are of 32 bytes. -/
def Crt.L (x : Crt) : Prop := x.e.d.length = 32 ∧ x.h.L ∧ x.t.length = 32 ∧ ∀ d ∈ x.ids, d.length = 32
def Crt.cells (x : Crt) (A : Option Addr) (c : Nat) : List Value := x.e.cells ++ ([Value.slice A x.ids.length c] ++ (x.h.cells ++ x.t.map bv))
theorem Crt.len (x : Crt) (A : Option Addr) (c : Nat) (h : x.L) : (x.cells A c).length = 137 := by
  simp [Crt.cells, Ent.len _ h.1, Hdr.len _ h.2.1, h.2.2.1]
set_option maxRecDepth 100000 in
theorem Crt.one (x : Crt) (A : Option Addr) (c : Nat) : (x.cells A c).toArray.all (·.oneCell') = true := by
  have h1 := Ent.one x.e
  have h2 := Hdr.one x.h
  rw [Array.all_eq_true_iff_forall_mem] at h1 h2 ⊢
  intro u hu
  simp only [Crt.cells, List.mem_toArray, List.mem_append, List.mem_cons, List.not_mem_nil, or_false, List.mem_map] at hu
  rcases hu with hu | rfl | hu | ⟨y, -, rfl⟩
  · exact h1 u (by simpa using hu)
  · rfl
  · exact h2 u (by simpa using hu)
  · rfl
theorem cr_info : (Tryd.prog.info? 32).map (·.size) = some 137 := by kernel_rfl
/-- A certificate's block. -/
def CAt (w : World) (b : Nat) (x : Crt) (A : Option Addr) (c : Nat) : Prop := w.heap[b]? = some (.cells (x.cells A c).toArray 32 (0, 0))
theorem part_eq {xs P M R : List Value} (e : xs = P ++ (M ++ R)) {o n : Nat} (hP : P.length = o) (hM : M.length = n) : (xs.drop o).take n = M := by
  rw [e, ← hP, List.drop_left, ← hM, List.take_left]
theorem part_row {w : World} {b : Nat} {xs : List Value} {t : TypeId} {fr : Nat × Nat} (h : w.heap[b]? = some (.cells xs.toArray t fr)) {P M R : List Value} (e : xs = P ++ (M ++ R)) {o n : Nat} (hP : P.length = o) (hM : M.length = n) : rowOf w b o n = some M.toArray := by
  have := rowOf_block h o n (by rw [e]; simp; omega)
  rwa [part_eq e hP hM] at this
theorem part_range {w : World} {b : Nat} {xs : List Value} {t : TypeId} {fr : Nat × Nat} (h : w.heap[b]? = some (.cells xs.toArray t fr)) {P M R : List Value} (e : xs = P ++ (M ++ R)) {o : Nat} (hP : P.length = o) : w.rangeAt b o M := fun j v hj => by
  rw [cell_of_row _ _ _ _ _ _ h, List.getElem?_toArray, e, ← hP, List.getElem?_append_right (by omega), show P.length + j - P.length = j by omega, List.getElem?_append_left (List.getElem?_eq_some_iff.1 hj).1]
  exact hj
theorem part_one {w : World} {b : Nat} {xs : List Value} {t : TypeId} {fr : Nat × Nat} (h : w.heap[b]? = some (.cells xs.toArray t fr)) {P R : List Value} {v : Value} (e : xs = P ++ (v :: R)) {o : Nat} (hP : P.length = o) : w.cell? ⟨b, o, none⟩ = some v := by
  rw [cell_of_row _ _ _ _ _ _ h, List.getElem?_toArray, e, ← hP, List.getElem?_append_right (Nat.le_refl _)]
  simp
/-- What a certificate's block holds. -/
structure CF (w : World) (b : Nat) (x : Crt) (A : Option Addr) (c : Nat) : Prop where
  all : rowOf w b 0 137 = some (x.cells A c).toArray
  ent : rowOf w b 0 37 = some x.e.cells.toArray
  hdr : rowOf w b 38 67 = some x.h.cells.toArray
  tag : rowOf w b 105 32 = some (x.t.map bv).toArray
  root : rowOf w b 73 32 = some (x.h.r.map bv).toArray
  tx : rowOf w b 2 32 = some (x.e.d.map bv).toArray
  entR : w.rangeAt b 0 x.e.cells
  hdrR : w.rangeAt b 38 x.h.cells
  tagR : w.rangeAt b 105 (x.t.map bv)
  rootR : w.rangeAt b 73 (x.h.r.map bv)
  txR : w.rangeAt b 2 (x.e.d.map bv)
  path : w.cell? ⟨b, 37, none⟩ = some (.slice A x.ids.length c)
  kind : w.cell? ⟨b, 0, none⟩ = some (.int .i64 x.e.k)
  es : w.cell? ⟨b, 1, none⟩ = some (.int .i64 x.e.s)
  ep : w.cell? ⟨b, 36, none⟩ = some (.int .i64 x.e.p)
  hs : w.cell? ⟨b, 38, none⟩ = some (.int .i64 x.h.s)
  hp : w.cell? ⟨b, 40, none⟩ = some (.int .i64 x.h.p)
set_option maxRecDepth 100000 in
theorem CAt.facts {w : World} {b : Nat} {x : Crt} {A : Option Addr} {c : Nat} (h : CAt w b x A c) (hl : x.L) : CF w b x A c := by
  have nA := Crt.len x A c hl
  obtain ⟨l1, ⟨l2, l3⟩, l4, -⟩ := hl
  have eE : x.cells A c = [] ++ (x.e.cells ++ ([Value.slice A x.ids.length c] ++ (x.h.cells ++ x.t.map bv))) := by simp [Crt.cells]
  have eH : x.cells A c = (x.e.cells ++ [Value.slice A x.ids.length c]) ++ (x.h.cells ++ x.t.map bv) := by simp [Crt.cells]
  have eT : x.cells A c = (x.e.cells ++ ([Value.slice A x.ids.length c] ++ x.h.cells)) ++ (x.t.map bv ++ []) := by simp [Crt.cells]
  have eR : x.cells A c = (x.e.cells ++ ([Value.slice A x.ids.length c] ++ ([Value.int .i64 x.h.s, .int .i64 x.h.t, .int .i64 x.h.p] ++ x.h.d.map bv))) ++ (x.h.r.map bv ++ x.t.map bv) := by simp [Crt.cells, Hdr.cells]
  have eX : x.cells A c = [Value.int .i64 x.e.k, .int .i64 x.e.s] ++ (x.e.d.map bv ++ ([Value.int .u64 (x.e.a : Int), .int .i64 x.e.y, .int .i64 x.e.p] ++ ([Value.slice A x.ids.length c] ++ (x.h.cells ++ x.t.map bv)))) := by simp [Crt.cells, Ent.cells]
  have eA : x.cells A c = [] ++ (x.cells A c ++ []) := by simp
  have n37 : x.e.cells.length = 37 := Ent.len _ l1
  have n67 : x.h.cells.length = 67 := Hdr.len _ ⟨l2, l3⟩
  refine ⟨part_row h eA rfl nA, part_row h eE rfl n37, part_row h eH (by simp [n37]) n67, part_row h eT (by simp [n37, n67]) (by simp [l4]), part_row h eR (by simp [n37, l2]) (by simp [l3]), part_row h eX rfl (by simp [l1]), part_range h eE rfl, part_range h eH (by simp [n37]), part_range h eT (by simp [n37, n67]), part_range h eR (by simp [n37, l2]), part_range h eX rfl, ?_, ?_, ?_, ?_, ?_, ?_⟩
  · exact part_one h (P := x.e.cells) (R := x.h.cells ++ x.t.map bv) (by simp [Crt.cells]) n37
  · exact part_one h (P := []) (R := Value.int .i64 x.e.s :: (x.e.d.map bv ++ ([Value.int .u64 (x.e.a : Int), .int .i64 x.e.y, .int .i64 x.e.p] ++ ([Value.slice A x.ids.length c] ++ (x.h.cells ++ x.t.map bv))))) (by simp [Crt.cells, Ent.cells]) rfl
  · exact part_one h (P := [Value.int .i64 x.e.k]) (R := x.e.d.map bv ++ ([Value.int .u64 (x.e.a : Int), .int .i64 x.e.y, .int .i64 x.e.p] ++ ([Value.slice A x.ids.length c] ++ (x.h.cells ++ x.t.map bv)))) (by simp [Crt.cells, Ent.cells]) rfl
  · exact part_one h (P := [Value.int .i64 x.e.k, .int .i64 x.e.s] ++ (x.e.d.map bv ++ [Value.int .u64 (x.e.a : Int), .int .i64 x.e.y])) (R := [Value.slice A x.ids.length c] ++ (x.h.cells ++ x.t.map bv)) (by simp [Crt.cells, Ent.cells]) (by simp [l1])
  · exact part_one h (P := x.e.cells ++ [Value.slice A x.ids.length c]) (R := [Value.int .i64 x.h.t, .int .i64 x.h.p] ++ (x.h.d.map bv ++ (x.h.r.map bv ++ x.t.map bv))) (by simp [Crt.cells, Hdr.cells]) (by simp [n37])
  · exact part_one h (P := x.e.cells ++ [Value.slice A x.ids.length c, Value.int .i64 x.h.s, .int .i64 x.h.t]) (R := x.h.d.map bv ++ (x.h.r.map bv ++ x.t.map bv)) (by simp [Crt.cells, Hdr.cells]) (by simp [n37])
/-- A load of a certificate, behind a name that the walk does not open. -/
def crLoad (v : Value) : Sem Value := Instr.loadAt 32 v
set_option maxRecDepth 100000 in
theorem loadAt_cr (v : Value) : Instr.loadAt 32 v = crLoad v := rfl
set_option maxRecDepth 100000 in
theorem run_crLoad (w : World) (b o : Nat) : (crLoad (.pointer (some ⟨b, o, none⟩))).run Tryd.prog w = (match rowOf w b o 137 with | some C => .ok (.agg C) w | none => loadRest Tryd.prog 32 b o w) := by
  unfold crLoad
  cases h : rowOf w b o 137 with
  | none => rfl
  | some C =>
    obtain ⟨hs, hr⟩ := rowOf_some h
    have := run_loadAt_mid w b o 32 C.toList _ hr Tryd.underlying32 rfl (by rw [Array.length_toList, hs]; kernel_rfl)
    simpa using this
/-- A certificate's path lies where its slice says. -/
def CPath (w : World) (x : Crt) (A : Option Addr) (c : Nat) : Prop := IdsAt w A x.ids ∧ x.ids.length ≤ c ∧ (A = none → c = 0)
theorem CPath.turn {w w' : World} {x : Crt} {A : Option Addr} {c : Nat} (h : CPath w x A c) (t : Turn (fun _ => False) w w') : CPath w' x A c := ⟨h.1.below (turn_stp' t), h.2⟩
/-- The same parts? -/
def Crt.same (x y : Crt) : Prop := x.e = y.e ∧ x.h = y.h ∧ x.t = y.t ∧ x.ids = y.ids
instance (x y : Crt) : Decidable (x.same y) := by unfold Crt.same; infer_instance
end
section
set_option linter.unusedVariables false
set_option linter.unusedSimpArgs false
open Go.RowKit
attribute [local go_sem ↓] loadAt_cr loadAt_hd loadAt_en loadAt_id
attribute [local go_sem] run_crLoad run_hdLoad run_enLoad run_idLoad rowOf_drew rowOf_drewN
set_option maxRecDepth 100000 in
set_option maxHeartbeats 4000000 in
theorem rcsame_any (x y : Crt) (A A' : Option Addr) (c c' : Nat) (w : World) (hx : x.L) (hy : y.L) (px : CPath w x A c) (py : CPath w y A' c') (mx : x.ids.length ≤ maxLen) (my : y.ids.length ≤ maxLen) :
    Calls Tryd.prog 17 #[.agg (x.cells A c).toArray, .agg (y.cells A' c').toArray] w fun r w' => r = .returned (.bool (decide (x.same y))) ∧ Turn (fun _ => False) w w' := by
  obtain ⟨C, hC⟩ : ∃ C, C = (x.cells A c).toArray := ⟨_, rfl⟩
  obtain ⟨D, hD⟩ : ∃ D, D = (y.cells A' c').toArray := ⟨_, rfl⟩
  rw [← hC, ← hD]
  obtain ⟨w1, hw1⟩ : ∃ w1, w1 = (w.alloc (.cells C 32)).alloc (.cells D 32) := ⟨_, rfl⟩
  have t1 : Turn (fun _ => False) w w1 := by rw [hw1]; exact ((Turn.refl _ _).alloc _).alloc _
  have F := CAt.facts (w := w1) (b := w.heap.size) (x := x) (A := A) (c := c) (by unfold CAt; rw [← hC, hw1]; exact heap_alloc2_old _ _ _) hx
  have G := CAt.facts (w := w1) (b := w.heap.size + 1) (x := y) (A := A') (c := c') (by unfold CAt; rw [← hD, hw1]; exact heap_alloc2_new _ _ _) hy
  have SM := Lib.hid (rsame_any A A' c c' x.ids y.ids w1 (px.turn t1).1 (py.turn t1).1 mx my)
  have qE := fun w => eql_in_ent x.e y.e hx.1 hy.1 w
  have qH := fun w => eql_in_hdr x.h y.h hx.2.1 hy.2.1 w
  have qT := fun w => eq_id x.t y.t hx.2.2.1 hy.2.2.1 w
  have f1 := F.ent
  have f2 := F.hdr
  have f3 := F.tag
  have f4 := F.path
  have g1 := G.ent
  have g2 := G.hdr
  have g3 := G.tag
  have g4 := G.path
  have hS : decide (x.same y) = (decide (x.e = y.e) && (decide (x.h = y.h) && (decide (x.t = y.t) && decide (x.ids = y.ids)))) := by
    rw [Bool.eq_iff_iff, decide_eq_true_eq]
    unfold Crt.same
    simp only [Bool.and_eq_true, decide_eq_true_eq]
  rw [hS]
  obtain ⟨EX, hEX⟩ : ∃ L, L = x.e.cells.toArray := ⟨_, rfl⟩
  obtain ⟨EY, hEY⟩ : ∃ L, L = y.e.cells.toArray := ⟨_, rfl⟩
  obtain ⟨HX, hHX⟩ : ∃ L, L = x.h.cells.toArray := ⟨_, rfl⟩
  obtain ⟨HY, hHY⟩ : ∃ L, L = y.h.cells.toArray := ⟨_, rfl⟩
  obtain ⟨TX, hTX⟩ : ∃ L, L = (x.t.map bv).toArray := ⟨_, rfl⟩
  obtain ⟨TY, hTY⟩ : ∃ L, L = (y.t.map bv).toArray := ⟨_, rfl⟩
  rw [← hEX] at qE f1
  rw [← hEY] at qE g1
  rw [← hHX] at qH f2
  rw [← hHY] at qH g2
  rw [← hTX] at qT f3
  rw [← hTY] at qT g3
  generalize decide (x.e = y.e) = be at *
  generalize decide (x.h = y.h) = bh at *
  generalize decide (x.t = y.t) = bt at *
  obtain ⟨nx, hnx⟩ : ∃ n, n = x.ids.length := ⟨_, rfl⟩
  obtain ⟨ny, hny⟩ : ∃ n, n = y.ids.length := ⟨_, rfl⟩
  rw [← hnx] at f4 SM
  rw [← hny] at g4 SM
  generalize decide (x.ids = y.ids) = bi at *
  have T1 := Lib.hid t1
  clear t1 F G hC hD hEX hEY hHX hHY hTX hTY hnx hny px py mx my hS hx hy
  cases be
  · go_enter Tryd.func17, Tryd.ntmps17
    go_upto_region 1 with fail
    change Code.wp _ _ _ _ ((w.alloc (.cells C 32)).alloc (.cells D 32))
    rw [← hw1]
    clear hw1
    go_wp2
    go_ret
    exact ⟨rfl, T1.out⟩
  cases bh
  · go_enter Tryd.func17, Tryd.ntmps17
    go_upto_region 1 with fail
    change Code.wp _ _ _ _ ((w.alloc (.cells C 32)).alloc (.cells D 32))
    rw [← hw1]
    clear hw1
    go_wp2
    go_ret
    exact ⟨rfl, T1.out⟩
  cases bt
  · go_enter Tryd.func17, Tryd.ntmps17
    go_upto_region 1 with fail
    change Code.wp _ _ _ _ ((w.alloc (.cells C 32)).alloc (.cells D 32))
    rw [← hw1]
    clear hw1
    go_wp2
    go_ret
    exact ⟨rfl, T1.out⟩
  · go_enter Tryd.func17, Tryd.ntmps17
    go_upto_region 1 with fail
    change Code.wp _ _ _ _ ((w.alloc (.cells C 32)).alloc (.cells D 32))
    rw [← hw1]
    clear hw1
    go_wp2_with (go_at_call 49; refine stop ?_)
    unfold Stop
    refine SM.out.mono ?_
    rintro r w2 ⟨rfl, m, hw2⟩
    have T2 := Lib.hid (show Turn (fun _ => False) w w2 by rw [hw2]; exact T1.out.drewN _)
    clear hw2
    go_wp2
    go_ret
    exact ⟨rfl, T2.out⟩
end
section
set_option linter.unusedVariables false
set_option linter.unusedSimpArgs false
open Go.RowKit
attribute [local go_sem ↓] loadAt_cr loadAt_hd loadAt_en loadAt_id
attribute [local go_sem] run_crLoad run_hdLoad run_enLoad run_idLoad rowOf_drew rowOf_drewN
/-- Does a path of two climb from the entry to the root, and is the tag the shard's? -/
def isT (seed : List B8) (x : Crt) : Bool := match x.ids with
  | [p, q] => decide (nodeD (nodeD p (leafD (formE x.e))) q = x.h.r) && decide (x.t = signD seed x.h.s.toNat (formH x.h))
  | _ => false
/-- Is a certificate right? -/
def isC (seed : List B8) (n : Int) (x : Crt) : Bool := decide (okB x.e) && (decide (okH x.h) && (decide (x.e.s = x.h.s) && (decide (x.e.p = x.h.p) && (decide (x.h.s < n) && isT seed x))))
theorem isT_not (seed : List B8) (x : Crt) (h : x.ids.length ≠ 2) : isT seed x = false := by
  unfold isT
  split
  · rename_i p q e; rw [e] at h; exact absurd rfl h
  · rfl
theorem cr_path0 {x : Crt} {p q : List B8} (e : x.ids = [p, q]) {w : World} {A : Option Addr} (h : IdsAt w A x.ids) : ∃ b o, A = some ⟨b, o, none⟩ ∧ b < w.heap.size ∧ w.rangeAt b (o + 0 * 32) (p.map bv) ∧ w.rangeAt b (o + 1 * 32) (q.map bv) := by
  rw [e] at h
  obtain ⟨h1, b, o, e1, hlt, r1⟩ := h 0 p rfl
  obtain ⟨h2, b', o', e2, hlt', r2⟩ := h 1 q rfl
  rw [e1] at e2
  injection e2 with e2
  injection e2 with e2 e3
  subst e2 e3
  exact ⟨b, o, e1, hlt, r1, r2⟩
end
section
set_option linter.unusedVariables false
set_option linter.unusedSimpArgs false
open Go.RowKit
theorem hp_3 : hp 3 = 2 := by decide
theorem hp_2 : hp 2 = 1 := by decide
theorem climb13_two (b p q : List B8) : climbZ b 1 3 [p, q] = some (nodeD (nodeD p (leafD b)) q) := by
  have h0 : climbZ b ((1 : Nat) : Int) ((3 : Nat) : Int) [p, q] = climbD b 1 3 [p, q] := climbZ_nat (by omega) (by omega)
  have h1 : climbD b 1 3 ([p] ++ [q]) = (climbD b 1 (hp 3) [p]).map fun d => nodeD d q := climbD_low (by omega) (by rw [hp_3]; omega) (by omega)
  have h2 : climbD b 1 2 ([] ++ [p]) = (climbD b (1 - hp 2) (2 - hp 2) []).map fun d => nodeD p d := climbD_high (by omega) (by omega) (by rw [hp_2]; omega) (by omega)
  rw [hp_2] at h2
  rw [hp_3] at h1
  have h3 := climbD_one b []
  rw [show climbZ b 1 3 [p, q] = climbD b 1 3 [p, q] from h0, show ([p, q] : List (List B8)) = [p] ++ [q] from rfl, h1, show ([p] : List (List B8)) = [] ++ [p] from rfl, h2, show 1 - 1 = 0 from rfl, show 2 - 1 = 1 from rfl, h3]
  rfl
theorem plen13 : plenD 1 3 = 2 := by
  rw [plenD, dif_pos (by omega), hp_3, if_pos (by omega), plenD, dif_pos (by omega), hp_2, if_neg (by omega), plenD, dif_neg (by omega)]
theorem climb13_len (b : List B8) (ids : List (List B8)) (h : ids.length ≠ 2) : climbZ b 1 3 ids = none := by
  have h0 : climbZ b ((1 : Nat) : Int) ((3 : Nat) : Int) ids = climbD b 1 3 ids := climbZ_nat (by omega) (by omega)
  rw [show climbZ b 1 3 ids = climbD b 1 3 ids from h0]
  refine Decidable.byContradiction fun hn => h ?_
  rw [climb_len 3 b 1 ids hn, plen13]
/-- The tag of a certificate is its shard's. -/
def tagC (seed : List B8) (n : Int) (x : Crt) : Bool := decide (x.h.s < n) && decide (signD seed x.h.s.toNat (formH x.h) = x.t)
/-- Its path climbs to its root. -/
def clmC (x : Crt) : Bool := isD x.h.r (climbZ (formE x.e) 1 3 x.ids)
theorem isC_code (seed : List B8) (n : Int) (x : Crt) : isC seed n x = (decide (okB x.e) && (decide (okH x.h) && (decide (x.e.s = x.h.s) && (decide (x.e.p = x.h.p) && (clmC x && tagC seed n x))))) := by
  unfold isC
  congr 1; congr 1; congr 1; congr 1
  unfold clmC tagC
  by_cases h : x.ids.length = 2
  · match hi : x.ids, h with
    | [p, q], _ =>
      rw [climb13_two]
      unfold isT isD
      rw [hi]
      simp only
      rw [show decide (x.t = signD seed x.h.s.toNat (formH x.h)) = decide (signD seed x.h.s.toNat (formH x.h) = x.t) from decide_eq_decide.2 eq_comm]
      generalize decide (x.h.s < n) = a
      generalize decide (nodeD (nodeD p (leafD (formE x.e))) q = x.h.r) = b
      generalize decide (signD seed x.h.s.toNat (formH x.h) = x.t) = d
      cases a <;> cases b <;> cases d <;> rfl
  · rw [climb13_len _ _ h, isT_not _ _ h]
    unfold isD
    simp
theorem ringIs_u (gr gk n : Nat) (z : Int) (seed b d : List B8) (A' : Option Addr) (c' : Nat) (w : World) (hR : RingAt w gr gk seed n) (hz : 0 ≤ z) (hn : n ≤ 64) (hB : Bts w A' b) (hc' : b.length ≤ c') (hG : Glob w) (hb : b.length ≤ 1000000) (hd : d.length = 32) :
    Calls Tryd.prog 35 #[ringV gr, .int .i64 z, .slice A' b.length c', .agg (d.map bv).toArray] w fun e w' => e = .returned (.bool (decide (z < (n : Int)) && decide (signD seed z.toNat b = d))) ∧ Below w.heap.size w w' := by
  by_cases h : z < (n : Int)
  · obtain ⟨k, rfl⟩ : ∃ k : Nat, z = (k : Int) := ⟨z.toNat, by omega⟩
    have := ringIs_some gr gk n k seed b d A' c' w hR (by omega) hn hB hc' hG hb hd
    rw [decide_eq_true h, Bool.true_and]
    exact this
  · rw [decide_eq_false h, Bool.false_and]
    exact ringIs_none gr gk n z seed _ (.bool false) d w hR (by omega) hd
/-- What 'Sign' comes to at any shard that isn't below zero. -/
theorem sign_u (gr gk n : Nat) (z : Int) (seed b : List B8) (A' : Option Addr) (c' : Nat) (w : World) (hR : RingAt w gr gk seed n) (hz : 0 ≤ z) (hn : n ≤ 64) (hB : Bts w A' b) (hc' : b.length ≤ c') (hG : Glob w) (hb : b.length ≤ 1000000) :
    Calls Tryd.prog 47 #[ringV gr, .int .i64 z, .slice A' b.length c'] w fun e w' => e = .returned (signV (signZ seed n z b)) ∧ Below w.heap.size w w' := by
  by_cases h : z < (n : Int)
  · obtain ⟨k, rfl⟩ : ∃ k : Nat, z = (k : Int) := ⟨z.toNat, by omega⟩
    rw [signZ_nat (by omega)]
    exact sign_some gr gk n k seed b A' c' w hR (by omega) hn hB hc' hG hb
  · rw [signZ_none (by omega)]
    exact sign_none gr gk n z seed _ w hR (by omega)
end
end Go.Proofs.YthoaaieiiokcmaaDoor
