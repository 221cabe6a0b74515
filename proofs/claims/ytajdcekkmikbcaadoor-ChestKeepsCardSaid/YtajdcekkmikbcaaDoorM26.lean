/- Merged: The document's record: Sum. -/
import Derived.Test.YtajdcekkmikbcaaDoorM17
import Derived.Test.YtajdcekkmikbcaaDoorM25
import Derived.Test.YtajdcekkmikbcaaDoorM12
import Derived.Test.YtajdcekkmikbcaaDoorM07
namespace Go.Proofs.YtajdcekkmikbcaaDoor
section
set_option linter.unusedVariables false
open Go.RowKit
set_option maxRecDepth 100000 in
theorem own_bts' {w : World} {B n : Nat} {A : Option Addr} {cap : Nat} {l : List B8} (h : w.ownsRow B 5 1 (.slice A n cap) n (l.map bv)) : Bts w A l := by
  obtain ⟨A', c', e, hs, -, -, -⟩ := own_sl h
  injection e with e1 e2 e3
  subst e1
  exact Bts.of_sl hs
set_option maxRecDepth 100000 in
theorem heap_below' {w w' : World} {g : Nat} {o : Obj} (hb : Below w.heap.size w w') (h : w.heap[g]? = some o) : w'.heap[g]? = some o := (hb.block g (lt_of_block h)).trans h
theorem wpList_val {P : Program} {ops : Array Oper} {rest : List Oper} {o : Oper} {a : Act} {w : World} {Q : Exit → Act → World → Prop} (hgd : o.guard = none) (v : Value) (w' : World) (hr : (execOp a.eval o).run P w = .ok (.value v) w')
    (h : wpList P ops Q rest (a.put o.dst v) w') : wpList P ops Q (o :: rest) a w := by
  refine wpList_plain hgd fun K hK => ?_
  unfold Oper.wp
  rw [hr]
  exact hK _ _ h
def ZIL3 : Array Value := ((zeros 32).map bv).toArray
set_option maxRecDepth 100000 in
set_option maxHeartbeats 2000000 in
theorem rsum13_any (A : Option Addr) (c : Nat) (b : List B8) (w : World) (hb : Bts w A b) (hA : A = none → c = 0) (hlen : b.length ≤ 1000000) :
    Calls Tryd.prog 68 #[.slice A b.length c] w fun e w' => ∃ v, e = .returned v ∧ w'.ownsRow w.heap.size 5 1 v 8 ((sumS b).map bv) ∧ Below w.heap.size w w' := by
  obtain ⟨i0, hi, hz0, hz1, hz2⟩ := info_parts info_u8
  obtain ⟨w1, hw1⟩ : ∃ w1, w1 = w.alloc (.cells #[bv 13] 5) := ⟨_, rfl⟩
  have hb1 : Below w.heap.size w w1 := by rw [hw1]; exact (Below.refl _ _).alloc (Nat.le_refl _) _
  have ho1 : w1.ownsRow w.heap.size 5 1 (.slice (some ⟨w.heap.size, 0, none⟩) 1 1) 1 [bv 13] := by
    have := own_new w w.heap.size 5 [bv 13] 1 rfl (Nat.le_refl _) (by unfold maxLen; omega)
    rw [hw1]; exact this
  have L := Lib.hid (long_any A c b w1 (hb.below hb1) hA (by omega))
  have O := Lib.hid (fun (g cap : Nat) (w : World) (h : Bts w (some ⟨g, 0, none⟩) (13 :: longB b)) (hc : 1 + (4 + b.length) ≤ cap) => of_any (some ⟨g, 0, none⟩) cap (13 :: longB b) w h (fun h => by cases h) (by rw [List.length_cons, long_len]; omega) (by rw [List.length_cons, long_len]; omega))
  have e1 : (13 :: longB b).length = 1 + (4 + b.length) := by rw [List.length_cons, long_len]; omega
  rw [e1] at O
  obtain ⟨D, hD⟩ : ∃ D, D = dig (13 :: longB b) := ⟨_, rfl⟩
  have hDl : D.length = 32 := by rw [hD, dig_len]
  obtain ⟨C, hC⟩ : ∃ C, C = (D.map bv).toArray := ⟨_, rfl⟩
  have hC32 : C.size = 32 := by rw [hC]; simp [hDl]
  have hC1 : C.all (·.oneCell') = true := by rw [hC]; exact bvs_one _
  have HST := Lib.hid (fun w1 : World => run_store_new w1 C ZIL3 109 (by rw [hC32]; rfl) hC1)
  have hsum : sumS b = D.take 8 := by rw [hD]; rfl
  rw [← hD, ← hC] at O
  rw [hsum]
  have HO1 := Lib.hid ho1
  have HB1 := Lib.hid hb1
  have hsz1 : w.heap.size < w1.heap.size := by rw [hw1]; simp
  have HC := Lib.hid hC
  have HC32 := Lib.hid hC32
  have H1 := Lib.hid (show (Tryd.prog.info? 109).map (·.size) = some C.size by rw [hC32]; kernel_rfl)
  have H3 := Lib.hid hC1
  have HDL := Lib.hid hDl
  clear hb hA hb1 ho1 hC hC32 hC1 hD e1 hsum hDl
  go_enter Tryd.func68, Tryd.ntmps68
  go_upto_region 1 with fail
  go_step
  refine wpList_val rfl (.slice (some ⟨w.heap.size, 0, none⟩) 1 1) (w.alloc (.cells #[bv 13] 5)) (by kernel_rfl) ?_
  rw [← hw1]
  clear hw1
  generalize Value.slice (some ⟨w.heap.size, 0, none⟩) 1 1 = v3 at *
  go_wp2_with (go_at_call 77; refine stop ?_)
  unfold Stop
  refine L.out.mono ?_
  rintro e w3 ⟨v5, rfl, ho5, hb3⟩
  obtain ⟨g, cap, rfl, hg1, hg2⟩ := ho5.form (by omega)
  have HO3 := Lib.hid (own_below HO1.out hb3)
  have HB3 := Lib.hid (HB1.out.trans (hb3.mono HB1.out.size))
  have H5 := Lib.hid (own_bts' ho5)
  have hs23 := hb3.size
  clear ho5 hb3
  go_wp2_with (at_builtin; refine stop ?_)
  unfold Stop
  refine wpList_append_any (o := ⟨some 9, _, _, _, _, _⟩) rfl _ _ 36 rfl w.heap.size 5 i0 (.int .u8 0) 1 Tryd.underlying36 hi hz0 hz1 hz2 rfl _ 1 _ rfl HO3.out (some ⟨g, 0, none⟩) (4 + b.length) cap ((longB b).map bv) rfl (fun h => by cases h) (by rw [List.length_map, long_len]) H5.out (bv_one _) ?_ ?_ ?_ ?_
  · unfold maxLen; omega
  · omega
  · omega
  intro v6 w4 g1 g2
  obtain ⟨g', cap', rfl, hg3, hg4⟩ := World.ownsRow.form g1 (by omega)
  have HX := Lib.hid (show Bts w4 (some ⟨g', 0, none⟩) (13 :: longB b) from own_bts' (l := 13 :: longB b) g1)
  have HB4 := Lib.hid (HB3.out.grown g2 (by omega) (fun k hk => (HO3.out.lt k hk).1))
  have hcap := own_cap g1
  clear g1 g2 H5 HO3 HO1 HB1 HB3 L
  go_wp2_with (go_at_call 82; refine stop ?_)
  unfold Stop
  refine (O.out g' cap' w4 HX.out hcap).mono ?_
  rintro e w5 ⟨rfl, hb5⟩
  have HB5 := Lib.hid (HB4.out.trans (hb5.mono HB4.out.size))
  clear hb5 HX HB4 O
  go_wp2_with (refine wpList_store_row rfl _ _ _ rfl w5.heap.size C rfl rfl _ _ (heap_alloc_new _ _) H1.out (show _ = C.size by rw [HC32.out]; rfl) H3.out ?_)
  generalize hw6 : World.setRow _ _ _ = w6
  have hZ : ∃ Z : Array Value, w6 = (w5.alloc (.cells Z 109)).setRow w5.heap.size C := ⟨_, hw6.symm⟩
  clear hw6
  obtain ⟨Z, hw6⟩ := hZ
  have h6 := setRow_heap (w5.alloc (.cells Z 109)) w5.heap.size Z C 109 (0, 0) (heap_alloc_new _ _)
  rw [← hw6] at h6
  have H6 := Lib.hid h6
  have HB6 := Lib.hid (show Below w.heap.size w w6 by rw [hw6]; exact below_setRow (HB5.out.alloc HB5.out.size _) HB5.out.size C)
  obtain ⟨g6, hg6⟩ : ∃ g, g = w5.heap.size := ⟨_, rfl⟩
  have hgl : w.heap.size ≤ g6 := by rw [hg6]; exact HB5.out.size
  rw [← hg6] at H6 ⊢
  clear h6 hw6 HB5 hg6
  go_loopw [4, 5] (fun u i wr => ∃ k : Nat, k ≤ 8 ∧ i = .int .i64 k ∧ wr.ownsRow w.heap.size 5 1 u k ((D.take k).map bv) ∧ wr.heap[g6]? = some (.cells C 109 (0, 0)) ∧ Below w.heap.size w wr ∧ u.ownBlock ≠ some g6) (fun _ i _ => (8 - intOf i).toNat)
  case atStart => exact ⟨0, by omega, rfl, World.ownsRow_nil _ _ _ _, H6.out, HB6.out, by simp [Value.ownBlock]⟩
  case round =>
    obtain ⟨k, hk, rfl, ho, hc, hb, hne⟩ := hrel
    by_cases h8 : k < 8
    · obtain ⟨x, hx⟩ : ∃ x, D[k]? = some x := ⟨D[k]'(by have := HDL.out; omega), List.getElem?_eq_getElem _⟩
      have hcx : C[k]? = some (.int .u8 (x.toNat : Int)) := by rw [HC.out, List.getElem?_toArray, List.getElem?_map, hx]; rfl
      have hcell : wr.cell? ⟨g6, k, none⟩ = some (.int .u8 (x.toNat : Int)) := by rw [cell_of_row wr g6 k _ _ _ hc]; exact hcx
      have hk32 : (k : Int) < 32 := by omega
      have hk0 : (0 : Int) ≤ (k : Int) := by omega
      have HTK := Lib.hid (show D.take (k + 1) = D.take k ++ [x] by rw [List.take_add_one, hx]; rfl)
      have hgr := lt_of_block hc
      have HO := Lib.hid ho
      have HB := Lib.hid hb
      have HCB := Lib.hid hc
      have HNE := Lib.hid hne
      have hsz := hb.size
      clear ho hc hb hne hx hcx
      go_upto_region 6 with fail
      go_step
      iterate 15 go_step
      refine wpList_append_any_at (o := ⟨some 20, _, _, _, _, _⟩) rfl _ _ 36 rfl w.heap.size 5 i0 (.int .u8 0) 1 Tryd.underlying36 hi hz0 hz1 hz2 rfl u4 k _ rfl (HO.out.alloc _) (some ⟨wr.heap.size, 0, none⟩) 1 1 (([x] : List B8).map bv) rfl (fun h => by cases h) rfl ?_ (bv_one [x]) ?_ ?_ ?_ ?_
      · intro j u hu
        exact ⟨_, rfl, World.news_of_block (heap_alloc_new wr (.cells #[.int .u8 (x.toNat : Int)] 5)) j u hu⟩
      · unfold maxLen; omega
      · omega
      · simp; omega
      intro v9 w9 own9 gr9 at9
      have hnew : v9.ownBlock ≠ some g6 := by
        rcases at9 with e | e
        · rw [e]; exact HNE.out
        · rw [e]; simp; omega
      have HO9 := Lib.hid (show w9.ownsRow w.heap.size 5 1 v9 (k + 1) ((D.take (k + 1)).map bv) by rw [HTK.out, List.map_append]; exact own9)
      have HC9 := Lib.hid ((gr9.block g6 (by simp; omega) (fun h => HNE.out h.symm)).trans ((heap_alloc_old wr _ hgr).trans HCB.out))
      have HB9 := Lib.hid ((HB.out.alloc hsz (.cells #[.int .u8 (x.toNat : Int)] 5)).grown gr9 (by simp; omega) (fun i hi => (HO.out.lt i hi).1))
      have HNW := Lib.hid hnew
      clear own9 gr9 at9 hnew HO HB HCB HNE
      go_wp2
      go_roundw
      case rel => exact ⟨k + 1, by omega, by go_num, HO9.out, HC9.out, HB9.out, HNW.out⟩
      case measure => simp [intOf]; omega
    · obtain rfl : k = 8 := by omega
      have HO := Lib.hid ho
      have HB := Lib.hid hb
      clear ho hc hb hne
      go_wp2
      go_ret
      exact ⟨_, rfl, HO.out, HB.out⟩
end
end Go.Proofs.YtajdcekkmikbcaaDoor
