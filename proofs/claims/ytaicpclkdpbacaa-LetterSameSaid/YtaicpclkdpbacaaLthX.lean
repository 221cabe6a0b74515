/- Merged: 'awake': its contract. A letter that came in, opened. -/
import Derived.Test.YtaicpclkdpbacaaLtdX
import Derived.Test.YtaicpclkdpbacaaFrO
import Derived.Deep.MidRow
import Derived.Deep.WholeRow
namespace Go.Proofs.Ytaicpclkdpbacaa
section
set_option linter.unusedVariables false
set_option linter.unusedSimpArgs false

open Go.RowKit
theorem form_awake : okL ⟨2, ((1 : Nat) : Int), ((0 : Nat) : Int), ((0 : Nat) : Int), ((0 : Nat) : Int), true, [], []⟩ = true ∧ formL ⟨2, ((1 : Nat) : Int), ((0 : Nat) : Int), ((0 : Nat) : Int), ((0 : Nat) : Int), true, [], []⟩ = [1, 2, 1, 1, 1, 1] ∧ rdE [0] = 25 ∧ rdV [0] = zL := by decide +kernel
set_option maxRecDepth 100000 in
set_option maxHeartbeats 4000000 in
theorem awake15_any (w : World) : Calls Try.prog 8 #[] w fun r w' => r = .returned (.bool true) ∧ Turn (fun _ => False) w w' := by
  obtain ⟨f1, f2, f3, f4⟩ := form_awake
  have TP := lput2 none none 0 0 (fun _ => False) 1 0 0 0 true [] [] w (lt_nums (n := 2) (t := 1) (x := 0) (y := 0) (z := 0) ⟨by omega, by omega, by omega, by omega, by omega⟩ ⟨it_nil, fun _ => rfl, Nat.zero_le _, Nat.zero_le _⟩ ⟨bt_nil, Nat.zero_le _⟩) f1
  rw [f2] at TP
  have TP := Lib.hid TP
  have TR := Lib.hid (fun (g : Nat) (w1 : World) (hg : w1.heap[g]? = some (.cells #[.int .u8 0] 5 (0, 0))) => lread15_any (some ⟨g, 0, none⟩) 1 [0] w1 (fun j u hu => by
    have hj := (List.getElem?_eq_some_iff.1 hu).1
    obtain rfl : j = 0 := by simp at hj; omega
    refine ⟨_, rfl, lt_of_block hg, ?_⟩
    show w1.cell? ⟨g, 0, none⟩ = some u
    rw [cell_of_row w1 g _ _ _ _ hg]; simpa [bv] using hu) (fun h => by cases h) (by simp) (by simp))
  have F3 := Lib.hid f3
  have F4 := Lib.hid f4
  clear f1 f2 f3 f4
  go_enter Try.func8, Try.ntmps8
  go_wp2_with fail
  refine TP.out.mono ?_
  rintro r w1 ⟨u, rfl, own1, t1⟩
  obtain ⟨A1, c1, rfl, hs1, -, hc1, ha1⟩ := own_sl own1
  have HT1 := Lib.hid t1
  have HS1 := Lib.hid (And.intro hs1 (And.intro hc1 ha1))
  clear own1 hs1 hc1 ha1 t1 TP
  go_wp2_with fail
  have TR2 := TR.out _ _ (heap_alloc_new w1 (.cells #[.int .u8 0] 5 (0, 0)))
  unfold LPost at TR2
  rw [F3.out, F4.out] at TR2
  refine TR2.mono ?_
  rintro r w2 ⟨A2, cA, S2, cS, rfl, -, t2⟩
  have HT2 := Lib.hid (HT1.out.trans (((Turn.refl (fun _ => False) w1).alloc (.cells #[.int .u8 0] 5 (0, 0))).trans t2 (fun _ _ h => h)) (fun _ _ h => h))
  have HX2 := Lib.hid (((Turn.refl (fun _ => False) w1).alloc (.cells #[.int .u8 0] 5 (0, 0))).trans t2 (fun _ _ h => h))
  clear t2 TR2 TR
  go_upto_region 3 with fail
  have HT3 := Lib.hid ((Turn.refl (fun _ => False) w2).alloc (.cells (ltC A2 cA S2 cS zL) 25))
  obtain ⟨w3, hw3⟩ : ∃ w3, w3 = w2.alloc (.cells (ltC A2 cA S2 cS zL) 25) := ⟨_, rfl⟩
  rw [← hw3] at HT3
  change Code.wp _ _ _ _ (w2.alloc (.cells (ltC A2 cA S2 cS zL) 25))
  rw [← hw3]
  clear hw3
  have HG4 := Lib.hid (heap_alloc_new w3 (.cells #[.int .u8 1, .int .u8 2, .int .u8 1, .int .u8 1, .int .u8 1, .int .u8 1] 5 (0, 0)))
  have HT4 := Lib.hid ((Turn.refl (fun _ => False) w3).alloc (.cells #[.int .u8 1, .int .u8 2, .int .u8 1, .int .u8 1, .int .u8 1, .int .u8 1] 5 (0, 0)))
  obtain ⟨w4, hw4⟩ : ∃ w4, w4 = w3.alloc (.cells #[.int .u8 1, .int .u8 2, .int .u8 1, .int .u8 1, .int .u8 1, .int .u8 1] 5 (0, 0)) := ⟨_, rfl⟩
  rw [← hw4] at HG4 HT4
  have HT14 := Lib.hid ((HX2.out.trans HT3.out (fun _ _ h => h)).trans HT4.out (fun _ _ h => h))
  have TB := rbytes_any A1 (some ⟨w3.heap.size, 0, none⟩) c1 6 w1.heap.size w4.heap.size [1, 2, 1, 1, 1, 1] [1, 2, 1, 1, 1, 1] w4 (fun j u hu => by
      obtain ⟨ad, e1, hb, hc⟩ := HS1.out.1 j u hu
      exact ⟨ad, e1, hb, HT14.out.cell hc (fun h => h)⟩) (fun j u hu => by
      have hj := (List.getElem?_eq_some_iff.1 hu).1
      refine ⟨_, rfl, lt_of_block HG4.out, ?_⟩
      rw [show (⟨w3.heap.size, 0, none⟩ : Addr).add j = ⟨w3.heap.size, j, none⟩ by unfold Addr.add; by_cases hj : j = 0 <;> simp [hj]]
      rw [cell_of_row w4 _ _ _ _ _ HG4.out, show (#[.int .u8 1, .int .u8 2, .int .u8 1, .int .u8 1, .int .u8 1, .int .u8 1] : Array Value) = (([1, 2, 1, 1, 1, 1] : List B8).map bv).toArray by rfl, List.getElem?_toArray]
      exact hu) (by decide) (by decide)
  rw [decide_eq_true rfl] at TB
  have TB := Lib.hid TB
  have TS := Lib.hid (fun (w5 : World) => same_any none none none none 0 0 0 0 (fun _ => False) (fun _ => False) zL zL w5 (zL_at _ _) (zL_at _ _))
  rw [show sameL zL zL = true by unfold sameL; simp] at TS
  have HW4 := Lib.hid hw4
  clear hw4
  go_wp2_with (first
    | (go_at_call 13; refine stop ?_)
    | (go_at_call 17; refine stop ?_))
  unfold Stop
  change Calls _ _ _ (w3.alloc (.cells #[.int .u8 1, .int .u8 2, .int .u8 1, .int .u8 1, .int .u8 1, .int .u8 1] 5 (0, 0))) _
  rw [← HW4.out]
  refine TB.out.mono ?_
  rintro r w5 ⟨rfl, n5, h5⟩
  have T5 := Lib.hid (HT14.out.drewN n5)
  rw [← h5] at T5
  clear h5
  go_wp2_with (go_at_call 17; refine stop ?_)
  unfold Stop
  refine (TS.out w5).mono ?_
  rintro r w6 ⟨rfl, t6⟩
  have T6 := Lib.hid (T5.out.trans t6 (fun _ _ h => h))
  clear t6
  go_wp2
  go_ret
  exact ⟨rfl, HT1.out.trans T6.out (fun _ _ h => h)⟩

end
section
set_option linter.unusedVariables false
set_option linter.unusedSimpArgs false

open Go.RowKit Go.ChangeShapes Go.WideShapes Go.ChangeAt
theorem addr_zeroL (a : Addr) : a.add 0 = a := by unfold Addr.add; split <;> simp_all
theorem rangeAt_ofL {w : World} {base : Nat} {a : Addr} {n : Nat} {cs : List Value} (h : w.cells? base a n = some cs) (hn : 0 < n) : a.spot = none ∧ w.rangeAt a.block a.off cs ∧ a.block < w.heap.size ∧ cs.length = n := by
  obtain ⟨hb, hl, hc⟩ := World.cells?_some h
  have h0 := hc 0 hn
  have hsp : a.spot = none := by
    rw [addr_zeroL] at h0
    unfold World.cell? at h0
    cases hh : a.spot with
    | none => rfl
    | some z =>
      rw [hh] at h0
      rw [List.getElem?_eq_getElem (by omega)] at h0
      revert h0
      split <;> simp
  refine ⟨hsp, fun j v hj => ?_, World.cells?_block h hn, hl⟩
  have hj' := (List.getElem?_eq_some_iff.1 hj).1
  have := hc j (by omega)
  rw [hj] at this
  rw [← this]
  congr 1
  unfold Addr.add
  split
  · rename_i h; subst h; cases a; simp_all
  · rfl
theorem sl_slF {w : World} {A : Option Addr} {xs : List Value} (h : Sl w w.heap.size A xs) : SlN w (fun _ => False) A xs := SlN.of h (fun _ _ h => h)
section
variable {H : Type} {enc : TypeId × Value → H} {W : World} {fuel : Nat} {x : DataW H × List MemPlace}
theorem trod_bytesL {cs : List Value} (h : DataW.trod enc Try.prog W 0 (fun _ => true) true fuel 23 cs = some x) :
    ∃ (A : Option Addr) (c : Nat) (xs : List B8), cs = [.slice A xs.length c] ∧ BtN W (fun _ => False) A c xs ∧ xs.length ≤ maxLen := by
  rcases open_ints Try.underlying23 Try.underlying5 (by kernel_rfl) h with ⟨hcs, hx⟩ | ⟨a, len', cap', zs, hcs, _, hl, hm, hz, hx, hcell, hwz⟩
  · exact ⟨none, 0, [], hcs, bt_nil, by simp⟩
  · have hzl : zs.length = cap' := by simpa using hz
    have hlen : ((zs.take len').map fun z => BitVec.ofNat 8 z.toNat).length = len' := by simp; omega
    refine ⟨some a, cap', (zs.take len').map (fun z => BitVec.ofNat 8 z.toNat), by rw [hlen]; exact hcs, ⟨sl_slF ?_, (fun h => by cases h), by omega⟩, by omega⟩
    intro j u hu
    simp only [List.map_map, List.getElem?_map, Option.map_eq_some_iff] at hu
    obtain ⟨z, hz1, rfl⟩ := hu
    have hj : j < len' := by have := (List.getElem?_eq_some_iff.1 hz1).1; simp at this; omega
    have hzj : zs[j]? = some z := by rw [List.getElem?_take, if_pos hj] at hz1; exact hz1
    have h1 := hcell j (by omega)
    have hb := bounds_u8 (hwz z (List.mem_of_getElem? hzj))
    refine ⟨a, rfl, ?_, ?_⟩
    · have := World.block_lt_of_cell? W _ h1
      rwa [add_block] at this
    · rw [h1, List.getD, hzj]
      simp only [Option.getD_some, Function.comp, bv, BitVec.toNat_ofNat]
      rw [Nat.mod_eq_of_lt (by omega)]
      congr 2
      omega
/-- An item's cells. -/
def Itm.cells (p : Itm) (S : Option Addr) (c : Nat) : List Value := [.int .i64 p.t, .slice S p.b.length c]
theorem trod_itemL {cs : List Value} (h : DataW.trod enc Try.prog W 0 (fun _ => true) true fuel 40 cs = some x) : ∃ (p : Itm) (S : Option Addr) (c : Nat), cs = p.cells S c ∧ p.ok ∧ BtN W (fun _ => False) S c p.b := by
  obtain ⟨xs, m, -, -, hl, hxl, hall⟩ := DataW.trod_struct Try.underlying40 h
  rw [show Try.prog.cellsOf 40 = 2 by kernel_rfl] at hl
  have hx2 : xs.length = 2 := hxl
  have g0 : xs[0]? = some xs[0] := List.getElem?_eq_getElem (by omega)
  have g1 : xs[1]? = some xs[1] := List.getElem?_eq_getElem (by omega)
  have h0 : DataW.trod enc Try.prog W 0 (fun _ => true) true m 3 ((cs.drop 0).take (Try.prog.cellsOf 3)) = some xs[0] := (hall 0 _ rfl).trans g0
  have h1 : DataW.trod enc Try.prog W 0 (fun _ => true) true m 23 ((cs.drop 1).take (Try.prog.cellsOf 23)) = some xs[1] := (hall 1 _ rfl).trans g1
  rw [show Try.prog.cellsOf 3 = 1 by kernel_rfl] at h0
  rw [show Try.prog.cellsOf 23 = 1 by kernel_rfl] at h1
  obtain ⟨t, e0, -, w0⟩ := DataW.trod_int Try.underlying3 h0
  obtain ⟨S, c, b, e1, hb, hm⟩ := trod_bytesL h1
  have b0 := bounds_i64 w0
  refine ⟨⟨t, b⟩, S, c, ?_, ⟨⟨b0.1, by simp only; omega⟩, hm⟩, hb⟩
  have e : cs = (cs.drop 0).take 1 ++ (cs.drop 1).take 1 := by
    rw [List.take_of_length_le (l := cs.drop 1) (by simp; omega), List.drop_zero, List.take_append_drop]
  rw [e, e0, e1]
  simp [Itm.cells]
theorem trod_itemsL {cs : List Value} (h : DataW.trod enc Try.prog W 0 (fun _ => true) true fuel 22 cs = some x) : ∃ (A : Option Addr) (c : Nat) (l : List Itm), cs = [.slice A l.length c] ∧ ItN W (fun _ => False) A l ∧ (A = none → c = 0) ∧ l.length ≤ c ∧ l.length ≤ maxLen := by
  rcases DataW.trod_slice Try.underlying22 h with ⟨hcs, -⟩ | ⟨a, len, cap, elems, rest, m, -, hcs, -, -, hl, hm, hel, hall, -, -⟩
  · exact ⟨none, 0, [], hcs, fun i f h => by simp at h, fun _ => rfl, by simp, by simp⟩
  · have c2 : Try.prog.cellsOf 40 = 2 := by kernel_rfl
    have each : ∀ i, i < len → ∃ (q : Itm × Option Addr × Nat), q.1.ok ∧ BtN W (fun _ => False) q.2.1 q.2.2 q.1.b ∧ (i = 0 → a.spot = none) ∧ a.block < W.heap.size ∧ W.rangeAt a.block (a.off + i * 2) (q.1.cells q.2.1 q.2.2) := by
      intro i hi
      have h := hall i hi
      rw [c2, List.getElem?_eq_getElem (by omega), Option.bind_eq_some_iff] at h
      obtain ⟨cs, hcs, ht⟩ := h
      obtain ⟨p, S, c, rfl, hok, hb⟩ := trod_itemL ht
      obtain ⟨hsp, hr, hbl, -⟩ := rangeAt_ofL hcs (by omega)
      have hadd : (a.add (i * 2)).block = a.block := add_block _ _
      refine ⟨(p, S, c), hok, hb, ?_, by rw [← hadd]; exact hbl, ?_⟩
      · rintro rfl
        rw [Nat.zero_mul, addr_zeroL] at hsp; exact hsp
      · rw [hadd] at hr
        have : (a.add (i * 2)).off = a.off + i * 2 := by unfold Addr.add; split <;> simp_all
        rwa [this] at hr
    have hlen : ((List.range len).map fun i => if h : i < len then (each i h).choose.1 else ⟨0, []⟩).length = len := by simp
    refine ⟨some a, cap, (List.range len).map fun i => if h : i < len then (each i h).choose.1 else ⟨0, []⟩, by rw [hlen]; exact hcs, ?_, (fun h => by cases h), by omega, by omega⟩
    intro i p hp
    have hi : i < len := by have := (List.getElem?_eq_some_iff.1 hp).1; simpa using this
    simp [hi] at hp
    have hsp := (each 0 (by omega)).choose_spec.2.2.1 rfl
    obtain ⟨h1, h2, h3, h4, h5⟩ := (each i hi).choose_spec
    rw [hp] at h1 h2 h5
    refine ⟨h1, a.block, a.off, _, _, ?_, (fun h => h), h2, ?_, ?_⟩
    · cases a; simp_all
    · have := h5 0 (.int .i64 p.t) rfl
      simpa using this
    · exact h5 1 _ rfl
set_option maxRecDepth 100000 in
theorem open_letter {r : Reach} {b0 : Nat} {v : Value} {d : DataW H} {p : List MemPlace} (hval : Value.okWide Try.prog W r b0 25 v) (hd : DataW.Trod enc Try.prog W 0 (fun _ => true) true 25 v d p) :
    ∃ (A : Option Addr) (cA : Nat) (S : Option Addr) (cS : Nat) (l : Ltr), v = ltV A cA S cS l ∧ LtN W (fun _ => False) A cA S cS l := by
  have hv : ∃ cs, v = .agg cs := by
    simp only [Value.okWide, Try.underlying25] at hval
    obtain ⟨cs, h1, _⟩ := hval
    exact ⟨cs, h1⟩
  obtain ⟨ca, rfl⟩ := hv
  obtain ⟨fuel, hf⟩ := hd
  obtain ⟨xs, m, -, -, hl, hxl, hall⟩ := DataW.trod_struct Try.underlying25 hf
  obtain ⟨cs, hcs⟩ : ∃ cs, cs = (Value.agg ca).cells.toList := ⟨_, rfl⟩
  rw [← hcs] at hl hall
  have hca : ca = cs.toArray := by rw [hcs]; simp [Value.cells]
  rw [show Try.prog.cellsOf 25 = 8 by kernel_rfl] at hl
  have hx8 : xs.length = 8 := hxl
  have g0 : xs[0]? = some xs[0] := List.getElem?_eq_getElem (by omega)
  have g1 : xs[1]? = some xs[1] := List.getElem?_eq_getElem (by omega)
  have g2 : xs[2]? = some xs[2] := List.getElem?_eq_getElem (by omega)
  have g3 : xs[3]? = some xs[3] := List.getElem?_eq_getElem (by omega)
  have g4 : xs[4]? = some xs[4] := List.getElem?_eq_getElem (by omega)
  have g5 : xs[5]? = some xs[5] := List.getElem?_eq_getElem (by omega)
  have g6 : xs[6]? = some xs[6] := List.getElem?_eq_getElem (by omega)
  have g7 : xs[7]? = some xs[7] := List.getElem?_eq_getElem (by omega)
  have h0 : DataW.trod enc Try.prog W 0 (fun _ => true) true m 3 ((cs.drop 0).take (Try.prog.cellsOf 3)) = some xs[0] := (hall 0 _ rfl).trans g0
  have h1 : DataW.trod enc Try.prog W 0 (fun _ => true) true m 3 ((cs.drop 1).take (Try.prog.cellsOf 3)) = some xs[1] := (hall 1 _ rfl).trans g1
  have h2 : DataW.trod enc Try.prog W 0 (fun _ => true) true m 3 ((cs.drop 2).take (Try.prog.cellsOf 3)) = some xs[2] := (hall 2 _ rfl).trans g2
  have h3 : DataW.trod enc Try.prog W 0 (fun _ => true) true m 3 ((cs.drop 3).take (Try.prog.cellsOf 3)) = some xs[3] := (hall 3 _ rfl).trans g3
  have h4 : DataW.trod enc Try.prog W 0 (fun _ => true) true m 3 ((cs.drop 4).take (Try.prog.cellsOf 3)) = some xs[4] := (hall 4 _ rfl).trans g4
  have h5 : DataW.trod enc Try.prog W 0 (fun _ => true) true m 4 ((cs.drop 5).take (Try.prog.cellsOf 4)) = some xs[5] := (hall 5 _ rfl).trans g5
  have h6 : DataW.trod enc Try.prog W 0 (fun _ => true) true m 22 ((cs.drop 6).take (Try.prog.cellsOf 22)) = some xs[6] := (hall 6 _ rfl).trans g6
  have h7 : DataW.trod enc Try.prog W 0 (fun _ => true) true m 23 ((cs.drop 7).take (Try.prog.cellsOf 23)) = some xs[7] := (hall 7 _ rfl).trans g7
  rw [show Try.prog.cellsOf 3 = 1 by kernel_rfl] at h0 h1 h2 h3 h4
  rw [show Try.prog.cellsOf 4 = 1 by kernel_rfl] at h5
  rw [show Try.prog.cellsOf 22 = 1 by kernel_rfl] at h6
  rw [show Try.prog.cellsOf 23 = 1 by kernel_rfl] at h7
  obtain ⟨k, e0, -, w0⟩ := DataW.trod_int Try.underlying3 h0
  obtain ⟨t, e1, -, w1⟩ := DataW.trod_int Try.underlying3 h1
  obtain ⟨a, e2, -, w2⟩ := DataW.trod_int Try.underlying3 h2
  obtain ⟨y, e3, -, w3⟩ := DataW.trod_int Try.underlying3 h3
  obtain ⟨z, e4, -, w4⟩ := DataW.trod_int Try.underlying3 h4
  obtain ⟨s, e5, -⟩ := DataW.trod_bool Try.underlying4 h5
  obtain ⟨A, cA, its, e6, hi, hia, hic, him⟩ := trod_itemsL h6
  obtain ⟨S, cS, b, e7, hb, hbm⟩ := trod_bytesL h7
  have b0 := bounds_i64 w0
  have b1 := bounds_i64 w1
  have b2 := bounds_i64 w2
  have b3 := bounds_i64 w3
  have b4 := bounds_i64 w4
  have e : cs = (cs.drop 0).take 1 ++ ((cs.drop 1).take 1 ++ ((cs.drop 2).take 1 ++ ((cs.drop 3).take 1 ++ ((cs.drop 4).take 1 ++ ((cs.drop 5).take 1 ++ ((cs.drop 6).take 1 ++ (cs.drop 7).take 1)))))) := by
    rw [List.take_of_length_le (l := cs.drop 7) (by simp; omega)]
    rw [show cs.drop 7 = (cs.drop 6).drop 1 by simp, List.take_append_drop, show cs.drop 6 = (cs.drop 5).drop 1 by simp, List.take_append_drop, show cs.drop 5 = (cs.drop 4).drop 1 by simp, List.take_append_drop, show cs.drop 4 = (cs.drop 3).drop 1 by simp, List.take_append_drop, show cs.drop 3 = (cs.drop 2).drop 1 by simp, List.take_append_drop, show cs.drop 2 = (cs.drop 1).drop 1 by simp, List.take_append_drop, show cs.drop 1 = (cs.drop 0).drop 1 by simp, List.take_append_drop]
    simp
  refine ⟨A, cA, S, cS, ⟨k, t, a, y, z, s, its, b⟩, ?_, ⟨hi, hia, hic, him, hb, hbm, ⟨b0.1, by simp only; omega⟩, ⟨b1.1, by simp only; omega⟩, ⟨b2.1, by simp only; omega⟩, ⟨b3.1, by simp only; omega⟩, ⟨b4.1, by simp only; omega⟩⟩⟩
  rw [hca, e, e0, e1, e2, e3, e4, e5, e6, e7]
  rfl
end
theorem own_maxL {w : World} {B n : Nat} {e : TypeId} {v : Value} {xs : List Value} (h : w.ownsRow B e 1 v n xs) : n ≤ maxLen := by
  rcases h.2 with ⟨e, h0⟩ | ⟨g, cap, cur, e, _, _, hc, hm, _⟩ <;> omega
theorem sameL_self (l : Ltr) : sameL l l = true := by unfold sameL; simp

end
end Go.Proofs.Ytaicpclkdpbacaa
