/- 'ShaUnder': its walk. -/
import Derived.Test.YteehhhchabiliaaDoorShaT1
set_option linter.unusedVariables false
namespace Go.Proofs.YteehhhchabiliaaDoor
open Go.RowKit Go.ChangeShapes Go.WideShapes Go.ChangeAt
/-- Lists of bytes that lie in a slice. -/
def LstN (w : World) (A : Option Addr) (ls : List (List B8)) : Prop := ∀ (i : Nat) (xs : List B8), ls[i]? = some xs → ∃ ad Ai ci, A = some ad ∧ w.cell? (ad.add i) = some (.slice Ai xs.length ci) ∧ xs.length ≤ ci ∧ (Ai = none → ci = 0) ∧ Bts w Ai xs
theorem LstN.lst {w : World} {A : Option Addr} {ls : List (List B8)} (h : LstN w A ls) : Lst w A ls := fun i xs hi => by
  obtain ⟨ad, Ai, ci, h1, h2, h3, -, h5⟩ := h i xs hi
  exact ⟨ad, Ai, ci, h1, h2, h3, h5⟩
theorem LstN.below {w w' : World} {A : Option Addr} {ls : List (List B8)} (h : LstN w A ls) (hb : Below w.heap.size w w') : LstN w' A ls := fun i xs hi => by
  obtain ⟨ad, Ai, ci, h1, h2, h3, h4, h5⟩ := h i xs hi
  exact ⟨ad, Ai, ci, h1, (hb.cell (World.block_lt_of_cell? w _ h2)).trans h2, h3, h4, h5.below hb⟩
section
variable {H : Type} {enc : TypeId × Value → H} {W : World} {fuel : Nat} {x : DataW H × List MemPlace}
theorem trod_bytes {cs : List Value} (h : DataW.trod enc Tryd.prog W 0 (fun _ => true) true fuel 22 cs = some x) :
    ∃ (A : Option Addr) (c : Nat) (xs : List B8), cs = [.slice A xs.length c] ∧ Bts W A xs ∧ (A = none → c = 0) ∧ xs.length ≤ c ∧ xs.length ≤ maxLen := by
  rcases open_ints Tryd.underlying22 Tryd.underlying5 (by kernel_rfl) h with ⟨hcs, hx⟩ | ⟨a, len', cap', zs, hcs, _, hl, hm, hz, hx, hcell, hwz⟩
  · exact ⟨none, 0, [], hcs, fun j u h => by simp at h, fun _ => rfl, by simp, by simp⟩
  · have hzl : zs.length = cap' := by simpa using hz
    have hlen : ((zs.take len').map fun z => BitVec.ofNat 8 z.toNat).length = len' := by simp; omega
    refine ⟨some a, cap', (zs.take len').map (fun z => BitVec.ofNat 8 z.toNat), by rw [hlen]; exact hcs, ?_, (fun h => by cases h), by omega, by omega⟩
    intro j u hu
    simp only [List.map_map, List.getElem?_map, Option.map_eq_some_iff] at hu
    obtain ⟨z, hz1, rfl⟩ := hu
    have hj : j < len' := by have := (List.getElem?_eq_some_iff.1 hz1).1; simp at this; omega
    have hzj : zs[j]? = some z := by rw [List.getElem?_take, if_pos hj] at hz1; exact hz1
    have h1 := hcell j (by omega)
    have hb := bounds_u8 (hwz z (List.mem_of_getElem? hzj))
    refine ⟨a, rfl, ?_⟩
    rw [h1, List.getD, hzj]
    simp only [Option.getD_some, Function.comp, bv, BitVec.toNat_ofNat]
    rw [Nat.mod_eq_of_lt (by omega)]
    congr 2
    omega
theorem cells_one {w : World} {b : Nat} {a : Addr} {v : Value} (h : w.cells? b a 1 = some [v]) : w.cell? a = some v := by
  obtain ⟨-, -, hc⟩ := World.cells?_some h
  have := hc 0 (by omega)
  have e : a.add 0 = a := by unfold Addr.add; simp
  rwa [e] at this
theorem open_lists {r : Reach} {b0 : Nat} {v : Value} {d : DataW H} {p : List MemPlace} (hval : Value.okWide Tryd.prog W r b0 30 v) (hd : DataW.Trod enc Tryd.prog W 0 (fun _ => true) true 30 v d p) :
    ∃ (A : Option Addr) (c : Nat) (l : List (List B8)), v = .slice A l.length c ∧ LstN W A l ∧ (A = none → c = 0) ∧ l.length ≤ c ∧ l.length ≤ maxLen := by
  obtain ⟨a0, len, cap, rfl⟩ := okWide_slice Tryd.underlying30 hval
  obtain ⟨fuel, hf⟩ := hd
  rcases DataW.trod_slice Tryd.underlying30 hf with ⟨hcs, -⟩ | ⟨a, len', cap', elems, rest, m, -, hcs, -, -, hl, hm, hel, hall, -, -⟩
  · simp [Value.cells] at hcs
    obtain ⟨rfl, rfl, rfl⟩ := hcs
    exact ⟨none, 0, [], rfl, fun i f h => by simp at h, fun _ => rfl, by simp, by simp⟩
  · simp [Value.cells] at hcs
    obtain ⟨rfl, rfl, rfl⟩ := hcs
    have c31 : Tryd.prog.cellsOf 22 = 1 := by kernel_rfl
    have each : ∀ i, i < len → ∃ xs : List B8, ∃ Ai ci, W.cell? (a.add i) = some (.slice Ai xs.length ci) ∧ xs.length ≤ ci ∧ (Ai = none → ci = 0) ∧ Bts W Ai xs := by
      intro i hi
      have h := hall i hi
      rw [c31, List.getElem?_eq_getElem (by omega), Option.bind_eq_some_iff, Nat.mul_one] at h
      obtain ⟨cs, hcs, ht⟩ := h
      obtain ⟨Ai, ci, xs, rfl, h1, h2, h3, -⟩ := trod_bytes ht
      exact ⟨xs, Ai, ci, cells_one hcs, h3, h2, h1⟩
    have hlen : ((List.range len).map fun i => if h : i < len then (each i h).choose else []).length = len := by simp
    refine ⟨some a, cap, (List.range len).map fun i => if h : i < len then (each i h).choose else [], by rw [hlen], ?_, (fun h => by cases h), by omega, by omega⟩
    intro i f hf
    have hi : i < len := by have := (List.getElem?_eq_some_iff.1 hf).1; simpa using this
    simp [hi] at hf
    obtain ⟨Ai, ci, h1, h2, h3, h4⟩ := (each i hi).choose_spec
    rw [hf] at h1 h2 h4
    exact ⟨a, Ai, ci, rfl, h1, h2, h3, h4⟩
end
theorem own_cap {w : World} {B : Nat} {e : TypeId} {s n cap : Nat} {A : Option Addr} {xs : List Value} (h : w.ownsRow B e s (.slice A n cap) n xs) : n ≤ cap := by
  rcases h.2 with ⟨e, -⟩ | ⟨g, cap', cur, e, -, -, hle, -⟩
  · injection e with _ e1 e2; omega
  · injection e with _ e1 e2; omega
theorem long_len (b : List B8) : (longB b).length = 4 + b.length := by simp [longB, wb_len]
theorem under_take_len (mk : B8) (ls : List (List B8)) (k : Nat) (h : ∀ xs ∈ ls.take k, xs.length ≤ 60) : (underB mk (ls.take k)).length ≤ 1 + 64 * k := by
  unfold underB
  rw [List.length_cons, List.length_flatten, List.map_map]
  have : ∀ (l : List (List B8)), (∀ xs ∈ l, xs.length ≤ 60) → (l.map (List.length ∘ longB)).sum ≤ 64 * l.length := by
    intro l
    induction l with
    | nil => intro _; simp
    | cons x l ih =>
      intro hl
      have h1 := hl x (by simp)
      have h2 := ih (fun xs hx => hl xs (by simp [hx]))
      simp only [List.map_cons, List.sum_cons, Function.comp, List.length_cons, long_len]
      omega
  have h3 := this _ h
  have h4 : (ls.take k).length ≤ k := List.length_take_le _ _
  have h5 : 64 * (ls.take k).length ≤ 64 * k := Nat.mul_le_mul_left _ h4
  omega
theorem under_next (mk : B8) (ls : List (List B8)) (k : Nat) (x : List B8) (h : ls[k]? = some x) : underB mk (ls.take (k + 1)) = underB mk (ls.take k) ++ longB x := by
  unfold underB
  rw [List.take_add_one, h]
  simp
set_option maxRecDepth 100000 in
set_option maxHeartbeats 1000000 in
theorem lawunder_any (mk : B8) (A : Option Addr) (c : Nat) (ls : List (List B8)) (w : World) (hL : LstN w A ls) (hm : ls.length ≤ maxLen) (hG : Glob w) :
    Calls Tryd.prog 4 #[bv mk, .slice A ls.length c] w fun e w' => e = .returned (.bool true) ∧ Below w.heap.size w w' := by
  have HG := Lib.hid hG
  have HL := Lib.hid hL
  clear hG hL
  unfold maxLen at hm
  unfold bv
  obtain ⟨i0, hi, hz0, hz1, hz2⟩ := info_parts info_u8
  by_cases h10 : ls.length ≤ 10
  · go_enter Tryd.func4, Tryd.ntmps4
    go_wp2_with fail
    go_loopw [5, 6] (fun vv i wr => ∃ k : Nat, k ≤ ls.length ∧ i = .int .i64 (k : Int) ∧ (∀ xs ∈ ls.take k, xs.length ≤ 60) ∧ wr.ownsRow w.heap.size 5 1 vv (underB mk (ls.take k)).length ((underB mk (ls.take k)).map bv) ∧ Below w.heap.size w wr) (fun _ i _ => ls.length - (intOf i).toNat)
    case atStart =>
      refine ⟨0, by omega, rfl, by simp, ?_, (Below.refl _ _).alloc (Nat.le_refl _) _⟩
      exact own_new w w.heap.size 5 [bv mk] 1 rfl (Nat.le_refl _) (by unfold maxLen; omega)
    case round =>
      obtain ⟨k, hk, rfl, h60, hown, hb⟩ := hrel
      have H60 := Lib.hid h60
      have HO := Lib.hid hown
      have HB := Lib.hid hb
      have hul := under_take_len mk ls k h60
      clear h60 hown hb
      by_cases hlt : k < ls.length
      · obtain ⟨x, hx⟩ : ∃ x, ls[k]? = some x := ⟨_, List.getElem?_eq_getElem hlt⟩
        have HN := Lib.hid (under_next mk ls k x hx)
        have HX := Lib.hid hx
        obtain ⟨ad, Ai, ci, rfl, hc, hci, hAi, hbt⟩ := (HL.out.below HB.out) k x hx
        clear hx
        by_cases hx60 : x.length ≤ 60
        · have LO := Lib.hid (fun w (h : Bts w Ai x) => long_any Ai ci x w h hAi (by omega))
          have HBT := Lib.hid hbt
          clear hbt hAi
          go_wp2_with (go_at_call 11; refine stop ?_)
          unfold Stop
          refine (LO.out wr HBT.out).mono ?_
          rintro e w2 ⟨v2, rfl, ho2, hb2⟩
          obtain ⟨g, cap, rfl, hg1, hg2⟩ := ho2.form (by omega)
          have HO2 := Lib.hid (own_below HO.out hb2)
          have hsz : w.heap.size ≤ wr.heap.size := HB.out.size
          have HB2 := Lib.hid (HB.out.trans (hb2.mono hsz))
          have HC2 := Lib.hid (fun (j : Nat) (u : Value) (hu : ((longB x).map bv)[j]? = some u) => (⟨⟨g, 0, none⟩, rfl, ho2.cells rfl j u hu⟩ : ∃ ad, some (⟨g, 0, none⟩ : Addr) = some ad ∧ w2.cell? (ad.add j) = some u))
          have hs2 : wr.heap.size ≤ w2.heap.size := hb2.size
          have hll := long_len x
          clear ho2 hb2
          go_wp2_with (at_builtin; refine stop ?_)
          unfold Stop
          refine wpList_append_any (o := ⟨some 32, _, _, _, _, _⟩) rfl _ _ 22 rfl w.heap.size 5 i0 (.int .u8 0) 1 Tryd.underlying22 hi hz0 hz1 hz2 rfl _ _ _ rfl HO2.out (some ⟨g, 0, none⟩) (4 + x.length) _ ((longB x).map bv) rfl (fun h => by cases h) (by rw [List.length_map, hll]) HC2.out (bv_one _) ?_ ?_ ?_ ?_
          · unfold maxLen; omega
          · omega
          · omega
          intro v3 w3 g1 g2
          have HO3 := Lib.hid g1
          have HB3 := Lib.hid (HB2.out.grown g2 (by omega) (fun k hk => (HO2.out.lt k hk).1))
          clear g1 g2
          go_wp2_with fail
          go_roundw
          case rel =>
            refine ⟨k + 1, by omega, by go_num, ?_, ?_, HB3.out⟩
            · intro xs hxs
              rw [List.take_add_one, HX.out] at hxs
              simp only [Option.toList, List.mem_append, List.mem_singleton] at hxs
              rcases hxs with hxs | rfl
              · exact H60.out xs hxs
              · exact hx60
            · rw [HN.out, List.length_append, hll, List.map_append]; exact HO3.out
          case measure => simp [intOf]; omega
        · have HGr := Lib.hid (HG.out.below HB.out HG.out.1)
          go_wp2_with (go_at_call 7; refine (awake_any _ HGr.out).mono ?_; rintro e w' ⟨rfl, hb4⟩)
          go_ret
          exact ⟨rfl, HB.out.trans (hb4.mono HB.out.size)⟩
      · obtain rfl : k = ls.length := by omega
        have e0 : ls.take ls.length = ls := List.take_length
        rw [e0] at HO H60 hul
        obtain ⟨g, cap, hv5, hg1, hg2⟩ := HO.out.form (by simp [underB])
        subst hv5
        have HGr := Lib.hid (HG.out.below HB.out HG.out.1)
        have hbt : Bts wr (some ⟨g, 0, none⟩) (underB mk ls) := fun j u hu => ⟨_, rfl, HO.out.cells rfl j u hu⟩
        have HBT := Lib.hid hbt
        have U1 := Lib.hid (under_any mk A c ls wr (HL.out.below HB.out).lst HGr.out (by omega) (by omega))
        obtain ⟨C, hC⟩ : ∃ C, C = ((dig (underB mk ls)).map bv).toArray := ⟨_, rfl⟩
        have eqC : ∀ w, (Op.equalIn 10000 26 (.agg C) (.agg C)).run Tryd.prog w = .ok true w := fun w => by
          rw [hC, eq_id _ _ (dig_len _) (dig_len _) w]; simp
        rw [← hC] at U1
        have O1 := Lib.hid (fun (w : World) (hB : Bts w (some ⟨g, 0, none⟩) (underB mk ls)) => of_any (some ⟨g, 0, none⟩) cap (underB mk ls) w hB (fun h => by cases h) (own_cap HO.out) (by omega))
        rw [← hC] at O1
        clear hC hbt e0
        go_wp2_with (first
          | (go_at_call 12; refine U1.out.mono ?_; rintro e w2 ⟨rfl, hb2⟩; have hb2 := Lib.hid hb2)
          | (go_at_call 10; refine (O1.out w2 (HBT.out.below hb2.out)).mono ?_; rintro e w3 ⟨rfl, hb3⟩; have hb3 := Lib.hid hb3)
          | (go_at_call 7; refine (awake_any w3 ((HGr.out.below hb2.out HGr.out.1).below hb3.out (HGr.out.below hb2.out HGr.out.1).1)).mono ?_; rintro e w4 ⟨rfl, hb4⟩))
        go_ret
        have h1 := HB.out.size
        have h2 := hb2.out.size
        have h3 := hb3.out.size
        exact ⟨rfl, ((HB.out.trans (hb2.out.mono h1)).trans (hb3.out.mono (by omega))).trans (hb4.mono (by omega))⟩
  · go_enter Tryd.func4, Tryd.ntmps4
    go_wp2_with (go_at_call 7; refine (awake_any _ HG.out).mono ?_; rintro e w' ⟨rfl, hb4⟩)
    go_ret
    exact ⟨rfl, hb4⟩
theorem lawunder_law (a : Nat) (A : Option Addr) (c : Nat) (ls : List (List B8)) (w : World) (ha : a < 256) (hL : LstN w A ls) (hm : ls.length ≤ maxLen) (hA : A = none → c = 0) (hc : ls.length ≤ c) (hG : Glob w) :
    Calls Tryd.prog 4 #[.int .u8 (a : Int), .slice A ls.length c] w fun e w' => e = .returned (.bool true) ∧ Below w.heap.size w w' := by
  have h := lawunder_any (BitVec.ofNat 8 a) A c ls w hL hm hG
  have e : bv (BitVec.ofNat 8 a) = .int .u8 (a : Int) := by unfold bv; rw [BitVec.toNat_ofNat, Nat.mod_eq_of_lt (by omega)]
  rwa [e] at h
end Go.Proofs.YteehhhchabiliaaDoor
