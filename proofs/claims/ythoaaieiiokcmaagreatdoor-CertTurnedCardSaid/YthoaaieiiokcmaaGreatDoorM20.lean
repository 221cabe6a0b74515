/- Merged: The document's 'Of': the tag of bytes under a key. The document's 'Sign'; the code's 'Is'. -/
import Derived.Test.YthoaaieiiokcmaaGreatDoorM19
import Derived.Test.YthoaaieiiokcmaaGreatDoorM10
import Derived.Laws.ResultCell
namespace Go.Proofs.YthoaaieiiokcmaaGreatDoor
section
set_option linter.unusedVariables false
open Go.RowKit
theorem of_at (A : Option Addr) (c n : Nat) (b : List B8) (hn : b.length = n) (w : World) (hb : Bts w A b) (hA : A = none → c = 0) (hc : n ≤ c) (hlen : n ≤ 1099511627000) :
    Calls Tryz.prog 64 #[.slice A n c] w fun e w' => e = .returned (.agg ((dig b).map bv).toArray) ∧ Below w.heap.size w w' := by
  subst hn; exact of_any A c b w hb hA hc hlen
/-- A row of one's own that has cells. -/
theorem own_open {w : World} {B n : Nat} {v : Value} {l : List B8} (h : w.ownsRow B 5 1 v n (l.map bv)) (h0 : 0 < n) : ∃ g cap m, v = .slice (some ⟨g, 0, none⟩) m cap ∧ m = n ∧ n ≤ cap ∧ B ≤ g ∧ g < w.heap.size ∧ Bts w (some ⟨g, 0, none⟩) l := by
  rcases h.2 with ⟨_, hn⟩ | ⟨g, cap, cur, rfl, hB, hg, hc, _⟩
  · omega
  · exact ⟨g, cap, n, rfl, rfl, hc, hB, lt_of_block hg, own_bts h⟩
theorem padK_lt (K : List B8) (k : Nat) (h : k < K.length) : (padK K)[k]? = some K[k] := by
  unfold padK; rw [List.getElem?_append_left h, List.getElem?_eq_getElem h]
theorem padK_ge (K : List B8) (k : Nat) (h : K.length ≤ k) (h64 : k < 64) : (padK K)[k]? = some 0 := by
  unfold padK zeros; rw [List.getElem?_append_right h, List.getElem?_replicate, if_pos (by omega)]
theorem turn_next (x y : B8) (l : List B8) (k : Nat) (h : l[k]? = some y) : ((turnK x l).take (k + 1)).map bv = ((turnK x l).take k).map bv ++ [bv (y ^^^ x)] := by
  rw [List.take_add_one, List.map_append]
  unfold turnK
  rw [List.getElem?_map, h]; rfl
theorem bts_cell {w : World} {A : Option Addr} {xs : List B8} (h : Bts w A xs) (k : Nat) (hk : k < xs.length) : ∃ ad, A = some ad ∧ w.cell? (ad.add k) = some (bv xs[k]) := h k _ (by rw [List.getElem?_map, List.getElem?_eq_getElem hk]; rfl)
theorem xor54 (x : B8) : bits .xor .u8 (x.toNat : Int) 54 = ((x ^^^ 54).toNat : Int) := (bbits x 54).2.2
theorem xor92 (x : B8) : bits .xor .u8 (x.toNat : Int) 92 = ((x ^^^ 92).toNat : Int) := (bbits x 92).2.2
theorem one_at (w : World) (x : Value) (t : TypeId) : ∀ (j : Nat) (u : Value), [x][j]? = some u → (w.alloc (.cells #[x] t)).cell? ((⟨w.heap.size, 0, none⟩ : Addr).add j) = some u := fun j u h => by
  obtain ⟨ad, e, hc⟩ := one_new w x t j u h
  injection e with e; subst e; exact hc
theorem ne_where {v6 v5 v5' : Value} {n : Nat} (h : v6.ownBlock = none ∨ v6.ownBlock ≠ v5.ownBlock) (h' : v5'.ownBlock = v5.ownBlock ∨ v5'.ownBlock = some n) (hlt : ∀ j, v6.ownBlock = some j → j < n) : v6.ownBlock = none ∨ v6.ownBlock ≠ v5'.ownBlock := by
  rcases h with h | h
  · exact .inl h
  · rcases h' with h' | h'
    · right; rw [h']; exact h
    · cases hv : v6.ownBlock with
      | none => exact .inl rfl
      | some j => right; rw [h']; intro e; injection e with e; have := hlt j hv; omega
theorem ne_swap {a b : Value} (h : a.ownBlock = none ∨ a.ownBlock ≠ b.ownBlock) : b.ownBlock = none ∨ b.ownBlock ≠ a.ownBlock := by
  cases hb : b.ownBlock with
  | none => exact .inl rfl
  | some j =>
    right
    rcases h with h | h
    · rw [h]; intro e; cases e
    · rw [hb] at h; exact fun e => h e.symm
set_option maxRecDepth 100000 in
set_option maxHeartbeats 4000000 in
theorem rtag_any (A A' : Option Addr) (c c' : Nat) (key b : List B8) (w : World) (hK : Bts w A key) (hA0 : A = none → c = 0) (hc : key.length ≤ c) (hB : Bts w A' b) (hA' : A' = none → c' = 0) (hc' : b.length ≤ c') (hk : key.length ≤ 1000000) (hb : b.length ≤ 1000000) :
    Calls Tryz.prog 56 #[.slice A key.length c, .slice A' b.length c'] w fun e w' => e = .returned (.agg ((tagD key b).map bv).toArray) ∧ Below w.heap.size w w' := by
  obtain ⟨i0, hi, hz0, hz1, hz2⟩ := info_parts info_u8
  obtain ⟨C, hC⟩ : ∃ C, C = ((tagD key b).map bv).toArray := ⟨_, rfl⟩
  have hC32 : C.size = 32 := by rw [hC]; simp [tagD_len]
  have H3 := Lib.hid (show C.all (·.oneCell') = true by rw [hC]; exact bvs_one _)
  have H1 := Lib.hid (show (Tryz.prog.info? 24).map (·.size) = some C.size by rw [hC32]; kernel_rfl)
  have H2 := Lib.hid (show ZId.size = C.size by rw [hC32]; rfl)
  obtain ⟨K, hKK⟩ : ∃ K, K = keyK key := ⟨_, rfl⟩
  have HKL := Lib.hid (show K.length ≤ 64 by rw [hKK]; exact keyK_le key)
  obtain ⟨IL, hIL⟩ : ∃ IL, IL = turnK 54 (padK K) := ⟨_, rfl⟩
  obtain ⟨OL, hOL⟩ : ∃ OL, OL = turnK 92 (padK K) := ⟨_, rfl⟩
  have HI64 := Lib.hid (show IL.length = 64 by rw [hIL, turnK_len, padK_len _ HKL.out])
  have HO64 := Lib.hid (show OL.length = 64 by rw [hOL, turnK_len, padK_len _ HKL.out])
  have HIN := Lib.hid (show ∀ k y, (padK K)[k]? = some y → (IL.take (k + 1)).map bv = (IL.take k).map bv ++ [bv (y ^^^ 54)] from fun k y h => by rw [hIL]; exact turn_next 54 y _ k h)
  have HON := Lib.hid (show ∀ k y, (padK K)[k]? = some y → (OL.take (k + 1)).map bv = (OL.take k).map bv ++ [bv (y ^^^ 92)] from fun k y h => by rw [hOL]; exact turn_next 92 y _ k h)
  obtain ⟨DL, hDL⟩ : ∃ DL, DL = dig (IL ++ b) := ⟨_, rfl⟩
  have HD32 := Lib.hid (show DL.length = 32 by rw [hDL]; exact dig_len _)
  obtain ⟨DA, hDA⟩ : ∃ DA, DA = (DL.map bv).toArray := ⟨_, rfl⟩
  have S1 := Lib.hid (fun (g cap n : Nat) (hn : (IL ++ b).length = n) (w : World) (hB : Bts w (some ⟨g, 0, none⟩) (IL ++ b)) (hc : n ≤ cap) => of_at (some ⟨g, 0, none⟩) cap n (IL ++ b) hn w hB (fun h => by cases h) hc (by rw [← hn, List.length_append, HI64.out]; omega))
  have S2 := Lib.hid (fun (g cap n : Nat) (hn : (OL ++ DL).length = n) (w : World) (hB : Bts w (some ⟨g, 0, none⟩) (OL ++ DL)) (hc : n ≤ cap) => of_at (some ⟨g, 0, none⟩) cap n (OL ++ DL) hn w hB (fun h => by cases h) hc (by rw [← hn, List.length_append, HO64.out, HD32.out]; omega))
  have R1 := Lib.hid (fun w => rbytesId_any DL w HD32.out)
  rw [← hDL, ← hDA] at S1
  rw [← hDA] at R1
  rw [show dig (OL ++ DL) = tagD key b by rw [hOL, hDL, hIL, hKK]; rfl, ← hC] at S2
  rw [← hC]
  obtain ⟨w1, hw1⟩ : ∃ w1, w1 = w.alloc (.cells ZId 24) := ⟨_, rfl⟩
  have hb1 : Below w.heap.size w w1 := by rw [hw1]; exact (Below.refl _ _).alloc (Nat.le_refl _) _
  have HS1 := Lib.hid (show w1.heap.size = w.heap.size + 1 by rw [hw1]; simp)
  have HB1 := Lib.hid hb1
  have HZ1 := Lib.hid (show w1.heap[w.heap.size]? = some (.cells ZId 24 (0, 0)) by rw [hw1]; exact heap_alloc_new _ _)
  have HK1 := Lib.hid (hK.below hb1)
  have HX1 := Lib.hid (hB.below hb1)
  have HA0 := Lib.hid hA0
  have HA' := Lib.hid hA'
  clear hIL hOL hDL hDA hC hC32 hb1 hK hB hA0 hA'
  by_cases hlong : 64 < key.length
  · have hKd : K = dig key := by rw [hKK]; unfold keyK; rw [if_pos hlong]
    obtain ⟨KA, hKA⟩ : ∃ KA, KA = (K.map bv).toArray := ⟨_, rfl⟩
    have R0 := Lib.hid (fun w => rbytesId_any K w (by rw [hKd]; exact dig_len _))
    have S0 := Lib.hid (fun w hB => of_any A c key w hB HA0.out hc (by omega))
    rw [← hKd, ← hKA] at S0
    rw [← hKA] at R0
    have HKn := Lib.hid (show K.length = 32 by rw [hKd]; exact dig_len _)
    clear hKK hKd hKA
    go_enter Tryz.func56, Tryz.ntmps56
    go_upto_region 1 with fail
    change Code.wp _ _ _ _ (w.alloc (.cells ZId 24))
    rw [← hw1]
    clear hw1
    go_wp2_with (go_at_call 64; refine stop ?_)
    unfold Stop
    refine (S0.out w1 HK1.out).mono ?_
    rintro e w2 ⟨rfl, hb2⟩
    have HB2 := Lib.hid hb2
    clear hb2
    go_wp2_with (go_at_call 57; refine stop ?_)
    unfold Stop
    refine (R0.out w2).mono ?_
    rintro e wl ⟨v0, rfl, ho0, hb3⟩
    obtain ⟨g0, ck, n, rfl, hn, hcn, hBg, hgl, hbt⟩ := own_open ho0 (by omega)
    have hb1l : Below w1.heap.size w1 wl := HB2.out.trans (hb3.mono HB2.out.size)
    have HKL2 := Lib.hid (show Bts wl (some ⟨g0, 0, none⟩) K from hbt)
    have HN := Lib.hid (show n = K.length from hn.trans HKn.out.symm)
    have HXl := Lib.hid (HX1.out.below hb1l)
    have HZl := Lib.hid (heap_below hb1l HZ1.out)
    have HBl := Lib.hid (HB1.out.trans (hb1l.mono HB1.out.size))
    have hsl : w.heap.size < wl.heap.size := by have := hb1l.size; rw [HS1.out] at this; omega
    obtain ⟨Ak, hAk⟩ : ∃ Ak : Option Addr, Ak = some ⟨g0, 0, none⟩ := ⟨_, rfl⟩
    rw [← hAk] at HKL2 ⊢
    clear ho0 hb3 hn hcn hBg hgl hbt hb1l HB2 hAk HX1 HZ1 HB1 HK1 S0 R0
    go_upto_region 4 with fail
    go_wp2_with fail
    go_loopw [5, 6, 7, 8] (fun v5 v6 i _ wr => ∃ k : Nat, k ≤ 64 ∧ i = .int .i64 k ∧ wr.ownsRow wl.heap.size 5 1 v5 k ((IL.take k).map bv) ∧ wr.ownsRow wl.heap.size 5 1 v6 k ((OL.take k).map bv) ∧ (v6.ownBlock = none ∨ v6.ownBlock ≠ v5.ownBlock) ∧ Below wl.heap.size wl wr) (fun _ _ i _ _ => 64 - (intOf i).toNat)
    case atStart => exact ⟨0, Nat.zero_le _, rfl, World.ownsRow_nil _ _ _ _, World.ownsRow_nil _ _ _ _, .inl rfl, Below.refl _ _⟩
    case round =>
      obtain ⟨k, hk, rfl, ho5, ho6, hne, hbr⟩ := hrel
      have HO5 := Lib.hid ho5
      have HO6 := Lib.hid ho6
      have HNE := Lib.hid hne
      have HBr := Lib.hid hbr
      clear ho5 ho6 hne
      have hsz : wl.heap.size ≤ wr.heap.size := hbr.size
      by_cases hlt : k < 64
      · obtain ⟨y, hy, hcy⟩ : ∃ y : B8, (padK K)[k]? = some y ∧ ((k < n ∧ ∃ ad, Ak = some ad ∧ wr.cell? (ad.add k) = some (bv y)) ∨ (n ≤ k ∧ y = 0)) := by
          by_cases hkn : k < n
          · have hkK : k < K.length := by rw [← HN.out]; exact hkn
            obtain ⟨ad, e, hcc⟩ := bts_cell (HKL2.out.below hbr) k hkK
            exact ⟨K[k], padK_lt K k hkK, .inl ⟨hkn, ad, e, hcc⟩⟩
          · exact ⟨0, padK_ge K k (by rw [← HN.out]; omega) hlt, .inr ⟨by omega, rfl⟩⟩
        have HI1 := Lib.hid (HIN.out k y hy)
        have HO1 := Lib.hid (HON.out k y hy)
        have x54 := xor54 y
        have x92 := xor92 y
        clear hbr hy
        rcases hcy with ⟨hkn, ad, rfl, hcell⟩ | ⟨hkn, hy0⟩
        · unfold bv at hcell
          go_wp2_with (at_builtin; refine stop ?_)
          unfold Stop
          have ha : Below wr.heap.size wr (wr.alloc (.cells #[bv (y ^^^ 54)] 5)) := (Below.refl _ _).alloc (Nat.le_refl _) _
          have HO5a := Lib.hid (own_below HO5.out ha)
          have HO6a := Lib.hid (own_below HO6.out ha)
          have HBa := Lib.hid (HBr.out.trans (ha.mono hsz))
          clear ha
          refine wpList_append_where (o := ⟨some 31, _, _, _, _, _⟩) rfl _ _ 22 rfl wl.heap.size 5 i0 (.int .u8 0) Tryz.underlying22 hi hz0 hz1 rfl _ k _ rfl HO5a.out ⟨wr.heap.size, 0, none⟩ 1 1 [bv (y ^^^ 54)] rfl rfl (one_at wr (bv (y ^^^ 54)) _) (bv_one [y ^^^ 54]) ?_ ?_ ?_ ?_
          · unfold maxLen; omega
          · rw [hz2]; omega
          · simp; omega
          intro v5' w3 g1 g2 g3
          have HO5b := Lib.hid (show w3.ownsRow wl.heap.size 5 1 v5' (k + 1) ((IL.take (k + 1)).map bv) by rw [HI1.out]; exact g1)
          have HO6b := Lib.hid (World.ownsRow.kept HO6a.out g2 HNE.out)
          have HBb := Lib.hid (HBa.out.grown g2 (by simp; omega) (fun k hk => (HO5a.out.lt k hk).1))
          have hs3 : wl.heap.size ≤ w3.heap.size := HBb.out.size
          have HNE3 := Lib.hid (ne_where HNE.out g3 (fun j hj => (HO6a.out.lt j hj).2))
          clear g1 g2 g3
          go_wp2_with (at_builtin; refine stop ?_)
          unfold Stop
          have ha : Below w3.heap.size w3 (w3.alloc (.cells #[bv (y ^^^ 92)] 5)) := (Below.refl _ _).alloc (Nat.le_refl _) _
          have HO5c := Lib.hid (own_below HO5b.out ha)
          have HO6c := Lib.hid (own_below HO6b.out ha)
          have HBc := Lib.hid (HBb.out.trans (ha.mono hs3))
          clear ha
          refine wpList_append_where (o := ⟨some 36, _, _, _, _, _⟩) rfl _ _ 22 rfl wl.heap.size 5 i0 (.int .u8 0) Tryz.underlying22 hi hz0 hz1 rfl _ k _ rfl HO6c.out ⟨w3.heap.size, 0, none⟩ 1 1 [bv (y ^^^ 92)] rfl rfl (one_at w3 (bv (y ^^^ 92)) _) (bv_one [y ^^^ 92]) ?_ ?_ ?_ ?_
          · unfold maxLen; omega
          · rw [hz2]; omega
          · simp; omega
          intro v6' w4 g1 g2 g3
          have HO6d := Lib.hid (show w4.ownsRow wl.heap.size 5 1 v6' (k + 1) ((OL.take (k + 1)).map bv) by rw [HO1.out]; exact g1)
          have HO5d := Lib.hid (World.ownsRow.kept HO5c.out g2 (ne_swap HNE3.out))
          have HBd := Lib.hid (HBc.out.grown g2 (by simp; omega) (fun k hk => (HO6c.out.lt k hk).1))
          have HNE4 := Lib.hid (ne_swap (ne_where (ne_swap HNE3.out) g3 (fun j hj => (HO5c.out.lt j hj).2)))
          clear g1 g2 g3
          go_wp2_with fail
          go_roundw
          case rel => exact ⟨k + 1, by omega, by go_num, HO5d.out, HO6d.out, HNE4.out, HBd.out⟩
          case measure => simp [intOf]; omega
        · have z54 : bits .xor .u8 0 54 = ((y ^^^ 54).toNat : Int) := by rw [hy0]; exact xor54 0
          have z92 : bits .xor .u8 0 92 = ((y ^^^ 92).toNat : Int) := by rw [hy0]; exact xor92 0
          clear x54 x92 hy0
          go_wp2_with (at_builtin; refine stop ?_)
          unfold Stop
          have ha : Below wr.heap.size wr (wr.alloc (.cells #[bv (y ^^^ 54)] 5)) := (Below.refl _ _).alloc (Nat.le_refl _) _
          have HO5a := Lib.hid (own_below HO5.out ha)
          have HO6a := Lib.hid (own_below HO6.out ha)
          have HBa := Lib.hid (HBr.out.trans (ha.mono hsz))
          clear ha
          refine wpList_append_where (o := ⟨some 31, _, _, _, _, _⟩) rfl _ _ 22 rfl wl.heap.size 5 i0 (.int .u8 0) Tryz.underlying22 hi hz0 hz1 rfl _ k _ rfl HO5a.out ⟨wr.heap.size, 0, none⟩ 1 1 [bv (y ^^^ 54)] rfl rfl (one_at wr (bv (y ^^^ 54)) _) (bv_one [y ^^^ 54]) ?_ ?_ ?_ ?_
          · unfold maxLen; omega
          · rw [hz2]; omega
          · simp; omega
          intro v5' w3 g1 g2 g3
          have HO5b := Lib.hid (show w3.ownsRow wl.heap.size 5 1 v5' (k + 1) ((IL.take (k + 1)).map bv) by rw [HI1.out]; exact g1)
          have HO6b := Lib.hid (World.ownsRow.kept HO6a.out g2 HNE.out)
          have HBb := Lib.hid (HBa.out.grown g2 (by simp; omega) (fun k hk => (HO5a.out.lt k hk).1))
          have hs3 : wl.heap.size ≤ w3.heap.size := HBb.out.size
          have HNE3 := Lib.hid (ne_where HNE.out g3 (fun j hj => (HO6a.out.lt j hj).2))
          clear g1 g2 g3
          go_wp2_with (at_builtin; refine stop ?_)
          unfold Stop
          have ha : Below w3.heap.size w3 (w3.alloc (.cells #[bv (y ^^^ 92)] 5)) := (Below.refl _ _).alloc (Nat.le_refl _) _
          have HO5c := Lib.hid (own_below HO5b.out ha)
          have HO6c := Lib.hid (own_below HO6b.out ha)
          have HBc := Lib.hid (HBb.out.trans (ha.mono hs3))
          clear ha
          refine wpList_append_where (o := ⟨some 36, _, _, _, _, _⟩) rfl _ _ 22 rfl wl.heap.size 5 i0 (.int .u8 0) Tryz.underlying22 hi hz0 hz1 rfl _ k _ rfl HO6c.out ⟨w3.heap.size, 0, none⟩ 1 1 [bv (y ^^^ 92)] rfl rfl (one_at w3 (bv (y ^^^ 92)) _) (bv_one [y ^^^ 92]) ?_ ?_ ?_ ?_
          · unfold maxLen; omega
          · rw [hz2]; omega
          · simp; omega
          intro v6' w4 g1 g2 g3
          have HO6d := Lib.hid (show w4.ownsRow wl.heap.size 5 1 v6' (k + 1) ((OL.take (k + 1)).map bv) by rw [HO1.out]; exact g1)
          have HO5d := Lib.hid (World.ownsRow.kept HO5c.out g2 (ne_swap HNE3.out))
          have HBd := Lib.hid (HBc.out.grown g2 (by simp; omega) (fun k hk => (HO6c.out.lt k hk).1))
          have HNE4 := Lib.hid (ne_swap (ne_where (ne_swap HNE3.out) g3 (fun j hj => (HO5c.out.lt j hj).2)))
          clear g1 g2 g3
          go_wp2_with fail
          go_roundw
          case rel => exact ⟨k + 1, by omega, by go_num, HO5d.out, HO6d.out, HNE4.out, HBd.out⟩
          case measure => simp [intOf]; omega
      · obtain rfl : k = 64 := by omega
        clear hbr
        rw [List.take_of_length_le (by rw [HI64.out]; exact Nat.le_refl _)] at HO5
        rw [List.take_of_length_le (by rw [HO64.out]; exact Nat.le_refl _)] at HO6
        go_wp2_with (at_builtin; refine stop ?_)
        unfold Stop
        refine wpList_append_any (o := ⟨some 40, _, _, _, _, _⟩) rfl _ _ 22 rfl wl.heap.size 5 i0 (.int .u8 0) 1 Tryz.underlying22 hi hz0 hz1 hz2 rfl _ 64 _ rfl HO5.out A' b.length c' (b.map bv) rfl HA'.out (List.length_map ..) (HXl.out.below HBr.out) (bv_one b) ?_ ?_ hsz ?_
        · unfold maxLen; omega
        · omega
        intro v7 w3 g1 g2
        obtain ⟨g7, cap7, m7, rfl, hm7, hcap7, hB7, hlt7, hbt7⟩ := own_open (l := IL ++ b) (by rw [List.map_append]; exact g1) (by omega)
        have HX7 := Lib.hid hbt7
        have HM7 := Lib.hid (show (IL ++ b).length = m7 by rw [List.length_append, HI64.out, hm7])
        have HC7 := Lib.hid (show m7 ≤ cap7 by rw [hm7]; exact hcap7)
        have HO63 := Lib.hid (World.ownsRow.kept HO6.out g2 HNE.out)
        have HB3 := Lib.hid (HBr.out.grown g2 hsz (fun k hk => (HO5.out.lt k hk).1))
        have hs3 : wl.heap.size ≤ w3.heap.size := HB3.out.size
        clear g1 g2 hm7 hcap7 hbt7 HO5 HO6 HNE hB7 hlt7
        go_wp2_with (go_at_call 64; refine stop ?_)
        unfold Stop
        refine (S1.out g7 cap7 m7 HM7.out w3 HX7.out HC7.out).mono ?_
        rintro e w4 ⟨rfl, hb4⟩
        have HO64b := Lib.hid (own_below HO63.out hb4)
        have HB4 := Lib.hid (HB3.out.trans (hb4.mono hs3))
        have hs4 : wl.heap.size ≤ w4.heap.size := HB4.out.size
        clear hb4
        go_wp2_with (go_at_call 57; refine stop ?_)
        unfold Stop
        refine (R1.out w4).mono ?_
        rintro e w5 ⟨v8, rfl, ho8, hb5⟩
        obtain ⟨g8, cap8, m8, rfl, hm8, hcap8, hB8, hlt8, hbt8⟩ := own_open ho8 (by omega)
        have HO65 := Lib.hid (own_below HO64b.out hb5)
        have HB5 := Lib.hid (HB4.out.trans (hb5.mono hs4))
        have hs5 : wl.heap.size ≤ w5.heap.size := HB5.out.size
        have HX8 := Lib.hid hbt8
        have HM8 := Lib.hid (show (DL.map bv).length = m8 by rw [List.length_map, HD32.out, hm8])
        have hm8' : m8 ≤ 32 := by omega
        have hcap8' : m8 ≤ cap8 := by omega
        clear ho8 hb5 hm8 hcap8 hB8 hlt8 hbt8
        go_wp2_with (at_builtin; refine stop ?_)
        unfold Stop
        refine wpList_append_any (o := ⟨some 43, _, _, _, _, _⟩) rfl _ _ 22 rfl wl.heap.size 5 i0 (.int .u8 0) 1 Tryz.underlying22 hi hz0 hz1 hz2 rfl _ 64 _ rfl HO65.out (some ⟨g8, 0, none⟩) m8 cap8 (DL.map bv) rfl (fun h => by cases h) HM8.out HX8.out (bv_one DL) ?_ ?_ hs5 ?_
        · unfold maxLen; omega
        · omega
        intro v9 w6 g1 g2
        obtain ⟨g9, cap9, m9, rfl, hm9, hcap9, hB9, hlt9, hbt9⟩ := own_open (l := OL ++ DL) (by rw [List.map_append]; exact g1) (by omega)
        have HX9 := Lib.hid hbt9
        have HM9 := Lib.hid (show (OL ++ DL).length = m9 by rw [List.length_append, HO64.out, hm9, ← HM8.out, List.length_map])
        have HC9 := Lib.hid (show m9 ≤ cap9 by rw [hm9]; exact hcap9)
        have HB6 := Lib.hid (HB5.out.grown g2 hs5 (fun k hk => (HO65.out.lt k hk).1))
        have hs6 : wl.heap.size ≤ w6.heap.size := HB6.out.size
        clear g1 g2 hm9 hcap9 hbt9 hB9 hlt9
        go_wp2_with (go_at_call 64; refine stop ?_)
        unfold Stop
        refine (S2.out g9 cap9 m9 HM9.out w6 HX9.out HC9.out).mono ?_
        rintro e w9 ⟨rfl, hb9⟩
        have HB9' := Lib.hid (HB6.out.trans (hb9.mono hs6))
        have HA := Lib.hid ((HB9'.out.block w.heap.size hsl).trans HZl.out)
        have HB9 := Lib.hid (HBl.out.trans (HB9'.out.mono (by omega)))
        clear hb9
        go_wp2_with (refine wpList_store_row rfl _ _ _ rfl w.heap.size C rfl rfl _ ZId HA.out H1.out H2.out H3.out ?_)
        have hA2 := setRow_heap w9 w.heap.size ZId C 24 (0, 0) HA.out
        refine bodyPost_ret (v := .agg C) ?_ rfl ⟨rfl, below_setRow HB9.out (Nat.le_refl _) C⟩
        exact results_cell_row Tryz.results56 _ _ w.heap.size _ C (0, 0) _ rfl hA2 Tryz.underlying24 rfl H1.out
  · have hKd : K = key := by rw [hKK]; unfold keyK; rw [if_neg hlong]
    go_enter Tryz.func56, Tryz.ntmps56
    go_upto_region 1 with fail
    change Code.wp _ _ _ _ (w.alloc (.cells ZId 24))
    rw [← hw1]
    clear hw1
    obtain ⟨wl, hwl⟩ : ∃ wl, wl = w1 := ⟨_, rfl⟩
    obtain ⟨n, hn⟩ : ∃ n, n = key.length := ⟨_, rfl⟩
    obtain ⟨Ak, hAk⟩ : ∃ Ak, Ak = A := ⟨_, rfl⟩
    obtain ⟨ck, hck⟩ : ∃ ck, ck = c := ⟨_, rfl⟩
    have HKL2 := Lib.hid (show Bts wl Ak K by rw [hwl, hAk, hKd]; exact HK1.out)
    have HN := Lib.hid (show n = K.length by rw [hn, hKd])
    have HXl := Lib.hid (show Bts wl A' b by rw [hwl]; exact HX1.out)
    have HZl := Lib.hid (show wl.heap[w.heap.size]? = some (.cells ZId 24 (0, 0)) by rw [hwl]; exact HZ1.out)
    have HBl := Lib.hid (show Below w.heap.size w wl by rw [hwl]; exact HB1.out)
    have hsl : w.heap.size < wl.heap.size := by rw [hwl, HS1.out]; omega
    rw [← hwl, ← hn, ← hAk, ← hck]
    clear HX1 HZ1 HB1 HK1 hAk hck
    have hn64 : n ≤ 64 := by omega
    clear hn hwl hKd hKK
    go_upto_region 4 with fail
    go_wp2_with fail
    go_loopw [5, 6, 7, 8] (fun v5 v6 i _ wr => ∃ k : Nat, k ≤ 64 ∧ i = .int .i64 k ∧ wr.ownsRow wl.heap.size 5 1 v5 k ((IL.take k).map bv) ∧ wr.ownsRow wl.heap.size 5 1 v6 k ((OL.take k).map bv) ∧ (v6.ownBlock = none ∨ v6.ownBlock ≠ v5.ownBlock) ∧ Below wl.heap.size wl wr) (fun _ _ i _ _ => 64 - (intOf i).toNat)
    case atStart => exact ⟨0, Nat.zero_le _, rfl, World.ownsRow_nil _ _ _ _, World.ownsRow_nil _ _ _ _, .inl rfl, Below.refl _ _⟩
    case round =>
      obtain ⟨k, hk, rfl, ho5, ho6, hne, hbr⟩ := hrel
      have HO5 := Lib.hid ho5
      have HO6 := Lib.hid ho6
      have HNE := Lib.hid hne
      have HBr := Lib.hid hbr
      clear ho5 ho6 hne
      have hsz : wl.heap.size ≤ wr.heap.size := hbr.size
      by_cases hlt : k < 64
      · obtain ⟨y, hy, hcy⟩ : ∃ y : B8, (padK K)[k]? = some y ∧ ((k < n ∧ ∃ ad, Ak = some ad ∧ wr.cell? (ad.add k) = some (bv y)) ∨ (n ≤ k ∧ y = 0)) := by
          by_cases hkn : k < n
          · have hkK : k < K.length := by rw [← HN.out]; exact hkn
            obtain ⟨ad, e, hcc⟩ := bts_cell (HKL2.out.below hbr) k hkK
            exact ⟨K[k], padK_lt K k hkK, .inl ⟨hkn, ad, e, hcc⟩⟩
          · exact ⟨0, padK_ge K k (by rw [← HN.out]; omega) hlt, .inr ⟨by omega, rfl⟩⟩
        have HI1 := Lib.hid (HIN.out k y hy)
        have HO1 := Lib.hid (HON.out k y hy)
        have x54 := xor54 y
        have x92 := xor92 y
        clear hbr hy
        rcases hcy with ⟨hkn, ad, rfl, hcell⟩ | ⟨hkn, hy0⟩
        · unfold bv at hcell
          go_wp2_with (at_builtin; refine stop ?_)
          unfold Stop
          have ha : Below wr.heap.size wr (wr.alloc (.cells #[bv (y ^^^ 54)] 5)) := (Below.refl _ _).alloc (Nat.le_refl _) _
          have HO5a := Lib.hid (own_below HO5.out ha)
          have HO6a := Lib.hid (own_below HO6.out ha)
          have HBa := Lib.hid (HBr.out.trans (ha.mono hsz))
          clear ha
          refine wpList_append_where (o := ⟨some 31, _, _, _, _, _⟩) rfl _ _ 22 rfl wl.heap.size 5 i0 (.int .u8 0) Tryz.underlying22 hi hz0 hz1 rfl _ k _ rfl HO5a.out ⟨wr.heap.size, 0, none⟩ 1 1 [bv (y ^^^ 54)] rfl rfl (one_at wr (bv (y ^^^ 54)) _) (bv_one [y ^^^ 54]) ?_ ?_ ?_ ?_
          · unfold maxLen; omega
          · rw [hz2]; omega
          · simp; omega
          intro v5' w3 g1 g2 g3
          have HO5b := Lib.hid (show w3.ownsRow wl.heap.size 5 1 v5' (k + 1) ((IL.take (k + 1)).map bv) by rw [HI1.out]; exact g1)
          have HO6b := Lib.hid (World.ownsRow.kept HO6a.out g2 HNE.out)
          have HBb := Lib.hid (HBa.out.grown g2 (by simp; omega) (fun k hk => (HO5a.out.lt k hk).1))
          have hs3 : wl.heap.size ≤ w3.heap.size := HBb.out.size
          have HNE3 := Lib.hid (ne_where HNE.out g3 (fun j hj => (HO6a.out.lt j hj).2))
          clear g1 g2 g3
          go_wp2_with (at_builtin; refine stop ?_)
          unfold Stop
          have ha : Below w3.heap.size w3 (w3.alloc (.cells #[bv (y ^^^ 92)] 5)) := (Below.refl _ _).alloc (Nat.le_refl _) _
          have HO5c := Lib.hid (own_below HO5b.out ha)
          have HO6c := Lib.hid (own_below HO6b.out ha)
          have HBc := Lib.hid (HBb.out.trans (ha.mono hs3))
          clear ha
          refine wpList_append_where (o := ⟨some 36, _, _, _, _, _⟩) rfl _ _ 22 rfl wl.heap.size 5 i0 (.int .u8 0) Tryz.underlying22 hi hz0 hz1 rfl _ k _ rfl HO6c.out ⟨w3.heap.size, 0, none⟩ 1 1 [bv (y ^^^ 92)] rfl rfl (one_at w3 (bv (y ^^^ 92)) _) (bv_one [y ^^^ 92]) ?_ ?_ ?_ ?_
          · unfold maxLen; omega
          · rw [hz2]; omega
          · simp; omega
          intro v6' w4 g1 g2 g3
          have HO6d := Lib.hid (show w4.ownsRow wl.heap.size 5 1 v6' (k + 1) ((OL.take (k + 1)).map bv) by rw [HO1.out]; exact g1)
          have HO5d := Lib.hid (World.ownsRow.kept HO5c.out g2 (ne_swap HNE3.out))
          have HBd := Lib.hid (HBc.out.grown g2 (by simp; omega) (fun k hk => (HO6c.out.lt k hk).1))
          have HNE4 := Lib.hid (ne_swap (ne_where (ne_swap HNE3.out) g3 (fun j hj => (HO5c.out.lt j hj).2)))
          clear g1 g2 g3
          go_wp2_with fail
          go_roundw
          case rel => exact ⟨k + 1, by omega, by go_num, HO5d.out, HO6d.out, HNE4.out, HBd.out⟩
          case measure => simp [intOf]; omega
        · have z54 : bits .xor .u8 0 54 = ((y ^^^ 54).toNat : Int) := by rw [hy0]; exact xor54 0
          have z92 : bits .xor .u8 0 92 = ((y ^^^ 92).toNat : Int) := by rw [hy0]; exact xor92 0
          clear x54 x92 hy0
          go_wp2_with (at_builtin; refine stop ?_)
          unfold Stop
          have ha : Below wr.heap.size wr (wr.alloc (.cells #[bv (y ^^^ 54)] 5)) := (Below.refl _ _).alloc (Nat.le_refl _) _
          have HO5a := Lib.hid (own_below HO5.out ha)
          have HO6a := Lib.hid (own_below HO6.out ha)
          have HBa := Lib.hid (HBr.out.trans (ha.mono hsz))
          clear ha
          refine wpList_append_where (o := ⟨some 31, _, _, _, _, _⟩) rfl _ _ 22 rfl wl.heap.size 5 i0 (.int .u8 0) Tryz.underlying22 hi hz0 hz1 rfl _ k _ rfl HO5a.out ⟨wr.heap.size, 0, none⟩ 1 1 [bv (y ^^^ 54)] rfl rfl (one_at wr (bv (y ^^^ 54)) _) (bv_one [y ^^^ 54]) ?_ ?_ ?_ ?_
          · unfold maxLen; omega
          · rw [hz2]; omega
          · simp; omega
          intro v5' w3 g1 g2 g3
          have HO5b := Lib.hid (show w3.ownsRow wl.heap.size 5 1 v5' (k + 1) ((IL.take (k + 1)).map bv) by rw [HI1.out]; exact g1)
          have HO6b := Lib.hid (World.ownsRow.kept HO6a.out g2 HNE.out)
          have HBb := Lib.hid (HBa.out.grown g2 (by simp; omega) (fun k hk => (HO5a.out.lt k hk).1))
          have hs3 : wl.heap.size ≤ w3.heap.size := HBb.out.size
          have HNE3 := Lib.hid (ne_where HNE.out g3 (fun j hj => (HO6a.out.lt j hj).2))
          clear g1 g2 g3
          go_wp2_with (at_builtin; refine stop ?_)
          unfold Stop
          have ha : Below w3.heap.size w3 (w3.alloc (.cells #[bv (y ^^^ 92)] 5)) := (Below.refl _ _).alloc (Nat.le_refl _) _
          have HO5c := Lib.hid (own_below HO5b.out ha)
          have HO6c := Lib.hid (own_below HO6b.out ha)
          have HBc := Lib.hid (HBb.out.trans (ha.mono hs3))
          clear ha
          refine wpList_append_where (o := ⟨some 36, _, _, _, _, _⟩) rfl _ _ 22 rfl wl.heap.size 5 i0 (.int .u8 0) Tryz.underlying22 hi hz0 hz1 rfl _ k _ rfl HO6c.out ⟨w3.heap.size, 0, none⟩ 1 1 [bv (y ^^^ 92)] rfl rfl (one_at w3 (bv (y ^^^ 92)) _) (bv_one [y ^^^ 92]) ?_ ?_ ?_ ?_
          · unfold maxLen; omega
          · rw [hz2]; omega
          · simp; omega
          intro v6' w4 g1 g2 g3
          have HO6d := Lib.hid (show w4.ownsRow wl.heap.size 5 1 v6' (k + 1) ((OL.take (k + 1)).map bv) by rw [HO1.out]; exact g1)
          have HO5d := Lib.hid (World.ownsRow.kept HO5c.out g2 (ne_swap HNE3.out))
          have HBd := Lib.hid (HBc.out.grown g2 (by simp; omega) (fun k hk => (HO6c.out.lt k hk).1))
          have HNE4 := Lib.hid (ne_swap (ne_where (ne_swap HNE3.out) g3 (fun j hj => (HO5c.out.lt j hj).2)))
          clear g1 g2 g3
          go_wp2_with fail
          go_roundw
          case rel => exact ⟨k + 1, by omega, by go_num, HO5d.out, HO6d.out, HNE4.out, HBd.out⟩
          case measure => simp [intOf]; omega
      · obtain rfl : k = 64 := by omega
        clear hbr
        rw [List.take_of_length_le (by rw [HI64.out]; exact Nat.le_refl _)] at HO5
        rw [List.take_of_length_le (by rw [HO64.out]; exact Nat.le_refl _)] at HO6
        go_wp2_with (at_builtin; refine stop ?_)
        unfold Stop
        refine wpList_append_any (o := ⟨some 40, _, _, _, _, _⟩) rfl _ _ 22 rfl wl.heap.size 5 i0 (.int .u8 0) 1 Tryz.underlying22 hi hz0 hz1 hz2 rfl _ 64 _ rfl HO5.out A' b.length c' (b.map bv) rfl HA'.out (List.length_map ..) (HXl.out.below HBr.out) (bv_one b) ?_ ?_ hsz ?_
        · unfold maxLen; omega
        · omega
        intro v7 w3 g1 g2
        obtain ⟨g7, cap7, m7, rfl, hm7, hcap7, hB7, hlt7, hbt7⟩ := own_open (l := IL ++ b) (by rw [List.map_append]; exact g1) (by omega)
        have HX7 := Lib.hid hbt7
        have HM7 := Lib.hid (show (IL ++ b).length = m7 by rw [List.length_append, HI64.out, hm7])
        have HC7 := Lib.hid (show m7 ≤ cap7 by rw [hm7]; exact hcap7)
        have HO63 := Lib.hid (World.ownsRow.kept HO6.out g2 HNE.out)
        have HB3 := Lib.hid (HBr.out.grown g2 hsz (fun k hk => (HO5.out.lt k hk).1))
        have hs3 : wl.heap.size ≤ w3.heap.size := HB3.out.size
        clear g1 g2 hm7 hcap7 hbt7 HO5 HO6 HNE hB7 hlt7
        go_wp2_with (go_at_call 64; refine stop ?_)
        unfold Stop
        refine (S1.out g7 cap7 m7 HM7.out w3 HX7.out HC7.out).mono ?_
        rintro e w4 ⟨rfl, hb4⟩
        have HO64b := Lib.hid (own_below HO63.out hb4)
        have HB4 := Lib.hid (HB3.out.trans (hb4.mono hs3))
        have hs4 : wl.heap.size ≤ w4.heap.size := HB4.out.size
        clear hb4
        go_wp2_with (go_at_call 57; refine stop ?_)
        unfold Stop
        refine (R1.out w4).mono ?_
        rintro e w5 ⟨v8, rfl, ho8, hb5⟩
        obtain ⟨g8, cap8, m8, rfl, hm8, hcap8, hB8, hlt8, hbt8⟩ := own_open ho8 (by omega)
        have HO65 := Lib.hid (own_below HO64b.out hb5)
        have HB5 := Lib.hid (HB4.out.trans (hb5.mono hs4))
        have hs5 : wl.heap.size ≤ w5.heap.size := HB5.out.size
        have HX8 := Lib.hid hbt8
        have HM8 := Lib.hid (show (DL.map bv).length = m8 by rw [List.length_map, HD32.out, hm8])
        have hm8' : m8 ≤ 32 := by omega
        have hcap8' : m8 ≤ cap8 := by omega
        clear ho8 hb5 hm8 hcap8 hB8 hlt8 hbt8
        go_wp2_with (at_builtin; refine stop ?_)
        unfold Stop
        refine wpList_append_any (o := ⟨some 43, _, _, _, _, _⟩) rfl _ _ 22 rfl wl.heap.size 5 i0 (.int .u8 0) 1 Tryz.underlying22 hi hz0 hz1 hz2 rfl _ 64 _ rfl HO65.out (some ⟨g8, 0, none⟩) m8 cap8 (DL.map bv) rfl (fun h => by cases h) HM8.out HX8.out (bv_one DL) ?_ ?_ hs5 ?_
        · unfold maxLen; omega
        · omega
        intro v9 w6 g1 g2
        obtain ⟨g9, cap9, m9, rfl, hm9, hcap9, hB9, hlt9, hbt9⟩ := own_open (l := OL ++ DL) (by rw [List.map_append]; exact g1) (by omega)
        have HX9 := Lib.hid hbt9
        have HM9 := Lib.hid (show (OL ++ DL).length = m9 by rw [List.length_append, HO64.out, hm9, ← HM8.out, List.length_map])
        have HC9 := Lib.hid (show m9 ≤ cap9 by rw [hm9]; exact hcap9)
        have HB6 := Lib.hid (HB5.out.grown g2 hs5 (fun k hk => (HO65.out.lt k hk).1))
        have hs6 : wl.heap.size ≤ w6.heap.size := HB6.out.size
        clear g1 g2 hm9 hcap9 hbt9 hB9 hlt9
        go_wp2_with (go_at_call 64; refine stop ?_)
        unfold Stop
        refine (S2.out g9 cap9 m9 HM9.out w6 HX9.out HC9.out).mono ?_
        rintro e w9 ⟨rfl, hb9⟩
        have HB9' := Lib.hid (HB6.out.trans (hb9.mono hs6))
        have HA := Lib.hid ((HB9'.out.block w.heap.size hsl).trans HZl.out)
        have HB9 := Lib.hid (HBl.out.trans (HB9'.out.mono (by omega)))
        clear hb9
        go_wp2_with (refine wpList_store_row rfl _ _ _ rfl w.heap.size C rfl rfl _ ZId HA.out H1.out H2.out H3.out ?_)
        have hA2 := setRow_heap w9 w.heap.size ZId C 24 (0, 0) HA.out
        refine bodyPost_ret (v := .agg C) ?_ rfl ⟨rfl, below_setRow HB9.out (Nat.le_refl _) C⟩
        exact results_cell_row Tryz.results56 _ _ w.heap.size _ C (0, 0) _ rfl hA2 Tryz.underlying24 rfl H1.out
end
section
set_option linter.unusedVariables false
open Go.RowKit
def keyD (seed : List B8) (k : Nat) : List B8 := tagD seed [BitVec.ofNat 8 k]
def signD (seed : List B8) (k : Nat) (b : List B8) : List B8 := tagD (keyD seed k) b
theorem keyD_len (seed : List B8) (k : Nat) : (keyD seed k).length = 32 := tagD_len _ _
theorem byte_nat (k : Nat) (h : k < 256) : bv (BitVec.ofNat 8 k) = .int .u8 (k : Int) := by
  unfold bv; rw [BitVec.toNat_ofNat, Nat.mod_eq_of_lt (by simpa using h)]
theorem bts_one (w : World) (x : B8) (v : Value) (hv : v = bv x) (t : TypeId) : Bts (w.alloc (.cells #[v] t)) (some ⟨w.heap.size, 0, none⟩) [x] := by
  subst hv
  exact bts_row (xs := [x]) (heap_alloc_new w _)
theorem tagOf_at (A A' : Option Addr) (c c' n n' : Nat) (key b : List B8) (hn : key.length = n) (hn' : b.length = n') (w : World) (hK : Bts w A key) (hc : n ≤ c) (hB : Bts w A' b) (hc' : n' ≤ c') (hG : Glob w) (hk : n ≤ 1000000) (hb : n' ≤ 1000000) :
    Calls Tryz.prog 16 #[.slice A n c, .slice A' n' c'] w fun e w' => e = .returned (.agg ((tagD key b).map bv).toArray) ∧ Below w.heap.size w w' := by
  subst hn hn'; exact tagOf_any A A' c c' key b w hK hc hB hc' hG hk hb
theorem rtag_at (A A' : Option Addr) (c c' n n' : Nat) (key b : List B8) (hn : key.length = n) (hn' : b.length = n') (w : World) (hK : Bts w A key) (hA0 : A = none → c = 0) (hc : n ≤ c) (hB : Bts w A' b) (hA' : A' = none → c' = 0) (hc' : n' ≤ c') (hk : n ≤ 1000000) (hb : n' ≤ 1000000) :
    Calls Tryz.prog 56 #[.slice A n c, .slice A' n' c'] w fun e w' => e = .returned (.agg ((tagD key b).map bv).toArray) ∧ Below w.heap.size w w' := by
  subst hn hn'; exact rtag_any A A' c c' key b w hK hA0 hc hB hA' hc' hk hb
set_option maxRecDepth 100000 in
set_option maxHeartbeats 2000000 in
theorem rsign_any (A A' : Option Addr) (c c' k : Nat) (seed b : List B8) (w : World) (hK : Bts w A seed) (hA0 : A = none → c = 0) (hc : seed.length ≤ c) (hB : Bts w A' b) (hA' : A' = none → c' = 0) (hc' : b.length ≤ c') (hk : seed.length ≤ 1000000) (hb : b.length ≤ 1000000) (hk64 : k < 64) :
    Calls Tryz.prog 20 #[.slice A seed.length c, .int .i64 k, .slice A' b.length c'] w fun e w' => e = .returned (.agg ((signD seed k b).map bv).toArray) ∧ Below w.heap.size w w' := by
  obtain ⟨C, hC⟩ : ∃ C, C = ((signD seed k b).map bv).toArray := ⟨_, rfl⟩
  have hC32 : C.size = 32 := by rw [hC]; simp [signD, tagD_len]
  have H3 := Lib.hid (show C.all (·.oneCell') = true by rw [hC]; exact bvs_one _)
  have H1 := Lib.hid (show (Tryz.prog.info? 24).map (·.size) = some C.size by rw [hC32]; kernel_rfl)
  have H2 := Lib.hid (show ZId.size = C.size by rw [hC32]; rfl)
  obtain ⟨KL, hKL⟩ : ∃ KL, KL = keyD seed k := ⟨_, rfl⟩
  have HK32 := Lib.hid (show KL.length = 32 by rw [hKL]; exact keyD_len _ _)
  obtain ⟨KA, hKA⟩ : ∃ KA, KA = (KL.map bv).toArray := ⟨_, rfl⟩
  have T1 := Lib.hid (fun g (w : World) hK hB => rtag_at A (some ⟨g, 0, none⟩) c 1 seed.length 1 seed [BitVec.ofNat 8 k] rfl rfl w hK hA0 hc hB (fun h => by cases h) (by omega) (by omega) (by omega))
  have R1 := Lib.hid (fun w => rbytesId_any KL w HK32.out)
  have T2 := Lib.hid (fun g cap n (hn : KL.length = n) (w : World) (hK : Bts w (some ⟨g, 0, none⟩) KL) (hcap : n ≤ cap) hB => rtag_at (some ⟨g, 0, none⟩) A' cap c' n b.length KL b hn rfl w hK (fun h => by cases h) hcap hB hA' hc' (by rw [← hn, HK32.out]; omega) (by omega))
  rw [show tagD seed [BitVec.ofNat 8 k] = KL from hKL.symm, ← hKA] at T1
  rw [← hKA] at R1
  rw [show tagD KL b = signD seed k b by rw [hKL]; rfl, ← hC] at T2
  rw [← hC]
  obtain ⟨w1, hw1⟩ : ∃ w1, w1 = w.alloc (.cells ZId 24) := ⟨_, rfl⟩
  have hb1 : Below w.heap.size w w1 := by rw [hw1]; exact (Below.refl _ _).alloc (Nat.le_refl _) _
  have HB1 := Lib.hid hb1
  have HZ1 := Lib.hid (show w1.heap[w.heap.size]? = some (.cells ZId 24 (0, 0)) by rw [hw1]; exact heap_alloc_new _ _)
  have HK1 := Lib.hid (hK.below hb1)
  have HX1 := Lib.hid (hB.below hb1)
  have hkk : (k : Int) % 256 = (k : Int) := by omega
  have HBy := Lib.hid (byte_nat k (by omega))
  clear hC hC32 hKL hKA hb1 hK hB hA0 hA'
  go_enter Tryz.func20, Tryz.ntmps20
  go_upto_region 1 with fail
  change Code.wp _ _ _ _ (w.alloc (.cells ZId 24))
  rw [← hw1]
  clear hw1
  go_wp2_with (go_at_call 56; refine stop ?_)
  unfold Stop
  obtain ⟨w2, hw2⟩ : ∃ w2, w2 = w1.alloc (.cells #[.int .u8 (k : Int)] 5) := ⟨_, rfl⟩
  have hb2 : Below w1.heap.size w1 w2 := by rw [hw2]; exact (Below.refl _ _).alloc (Nat.le_refl _) _
  have hx2 : Bts w2 (some ⟨w1.heap.size, 0, none⟩) [BitVec.ofNat 8 k] := by rw [hw2]; exact bts_one w1 _ _ HBy.out.symm _
  rw [← hw2]
  clear hw2
  refine (T1.out _ w2 (HK1.out.below hb2) hx2).mono ?_
  rintro e w3 ⟨rfl, hb3⟩
  have HB3 := Lib.hid (hb2.trans (hb3.mono hb2.size))
  clear hb2 hx2 hb3
  go_wp2_with (go_at_call 57; refine stop ?_)
  unfold Stop
  refine (R1.out w3).mono ?_
  rintro e w4 ⟨v4, rfl, ho4, hb4⟩
  obtain ⟨g4, cap4, m4, rfl, hm4, hcap4, hB4, hlt4, hbt4⟩ := own_open ho4 (by omega)
  have hb14 : Below w1.heap.size w1 w4 := HB3.out.trans (hb4.mono HB3.out.size)
  have HX4 := Lib.hid (HX1.out.below hb14)
  have HZ4 := Lib.hid (heap_below hb14 HZ1.out)
  have HB4' := Lib.hid (HB1.out.trans (hb14.mono HB1.out.size))
  have HM4 := Lib.hid (show KL.length = m4 by rw [HK32.out, hm4])
  have HC4 := Lib.hid (show m4 ≤ cap4 by rw [hm4]; exact hcap4)
  have HBt4 := Lib.hid hbt4
  clear ho4 hb4 hm4 hcap4 hB4 hlt4 hbt4 hb14
  go_wp2_with (go_at_call 56; refine stop ?_)
  unfold Stop
  refine (T2.out g4 cap4 m4 HM4.out w4 HBt4.out HC4.out HX4.out).mono ?_
  rintro e w9 ⟨rfl, hb9⟩
  have HA := Lib.hid (heap_below hb9 HZ4.out)
  have HB9 := Lib.hid (HB4'.out.trans (hb9.mono HB4'.out.size))
  clear hb9
  go_wp2_with (refine wpList_store_row rfl _ _ _ rfl w.heap.size C rfl rfl _ ZId HA.out H1.out H2.out H3.out ?_)
  have hA2 := setRow_heap w9 w.heap.size ZId C 24 (0, 0) HA.out
  refine bodyPost_ret (v := .agg C) ?_ rfl ⟨rfl, below_setRow HB9.out (Nat.le_refl _) C⟩
  exact results_cell_row Tryz.results20 _ _ w.heap.size _ C (0, 0) _ rfl hA2 Tryz.underlying24 rfl H1.out
end
end Go.Proofs.YthoaaieiiokcmaaGreatDoor
