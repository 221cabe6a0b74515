/- 'ShaOther': its walk. -/
import Derived.Test.YteehhhchabiliaaDoorShaT4
import Derived.Deep.DeepCutAuto
import Derived.Deep.RegionHeld3
import Derived.Deep.AppendLies
import Derived.Deep.RegionLaw
import Derived.Deep.DrawnRows
import Derived.StillTailTactics
set_option linter.unusedVariables false
namespace Go.Proofs.YteehhhchabiliaaDoor
open Go.RowKit Go.ChangeShapes Go.WideShapes Go.ChangeAt
theorem xor_byte (p q : Int) : ∃ y : B8, bits .xor .u8 p q = (y.toNat : Int) :=
  ⟨BitVec.ofInt 8 p ^^^ BitVec.ofInt 8 q, by
    unfold bits
    rw [IntKind.wrap_u8]
    have := (BitVec.ofInt 8 p ^^^ BitVec.ofInt 8 q).isLt
    show (((BitVec.ofInt 8 p ^^^ BitVec.ofInt 8 q).toNat : Nat) : Int) % 256 = _
    omega⟩
theorem wpList_want {P : Program} {ops : Array Oper} {Q : Exit → Act → World → Prop} {a : Act} {w : World} {rest : List Oper} {o : Oper} (hw : Region.wanted o (yielded ops a.tmps) = true) (h : o.wp P a w (wpList P ops Q rest) Q) : wpList P ops Q (o :: rest) a w := by
  unfold wpList; rw [if_pos hw]; exact .inl h
set_option maxRecDepth 100000 in
set_option maxHeartbeats 4000000 in
theorem lawother_any (A : Option Addr) (c : Nat) (b : List B8) (at' : Int) (bt : Nat) (mk : B8) (w : World) (hb : Bts w A b) (hA : A = none → c = 0) (hc : b.length ≤ c) (hm : b.length ≤ maxLen) (hbt : bt < 256) (hG : Glob w) :
    Calls Tryd.prog 5 #[.slice A b.length c, .int .i64 at', .int .u8 (bt : Int), .int .u8 (mk.toNat : Int)] w fun e w' => e = .returned (.bool true) ∧ Below w.heap.size w w' := by
  have HG := Lib.hid hG
  have Hb := Lib.hid hb
  have HA := Lib.hid hA
  clear hG hb hA
  unfold maxLen at hm
  obtain ⟨i0, hi, hz0, hz1, hz2⟩ := info_parts info_u8
  by_cases h300 : b.length ≤ 300 ∧ 1 ≤ b.length
  · obtain ⟨h300, h1⟩ := h300
    have hq1 : decide ((300 : Int) < (b.length : Int)) = false := by simp; omega
    have hq2 : decide ((b.length : Int) < 1) = false := by simp; omega
    obtain ⟨S, hS⟩ : ∃ S, S = Value.slice A b.length c := ⟨_, rfl⟩
    have HS := Lib.hid hS
    have P1 := Lib.hid (fun w => pick_any at' b.length w h1 (by omega))
    go_enter Tryd.func5, Tryd.ntmps5
    go_upto_region 3 with fail
    clear hS hq1 hq2
    go_step
    refine wpList_empty (o := ⟨some 23, _, _, _, _, _⟩) rfl 5 (fun w => by kernel_rfl) ?_
    intro v0 w0 g1 g2
    have hown0 := Lib.hid g1
    have hb0 : Below w.heap.size w w0 := by rw [g2]; exact (Below.refl _ _).alloc (Nat.le_refl _) _
    have hs0 : w.heap.size ≤ w0.heap.size := hb0.size
    have HB0 := Lib.hid hb0
    clear g1 g2 hb0
    iterate 3 go_step
    refine wpList_append_any (o := ⟨some 25, _, _, _, _, _⟩) rfl _ _ 22 rfl w.heap.size 5 i0 (.int .u8 0) 1 Tryd.underlying22 hi hz0 hz1 hz2 rfl v0 0 [] rfl hown0.out A b.length c (b.map bv) rfl HA.out (List.length_map ..) (Hb.out.below HB0.out) (bv_one b) ?_ ?_ ?_ ?_
    · unfold maxLen; omega
    · omega
    · omega
    intro v1 w1 g1 g2
    rw [Nat.zero_add, List.nil_append] at g1
    obtain ⟨g9, c9, rfl, hg9a, hg9b⟩ := g1.form (by omega)
    have HO1 := Lib.hid g1
    have HB1 := Lib.hid (HB0.out.grown g2 (by omega) (fun k hk => (hown0.out.lt k hk).1))
    clear g1 g2 hown0
    go_upto_region 5 with (go_at_call 8; refine (P1.out _).mono ?_; rintro e w' ⟨⟨k, hk, rfl⟩, rfl⟩)
    have hxk : b[k]? = some (b.getD k 0) := by rw [List.getD_eq_getElem?_getD, List.getElem?_eq_getElem hk]; rfl
    obtain ⟨xk, hxk'⟩ : ∃ x, x = b.getD k 0 := ⟨_, rfl⟩
    rw [← hxk'] at hxk
    have c0' : w'.cell? ⟨g9, k, none⟩ = some (.int .u8 (xk.toNat : Int)) := by
      rw [HO1.out.cellAt k (by omega), List.getElem?_map, hxk]; rfl
    have z0' := HO1.out.frozenAt k
    obtain ⟨r, hr⟩ : ∃ r, r = bt % 8 := ⟨_, rfl⟩
    have hr8 : r < 8 := by omega
    have e1 : IntKind.i64.wrap (bt : Int) = (bt : Int) := IntWalk.i64_in _ (by omega)
    have e2 : (bt : Int).tmod 8 = (r : Int) := by rw [Int.tmod_eq_emod_of_nonneg (by omega)]; omega
    have hr0 : (0 : Int) ≤ (r : Int) := by omega
    have hr9 : (r : Int) < 8 := by omega
    clear hr
    clear hxk hxk'
    go_still_tail 12, (by kernel_rfl)
    change wpList _ _ _ _ _ w'.drew
    go_upto_region 6 with fail
    obtain ⟨y, hy⟩ := xor_byte (xk.toNat : Int) (2 ^ r % 256)
    rw [hy]
    generalize IntKind.u8.wrap (2 ^ r) = zz
    generalize bits .xor .u8 (xk.toNat : Int) zz = zz2
    obtain ⟨w2, hw2⟩ : ∃ z, z = (w'.setCell ⟨g9, k, none⟩ (.int .u8 (y.toNat : Int))).drew := ⟨_, rfl⟩
    rw [← hw2]
    obtain ⟨x, hx⟩ : ∃ x, x = b.set k y := ⟨_, rfl⟩
    have hxl : x.length = b.length := by rw [hx]; simp
    have hst := HO1.out.stored k (bv y)
    have HOx := Lib.hid (show w2.ownsRow w.heap.size 5 1 (.slice (some ⟨g9, 0, none⟩) b.length c9) b.length (x.map bv) by
      rw [hw2, hx, List.map_set]; exact hst.1)
    have hB2 : Below w.heap.size w w2 := by
      rw [hw2]
      exact (HB1.out.grown hst.2 HB1.out.size (fun k hk => (HO1.out.lt k hk).1)).drew
    have HB2 := Lib.hid hB2
    have hs2 : w.heap.size ≤ w2.heap.size := hB2.size
    clear hw2 hst hB2 hy c0' z0' e1 e2 hx
    have hxl' := Lib.hid hxl
    have LB := Lib.hid (fun w (h : Bts w A b) => long_any A c b w h HA.out (by omega))
    have Hb2 := Lib.hid (Hb.out.below HB2.out)
    clear hxl
    go_upto_region 7 with (go_at_call 11; refine stop ?_)
    unfold Stop
    refine (LB.out _ (Hb2.out.below ((Below.refl _ _).alloc (Nat.le_refl _) _))).mono ?_
    rintro e w3 ⟨v3, rfl, ho3, hb3'⟩
    obtain ⟨g3, cap3, rfl, hg3a, hg3b⟩ := ho3.form (by omega)
    have HM3 := Lib.hid (own_below (own_new w2 w.heap.size 5 [.int .u8 (mk.toNat : Int)] 1 rfl hs2 (by unfold maxLen; omega)) hb3')
    have HB3 := Lib.hid ((HB2.out.alloc hs2 _).trans (hb3'.mono (by simp; omega)))
    have HOx3 := Lib.hid (own_below HOx.out (((Below.refl w2.heap.size w2).alloc (Nat.le_refl _) _).trans (hb3'.mono (by simp))))
    have HC3 := Lib.hid (fun (j : Nat) (u : Value) (hu : ((longB b).map bv)[j]? = some u) => (⟨⟨g3, 0, none⟩, rfl, ho3.cells rfl j u hu⟩ : ∃ ad, some (⟨g3, 0, none⟩ : Addr) = some ad ∧ w3.cell? (ad.add j) = some u))
    have hs3 : w2.heap.size + 1 ≤ w3.heap.size := by have := hb3'.size; simpa using this
    have hll := long_len b
    clear ho3 hb3'
    go_wp2_with (at_builtin; refine stop ?_)
    unfold Stop
    refine wpList_append_any (o := ⟨some 46, _, _, _, _, _⟩) rfl _ _ 22 rfl w.heap.size 5 i0 (.int .u8 0) 1 Tryd.underlying22 hi hz0 hz1 hz2 rfl _ 1 _ rfl HM3.out (some ⟨g3, 0, none⟩) (4 + b.length) _ ((longB b).map bv) rfl (fun h => by cases h) (by rw [List.length_map, hll]) HC3.out (bv_one _) ?_ ?_ ?_ ?_
    · unfold maxLen; omega
    · omega
    · omega
    intro v4 w4 g1' g2'
    obtain ⟨g4, c4, rfl, hg4a, hg4b⟩ := g1'.form (by omega)
    have hB4 : Below w.heap.size w w4 := HB3.out.grown g2' HB3.out.size (fun k hk => (HM3.out.lt k hk).1)
    have HO4 := Lib.hid (show w4.ownsRow w.heap.size 5 1 (.slice (some ⟨g4, 0, none⟩) (1 + (4 + b.length)) c4) (1 + (4 + b.length)) ((underB mk [b]).map bv) from by
      have e : (underB mk [b]).map bv = [Value.int .u8 (mk.toNat : Int)] ++ (longB b).map bv := by simp [underB, bv]
      rw [e]; exact g1')
    have hgx := (HOx.out.lt g9 rfl).2
    have HOx4 := Lib.hid (HOx3.out.kept g2' (.inr (by show some g9 ≠ some w2.heap.size; intro e; injection e with e; omega)))
    have HB4 := Lib.hid hB4
    have hs4 : w.heap.size ≤ w4.heap.size := hB4.size
    clear g1' g2' hB4 HM3 HOx3 HC3 HB3 HOx HO1 HB1 HB0 hs0 hs2 hs3 hg3a hg3b hg9b hgx HB2 Hb2
    go_upto_region 7 with fail
    have sh := slice_hi A b.length c k (by omega) hc
    have sl := slice_lo A b.length c k (by omega)
    have hk1 : (b.take k).length = k := by simp; omega
    have hk2 : (b.drop k).length = b.length - k := by simp
    obtain ⟨b1, hb1⟩ : ∃ z, z = b.take k := ⟨_, rfl⟩
    obtain ⟨b2, hb2⟩ : ∃ z, z = b.drop k := ⟨_, rfl⟩
    rw [← hb1] at hk1
    rw [← hb2] at hk2
    have L1 := Lib.hid (fun w (h : Bts w A b1) => long_any A c b1 w h HA.out (by omega))
    have L2 := Lib.hid (fun w (h : Bts w (cutA A c k) b2) => long_any (cutA A c k) (c - k) b2 w h (fun h => by
      unfold cutA at h
      split at h
      · omega
      · cases A with
        | none => have := HA.out rfl; omega
        | some a => cases h) (by omega))
    rw [hk1] at L1
    rw [hk2] at L2
    have T1 := Lib.hid (fun w (h : Bts w A b) => show Bts w A b1 by rw [hb1]; exact h.front k)
    have T2 := Lib.hid (fun w (h : Bts w A b) => show Bts w (cutA A c k) b2 by rw [hb2]; exact h.cut c k hc)
    have HbW := Lib.hid (Hb.out.below HB4.out)
    have HK := Lib.hid (And.intro hb1 hb2)
    have N1 := Lib.hid (show ((longB b1).map bv).length = (4 + k) * 1 by rw [List.length_map, long_len, hk1, Nat.mul_one])
    have N2 := Lib.hid (show ((longB b2).map bv).length = (4 + (b.length - k)) * 1 by rw [List.length_map, long_len, hk2, Nat.mul_one])
    have M1 := Lib.hid (show 1 + (4 + k) ≤ maxLen by unfold maxLen; omega)
    have M2 := Lib.hid (show 1 + (4 + k) + (4 + (b.length - k)) ≤ maxLen by unfold maxLen; omega)
    have K1 := Lib.hid (show (1 + (4 + k)) * 1 ≤ 140737488355328 by omega)
    have K2 := Lib.hid (show (1 + (4 + k) + (4 + (b.length - k))) * 1 ≤ 140737488355328 by omega)
    have P0 := Lib.hid (show 0 < 4 + k by omega)
    have P2 := Lib.hid (show 0 < 4 + (b.length - k) by omega)
    have OM := Lib.hid (fun w0 (h : w4.heap.size ≤ w0.heap.size) => own_new w0 w4.heap.size 5 [.int .u8 (mk.toNat : Int)] 1 rfl h (by unfold maxLen; omega))
    have SB := Lib.hid (fun (z : World) (hz : w4.heap.size ≤ z.heap.size) (k : Nat) (hk : (Value.slice (some ⟨z.heap.size, 0, none⟩) 1 1).ownBlock = some k) => show w4.heap.size ≤ k by
      have e : some z.heap.size = some k := hk
      injection e with e
      omega)
    have SC := Lib.hid (fun (z : World) (o : Obj) (hz : w4.heap.size ≤ z.heap.size) => show w4.heap.size ≤ (z.alloc o).heap.size by simp; omega)
    clear hb1 hb2 hk1 hk2
    go_cut [12] (fun v12 wx => (∃ g c2, v12 = .slice (some ⟨g, 0, none⟩) (1 + (4 + k) + (4 + (b.length - k))) c2 ∧ wx.ownsRow w4.heap.size 5 1 v12 (1 + (4 + k) + (4 + (b.length - k))) ((underB mk [b1, b2]).map bv)) ∧
      Below w4.heap.size w4 wx)
    case first =>
      go_region_held3 (fun w' => True) (trivial) (first
        | ((go_at_call 11; ((with_reducible refine (L1.out _ (T1.out _ (HbW.out.below (((Below.refl _ _).alloc (Nat.le_refl _) _).drew)))).mono ?_); rintro e w5 ⟨v5, rfl, ho5, hb5⟩; obtain ⟨g5, c5, h5, -, -⟩ := ho5.form (by omega); have H5 := Lib.hid h5; have H5c := Lib.hid (fun j u hu => ho5.cells (g := g5) (by rw [h5]; rfl) j u hu); have HB5 := Lib.hid ((((Below.refl w4.heap.size w4).alloc (Nat.le_refl _) _).drew).trans (hb5.mono (by simp))); have HM5 := Lib.hid (own_below ((OM.out w4 (Nat.le_refl _)).drew) hb5); clear h5 ho5 hb5)))
        | ((go_at_call 11; ((with_reducible refine (L1.out _ (T1.out _ (HbW.out.below ((Below.refl _ _).drew)))).mono ?_); rintro e w5 ⟨v5, rfl, ho5, hb5⟩; obtain ⟨g5, c5, h5, -, -⟩ := ho5.form (by omega); have H5 := Lib.hid h5; have H5cB := Lib.hid (fun X j u hu => (ho5.alloc X).cells (g := g5) (by rw [h5]; rfl) j u hu); have HB5 := Lib.hid (((Below.refl w4.heap.size w4).drew).trans (hb5.mono (by simp))); have HM5B := Lib.hid (OM.out w5 HB5.out.size); clear h5 ho5 hb5)))
        | ((refine step_append_lies _ (by rfl) _ _ _ (by rfl) w4.heap.size 5 i0 _ 1 1 Tryd.underlying22 hi hz0 hz1 hz2 rfl (by omega) _ 1 _ (by rfl) HM5.out ⟨g5, 0, none⟩ (4 + k) c5 ((longB b1).map bv) (by exact H5.out) N1.out H5c.out (bv_one _) P0.out M1.out K1.out HB5.out.size _ rfl ?_; intro g6 c6 w6 ho6 hg6 hat6 hlt6; (have HO6 := Lib.hid ho6); (have HB6 := Lib.hid (show Below w4.heap.size w4 w6 from HB5.out.grown hg6 HB5.out.size (SB.out w4 (Nat.le_refl _)))); clear ho6 hg6 hat6 hlt6))
        | ((refine step_append_lies _ (by rfl) _ _ _ (by rfl) w4.heap.size 5 i0 _ 1 1 Tryd.underlying22 hi hz0 hz1 hz2 rfl (by omega) _ 1 _ (by rfl) HM5B.out ⟨g5, 0, none⟩ (4 + k) c5 ((longB b1).map bv) (by exact H5.out) N1.out (H5cB.out _) (bv_one _) P0.out M1.out K1.out (SC.out w5 _ HB5.out.size) _ rfl ?_; intro g6 c6 w6 ho6 hg6 hat6 hlt6; (have HO6 := Lib.hid ho6); (have HB6 := Lib.hid (show Below w4.heap.size w4 w6 from (HB5.out.alloc HB5.out.size _).grown hg6 (SC.out w5 _ HB5.out.size) (SB.out w5 HB5.out.size))); clear ho6 hg6 hat6 hlt6))
        | ((go_at_call 11; ((with_reducible refine (L2.out _ (T2.out _ (HbW.out.below HB6.out))).mono ?_); rintro e w7 ⟨v7, rfl, ho7, hb7⟩; obtain ⟨g7, c7, h7, -, -⟩ := ho7.form (by omega); have H7 := Lib.hid h7; have H7c := Lib.hid (fun j u hu => ho7.cells (g := g7) (by rw [h7]; rfl) j u hu); have HB7 := Lib.hid (HB6.out.trans (hb7.mono HB6.out.size)); have HM7 := Lib.hid (own_below HO6.out hb7); clear h7 ho7 hb7)))
        | ((refine step_append_lies _ (by rfl) _ _ _ (by rfl) w4.heap.size 5 i0 _ 1 1 Tryd.underlying22 hi hz0 hz1 hz2 rfl (by omega) _ (1 + (4 + k)) _ (by rfl) HM7.out ⟨g7, 0, none⟩ (4 + (b.length - k)) c7 ((longB b2).map bv) (by exact H7.out) N2.out H7c.out (bv_one _) P2.out M2.out K2.out HB7.out.size _ rfl ?_; intro g8 c8 w8 ho8 hg8 hat8 hlt8; (have HO8 := Lib.hid ho8); (have HB8 := Lib.hid (show Below w4.heap.size w4 w8 from HB7.out.grown hg8 HB7.out.size (fun k hk => (HM7.out.lt k hk).1))); clear ho8 hg8 hat8 hlt8))
        )
      all_goals
        go_wp2_with fail
        go_meet
        case rel => exact ⟨⟨g8, c8, rfl, by
          have e : (underB mk [b1, b2]).map bv = [Value.int .u8 (mk.toNat : Int)] ++ (longB b1).map bv ++ (longB b2).map bv := by simp [underB, bv]
          rw [e]; exact HO8.out⟩, HB8.out⟩
    case rest =>
      obtain ⟨⟨g5, c5, rfl, ho5⟩, hb5⟩ := hcut
      have HO5 := Lib.hid ho5
      have HB5 := Lib.hid (HB4.out.trans (hb5.mono hs4))
      have HO45 := Lib.hid (own_below HO4.out hb5)
      have HOx5 := Lib.hid (own_below HOx4.out hb5)
      have hs5 : w.heap.size ≤ wc.heap.size := HB5.out.size
      have HbC := Lib.hid (Hb.out.below HB5.out)
      obtain ⟨m2, hm2⟩ : ∃ m2 : B8, m2 = mk + 1 := ⟨_, rfl⟩
      have hm2' : ((mk.toNat : Int) + 1) % 256 = (m2.toNat : Int) := by rw [hm2, BitVec.toNat_add]; simp
      have HM2 := Lib.hid hm2'
      clear ho5 hb5 HO4 HOx4 hm2 OM SB SC M1 M2 K1 K2 P0 P2 N1 N2 L1 L2 sh sl hg4a hg4b hg9a
      go_upto_region 9 with (go_at_call 11; refine stop ?_)
      unfold Stop
      rw [hm2']
      refine (LB.out _ (HbC.out.below ((Below.refl _ _).alloc (Nat.le_refl _) _))).mono ?_
      rintro e w6 ⟨v6, rfl, ho6, hb6⟩
      obtain ⟨g6, cap6, rfl, hg6a, hg6b⟩ := ho6.form (by omega)
      have HM6 := Lib.hid (own_below (own_new wc w.heap.size 5 [.int .u8 (m2.toNat : Int)] 1 rfl hs5 (by unfold maxLen; omega)) hb6)
      have HB6 := Lib.hid ((HB5.out.alloc hs5 _).trans (hb6.mono (by simp; omega)))
      have hbc6 : Below wc.heap.size wc w6 := ((Below.refl wc.heap.size wc).alloc (Nat.le_refl _) _).trans (hb6.mono (by simp))
      have HOx6 := Lib.hid (own_below HOx5.out hbc6)
      have HO46 := Lib.hid (own_below HO45.out hbc6)
      have HO56 := Lib.hid (own_below HO5.out hbc6)
      have HC6 := Lib.hid (fun (j : Nat) (u : Value) (hu : ((longB b).map bv)[j]? = some u) => (⟨⟨g6, 0, none⟩, rfl, ho6.cells rfl j u hu⟩ : ∃ ad, some (⟨g6, 0, none⟩ : Addr) = some ad ∧ w6.cell? (ad.add j) = some u))
      have hgx := (HOx5.out.lt g9 rfl).2
      have hg4x := (HO45.out.lt g4 rfl).2
      have hg5x := (HO5.out.lt g5 rfl).2
      clear ho6 hb6 hbc6
      go_wp2_with (at_builtin; refine stop ?_)
      unfold Stop
      refine wpList_append_any (o := ⟨some 64, _, _, _, _, _⟩) rfl _ _ 22 rfl w.heap.size 5 i0 (.int .u8 0) 1 Tryd.underlying22 hi hz0 hz1 hz2 rfl _ 1 _ rfl HM6.out (some ⟨g6, 0, none⟩) (4 + b.length) _ ((longB b).map bv) rfl (fun h => by cases h) (by rw [List.length_map, hll]) HC6.out (bv_one _) ?_ ?_ ?_ ?_
      · unfold maxLen; omega
      · omega
      · exact HB6.out.size
      intro v7 w7 g1' g2'
      obtain ⟨g7, c7, rfl, hg7a, hg7b⟩ := g1'.form (by omega)
      have HB7 := Lib.hid (show Below w.heap.size w w7 from HB6.out.grown g2' HB6.out.size (fun k hk => (HM6.out.lt k hk).1))
      have HO77 := Lib.hid (show w7.ownsRow w.heap.size 5 1 (.slice (some ⟨g7, 0, none⟩) (1 + (4 + b.length)) c7) (1 + (4 + b.length)) ((underB m2 [b]).map bv) from by
        have e : (underB m2 [b]).map bv = [Value.int .u8 (m2.toNat : Int)] ++ (longB b).map bv := by simp [underB, bv]
        rw [e]; exact g1')
      have HOx7 := Lib.hid (HOx6.out.kept g2' (.inr (by show some g9 ≠ some wc.heap.size; intro e; injection e with e; omega)))
      have HO47 := Lib.hid (HO46.out.kept g2' (.inr (by show some g4 ≠ some wc.heap.size; intro e; injection e with e; omega)))
      have HO57 := Lib.hid (HO56.out.kept g2' (.inr (by show some g5 ≠ some wc.heap.size; intro e; injection e with e; omega)))
      clear g1' g2' HM6 HC6 HOx6 HO46 HO56 HOx5 HO45 HO5 hg6a hg6b hgx hg4x hg5x hg7a hg7b
      go_upto_region 9 with fail
      obtain ⟨CB, hCB⟩ : ∃ C, C = ((dig b).map bv).toArray := ⟨_, rfl⟩
      obtain ⟨CX, hCX⟩ : ∃ C, C = ((dig x).map bv).toArray := ⟨_, rfl⟩
      obtain ⟨CN, hCN⟩ : ∃ C, C = ((dig (b ++ [0])).map bv).toArray := ⟨_, rfl⟩
      obtain ⟨C1, hC1⟩ : ∃ C, C = ((dig (underB mk [b])).map bv).toArray := ⟨_, rfl⟩
      obtain ⟨C2, hC2⟩ : ∃ C, C = ((dig (underB mk [b1, b2])).map bv).toArray := ⟨_, rfl⟩
      obtain ⟨C3, hC3⟩ : ∃ C, C = ((dig (underB m2 [b])).map bv).toArray := ⟨_, rfl⟩
      obtain ⟨p1, hp1⟩ : ∃ p, p = decide (dig x = dig b) := ⟨_, rfl⟩
      obtain ⟨p2, hp2⟩ : ∃ p, p = decide (dig (b ++ [0]) = dig b) := ⟨_, rfl⟩
      obtain ⟨p3, hp3⟩ : ∃ p, p = decide (dig (underB mk [b]) = dig (underB mk [b1, b2])) := ⟨_, rfl⟩
      obtain ⟨p4, hp4⟩ : ∃ p, p = decide (dig (underB mk [b]) = dig (underB m2 [b])) := ⟨_, rfl⟩
      have E1 := Lib.hid (fun w => show (Op.equalIn 10000 26 (.agg CX) (.agg CB)).run Tryd.prog w = .ok p1 w by rw [hCX, hCB, hp1]; exact eq_id _ _ (dig_len _) (dig_len _) w)
      have E2 := Lib.hid (fun w => show (Op.equalIn 10000 26 (.agg CN) (.agg CB)).run Tryd.prog w = .ok p2 w by rw [hCN, hCB, hp2]; exact eq_id _ _ (dig_len _) (dig_len _) w)
      have E3 := Lib.hid (fun w => show (Op.equalIn 10000 26 (.agg C1) (.agg C2)).run Tryd.prog w = .ok p3 w by rw [hC1, hC2, hp3]; exact eq_id _ _ (dig_len _) (dig_len _) w)
      have E4 := Lib.hid (fun w => show (Op.equalIn 10000 26 (.agg C1) (.agg C3)).run Tryd.prog w = .ok p4 w by rw [hC1, hC3, hp4]; exact eq_id _ _ (dig_len _) (dig_len _) w)
      have l1 : (underB mk [b]).length = 1 + (4 + b.length) := by simp [underB, long_len]; omega
      have l3 : (underB m2 [b]).length = 1 + (4 + b.length) := by simp [underB, long_len]; omega
      have l2 : (underB mk [b1, b2]).length = 1 + (4 + k) + (4 + (b.length - k)) := by
        rw [HK.out.1, HK.out.2]; simp [underB, long_len]; omega
      have OB := Lib.hid (fun w' (h : Bts w' A b) => of_any A c b w' h HA.out hc (by omega))
      have OX := Lib.hid (fun w' (h : Bts w' (some ⟨g9, 0, none⟩) x) => of_any (some ⟨g9, 0, none⟩) c9 x w' h (fun h => by cases h) (by rw [hxl'.out]; exact own_cap HOx7.out) (by rw [hxl'.out]; omega))
      have O1 := Lib.hid (fun w' (h : Bts w' (some ⟨g4, 0, none⟩) (underB mk [b])) => of_any (some ⟨g4, 0, none⟩) c4 (underB mk [b]) w' h (fun h => by cases h) (by rw [l1]; exact own_cap HO47.out) (by rw [l1]; omega))
      have O2 := Lib.hid (fun w' (h : Bts w' (some ⟨g5, 0, none⟩) (underB mk [b1, b2])) => of_any (some ⟨g5, 0, none⟩) c5 (underB mk [b1, b2]) w' h (fun h => by cases h) (by rw [l2]; exact own_cap HO57.out) (by rw [l2]; omega))
      have O3 := Lib.hid (fun w' (h : Bts w' (some ⟨g7, 0, none⟩) (underB m2 [b])) => of_any (some ⟨g7, 0, none⟩) c7 (underB m2 [b]) w' h (fun h => by cases h) (by rw [l3]; exact own_cap HO77.out) (by rw [l3]; omega))
      rw [hxl'.out] at OX
      rw [l1] at O1
      rw [l2] at O2
      rw [l3] at O3
      rw [← hCB] at OB
      rw [← hCX] at OX
      rw [← hC1] at O1
      rw [← hC2] at O2
      rw [← hC3] at O3
      have ON := Lib.hid (fun (w' : World) (g cc : Nat) (h : Bts w' (some ⟨g, 0, none⟩) (b ++ [0])) (h2 : b.length + 1 ≤ cc) => show Calls Tryd.prog 10 #[.slice (some ⟨g, 0, none⟩) (b.length + 1) cc] w' fun e w'' => e = .returned (.agg CN) ∧ Below w'.heap.size w' w'' by
        have := of_any (some ⟨g, 0, none⟩) cc (b ++ [0]) w' h (fun h => by cases h) (by simpa using h2) (by simp; omega)
        rw [List.length_append, ← hCN] at this
        exact this)
      have BX := Lib.hid (show Bts w7 (some ⟨g9, 0, none⟩) x from fun j u hu => ⟨_, rfl, HOx7.out.cells rfl j u hu⟩)
      have B1 := Lib.hid (show Bts w7 (some ⟨g4, 0, none⟩) (underB mk [b]) from fun j u hu => ⟨_, rfl, HO47.out.cells rfl j u hu⟩)
      have B2 := Lib.hid (show Bts w7 (some ⟨g5, 0, none⟩) (underB mk [b1, b2]) from fun j u hu => ⟨_, rfl, HO57.out.cells rfl j u hu⟩)
      have B3 := Lib.hid (show Bts w7 (some ⟨g7, 0, none⟩) (underB m2 [b]) from fun j u hu => ⟨_, rfl, HO77.out.cells rfl j u hu⟩)
      have BB := Lib.hid (show Bts w7 A b from Hb.out.below HB7.out)
      have HP1 := Lib.hid hp1
      have HP2 := Lib.hid hp2
      have HP3 := Lib.hid hp3
      have HP4 := Lib.hid hp4
      have HCB := Lib.hid hCB
      have HCX := Lib.hid hCX
      have HCN := Lib.hid hCN
      have HC1 := Lib.hid hC1
      have HC2 := Lib.hid hC2
      have HC3 := Lib.hid hC3
      have HCAP := Lib.hid (own_cap HOx7.out)
      clear hCB hCX hCN hC1 hC2 hC3 hp1 hp2 hp3 hp4 l1 l2 l3 HOx7 HO47 HO57 HO77
      go_cut [94] (fun v wx => v = .bool (p1 || (p2 || (p3 || p4))) ∧ Below w7.heap.size w7 wx)
      case first =>
        go_wp2_with (go_at_call 10; refine stop ?_)
        unfold Stop
        refine (OX.out _ (BX.out)).mono ?_
        rintro e w8 ⟨rfl, hb8⟩
        have HW8 := Lib.hid (show Below w7.heap.size w7 w8 from hb8)
        clear hb8
        go_wp2_with (go_at_call 10; refine stop ?_)
        unfold Stop
        refine (OB.out _ (BB.out.below HW8.out)).mono ?_
        rintro e w9 ⟨rfl, hb9⟩
        have HW9 := Lib.hid (show Below w7.heap.size w7 w9 from HW8.out.trans (hb9.mono HW8.out.size))
        clear hb9
        have e1 := E1.out
        cases p1
        case true =>
          go_wp2_with fail
          go_meet
          case rel => exact ⟨rfl, HW9.out⟩
        case false =>
          obtain ⟨ad, hA0⟩ : ∃ ad, A = some ad := by
            obtain ⟨ad, e, -⟩ := BB.out 0 (bv (b.getD 0 0)) (by rw [List.getElem?_map, List.getD_eq_getElem?_getD, List.getElem?_eq_getElem (by omega)]; rfl)
            exact ⟨ad, e⟩
          subst hA0
          go_wp2_with (at_builtin; refine stop ?_)
          unfold Stop
          refine wpList_want (by rfl) ?_
          have hz9 : w7.heap.size ≤ w9.heap.size := HW9.out.size
          have hb10 : Below w7.heap.size w7 (w9.alloc (.cells #[] 5)) := HW9.out.alloc hz9 _
          have HN0 := Lib.hid (BB.out.below hb10)
          have HB10 := Lib.hid hb10
          have HE0 := Lib.hid (own_empty w9 w7.heap.size 5 hz9)
          clear hb10
          refine wp_append_lies _ _ _ 22 rfl w7.heap.size 5 i0 (.int .u8 0) 1 1 Tryd.underlying22 hi hz0 hz1 hz2 rfl (by omega) _ 0 [] rfl HE0.out ad b.length c (b.map bv) rfl (by rw [List.length_map, Nat.mul_one]) (fun j u hu => ?_) (bv_one _) (by omega) (by unfold maxLen; omega) (by omega) (by simp; omega) _ rfl ?_
          · obtain ⟨ad', e, hcl⟩ := HN0.out j u hu
            injection e with e; subst e; exact hcl
          intro g11 c11 w11 g1' g2' hat hlt
          rw [Nat.zero_add, List.nil_append] at g1'
          rw [Nat.zero_add]
          have HO11 := Lib.hid g1'
          have HW11 := Lib.hid (show Below w7.heap.size w7 w11 from HB10.out.grown g2' HB10.out.size (fun k hk => (HE0.out.lt k hk).1))
          clear g1' g2' hat hlt HN0 HB10 HE0
          go_wp2_with (at_builtin; refine stop ?_)
          unfold Stop
          refine wpList_want (by rfl) ?_
          have hz11 : w7.heap.size ≤ w11.heap.size := HW11.out.size
          refine wp_append_lies _ _ _ 22 rfl w7.heap.size 5 i0 (.int .u8 0) 1 1 Tryd.underlying22 hi hz0 hz1 hz2 rfl (by omega) _ b.length (b.map bv) rfl (HO11.out.alloc _) ⟨w11.heap.size, 0, none⟩ 1 1 [.int .u8 0] rfl rfl (World.news_of_block (cs := #[.int .u8 0]) (t := 5) (fr := (0, 0)) (heap_alloc_new w11 _)) (by simp [Value.oneCell']) (by omega) (by unfold maxLen; omega) (by omega) (by simp; omega) _ rfl ?_
          intro g12 c12 w12 g1' g2' hat hlt
          have HO12 := Lib.hid (show w12.ownsRow w7.heap.size 5 1 (.slice (some ⟨g12, 0, none⟩) (b.length + 1) c12) (b.length + 1) ((b ++ [0]).map bv) from by
            have e : (b ++ [0]).map bv = b.map bv ++ [Value.int .u8 0] := by simp [bv]
            rw [e]; exact g1')
          have HW12 := Lib.hid (show Below w7.heap.size w7 w12 from (HW11.out.alloc hz11 _).grown g2' (by simp; omega) (fun k hk => (HO11.out.lt k hk).1))
          clear g1' g2' hat hlt
          go_wp2_with (go_at_call 10; refine stop ?_)
          unfold Stop
          refine (ON.out w12 g12 c12 (fun j u hu => ⟨_, rfl, HO12.out.cells rfl j u hu⟩) (own_cap HO12.out)).mono ?_
          rintro e w13 ⟨rfl, hb13⟩
          have HW13 := Lib.hid (show Below w7.heap.size w7 w13 from HW12.out.trans (hb13.mono HW12.out.size))
          clear hb13 HO12 HO11
          go_wp2_with (go_at_call 10; refine stop ?_)
          unfold Stop
          refine (OB.out _ (BB.out.below HW13.out)).mono ?_
          rintro e w14 ⟨rfl, hb14⟩
          have HW14 := Lib.hid (show Below w7.heap.size w7 w14 from HW13.out.trans (hb14.mono HW13.out.size))
          clear hb14
          have e2 := E2.out
          cases p2
          case true =>
            go_wp2_with fail
            go_meet
            case rel => exact ⟨rfl, HW14.out⟩
          case false =>
            go_wp2_with (go_at_call 10; refine stop ?_)
            unfold Stop
            refine (O1.out _ (B1.out.below HW14.out)).mono ?_
            rintro e w15 ⟨rfl, hb15⟩
            have HW15 := Lib.hid (show Below w7.heap.size w7 w15 from HW14.out.trans (hb15.mono HW14.out.size))
            clear hb15
            go_wp2_with (go_at_call 10; refine stop ?_)
            unfold Stop
            refine (O2.out _ (B2.out.below HW15.out)).mono ?_
            rintro e w16 ⟨rfl, hb16⟩
            have HW16 := Lib.hid (show Below w7.heap.size w7 w16 from HW15.out.trans (hb16.mono HW15.out.size))
            clear hb16
            have e3 := E3.out
            cases p3
            case true =>
              go_wp2_with fail
              go_meet
              case rel => exact ⟨rfl, HW16.out⟩
            case false =>
              go_wp2_with (go_at_call 10; refine stop ?_)
              unfold Stop
              refine (O1.out _ (B1.out.below HW16.out)).mono ?_
              rintro e w17 ⟨rfl, hb17⟩
              have HW17 := Lib.hid (show Below w7.heap.size w7 w17 from HW16.out.trans (hb17.mono HW16.out.size))
              clear hb17
              go_wp2_with (go_at_call 10; refine stop ?_)
              unfold Stop
              refine (O3.out _ (B3.out.below HW17.out)).mono ?_
              rintro e w18 ⟨rfl, hb18⟩
              have HW18 := Lib.hid (show Below w7.heap.size w7 w18 from HW17.out.trans (hb18.mono HW17.out.size))
              clear hb18
              have e4 := E4.out
              cases p4
              case true =>
                go_wp2_with fail
                go_meet
                case rel => exact ⟨rfl, HW18.out⟩
              case false =>
                go_wp2_with fail
                go_meet
                case rel => exact ⟨rfl, HW18.out⟩
      case rest =>
        obtain ⟨rfl, hb9⟩ := hcut
        have HB9 := Lib.hid (HB7.out.trans (hb9.mono HB7.out.size))
        have BX9 := Lib.hid (BX.out.below hb9)
        have HG9 := Lib.hid (HG.out.below HB9.out HG.out.1)
        clear hb9 B1 B2 B3 O1 O2 O3 ON OX OB
        cases hpq : (p1 || (p2 || (p3 || p4)))
        case true =>
          go_wp2_with (go_at_call 7; refine (awake_any _ HG9.out).mono ?_; rintro e w' ⟨rfl, hb4⟩)
          go_ret
          exact ⟨rfl, HB9.out.trans (hb4.mono HB9.out.size)⟩
        case false =>
          simp only [Bool.or_eq_false_iff] at hpq
          obtain ⟨q1, q2, q3, q4⟩ := hpq
          go_upto_region 11 with fail
          have n1 : dig x ≠ dig b := by have h := HP1.out; rw [q1] at h; simpa using h.symm
          have n2 : dig (b ++ [0]) ≠ dig b := by have h := HP2.out; rw [q2] at h; simpa using h.symm
          have n3 : dig (underB mk [b.take k, b.drop k]) ≠ dig (underB mk [b]) := by
            have h := HP3.out
            rw [q3, HK.out.1, HK.out.2] at h
            have h' : ¬ dig (underB mk [b]) = dig (underB mk [b.take k, b.drop k]) := by simpa using h.symm
            exact fun e => h' e.symm
          have n4 : dig (underB mk [b]) ≠ dig (underB m2 [b]) := by have h := HP4.out; rw [q4] at h; simpa using h.symm
          refine other11 A c b k x g9 c9 mk m2 wc _ _ _ _ _ _ _ _ _ _ _ _ _ _ _ _ _ _ _ _ _ _ _ _ _ _ _ _ _ _ _ _ _ _ _ _ _ _ _ _ _ _ _ _ _ _ _ _ _ _ _ _ _ _ _ _ _ _ _ _ _ _ _ _ _ _ _ _ _ _ _ _ _ _ _ _ _ _ _ _ _ _ _ _ _ _ _ _ _ _ _ _ _ _ _ _ _ _ _ _ _ _ _ _ _ _ _ _ _ _ _ _ _ _ _ _ _ _ _ _ _ _ _ _ _ _ _ _ _ _ _ _ _ _ _ _ _ _ _ _ _ hk h300 hxl'.out hc HCAP.out HM2.out n1 n2 n3 n4 HG9.out (Hb.out.below HB9.out) BX9.out ?_
          intro u96 u97 u98 u99 u100 u101 u102 u103 u104 u105 u106 u107 u108 u109 u110 u111 u112 u113 u114 u115 u116 u117 u118 u119 u120 u121 u122 u123 u124 u125 u126 u127 u128 u129 u130 u131 u132 u133 u134 u135 u136 u137 u138 u139 u140 u141 u142 u143 w9 hs
          have HS := Lib.hid (stp_start hs (Below.refl _ _))
          clear hs n1 n2 n3 n4 q1 q2 q3 q4
          go_wp2_with fail
          go_ret
          exact ⟨rfl, HB9.out.trans (HS.out.mono HB9.out.size)⟩
  · have hq : (decide ((300 : Int) < (b.length : Int)) || decide ((b.length : Int) < 1)) = true := by simp; omega
    by_cases h3 : b.length ≤ 300
    · have h0 : b.length < 1 := by omega
      go_enter Tryd.func5, Tryd.ntmps5
      go_wp2_with (go_at_call 7; refine (awake_any _ HG.out).mono ?_; rintro e w' ⟨rfl, hb4⟩)
      go_ret
      exact ⟨rfl, hb4⟩
    · go_enter Tryd.func5, Tryd.ntmps5
      go_wp2_with (go_at_call 7; refine (awake_any _ HG.out).mono ?_; rintro e w' ⟨rfl, hb4⟩)
      go_ret
      exact ⟨rfl, hb4⟩
theorem lawother_law (A : Option Addr) (c : Nat) (b : List B8) (at' : Int) (bt mk : Nat) (w : World) (hb : Sl w w.heap.size A (b.map bv)) (hm : b.length ≤ maxLen) (hA : A = none → c = 0) (hc : b.length ≤ c) {p : Prop} (_ : p) (hbt : bt < 256) (hmk : mk < 256) (hG : Glob w) :
    Calls Tryd.prog 5 #[.slice A b.length c, .int .i64 at', .int .u8 (bt : Int), .int .u8 (mk : Int)] w fun e w' => e = .returned (.bool true) ∧ Below w.heap.size w w' := by
  have h := lawother_any A c b at' bt (BitVec.ofNat 8 mk) w (Bts.of_sl hb) hA hc hm hbt hG
  have e : (BitVec.ofNat 8 mk).toNat = mk := by rw [BitVec.toNat_ofNat, Nat.mod_eq_of_lt (by omega)]
  rwa [e] at h
end Go.Proofs.YteehhhchabiliaaDoor
