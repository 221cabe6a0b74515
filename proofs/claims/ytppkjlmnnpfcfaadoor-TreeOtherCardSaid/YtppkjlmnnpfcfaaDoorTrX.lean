/- The walk of 'TreeOther'. -/
import Derived.Test.YtppkjlmnnpfcfaaDoorTrW
import Derived.StillTailTactics
set_option linter.unusedVariables false
namespace Go.Proofs.YtppkjlmnnpfcfaaDoor
open Go.RowKit
attribute [local go_sem ↓] loadAt_id
attribute [local go_sem] rowOf_drew rowOf_drewN run_idLoad
theorem own_empty32 (w : World) (E : TypeId) : (w.alloc (.cells #[] E)).ownsRow w.heap.size E 32 (.slice (some ⟨w.heap.size, 0, none⟩) 0 0) 0 [] := ⟨rfl, .inr ⟨w.heap.size, 0, #[], rfl, Nat.le_refl _, heap_alloc_new w _, Nat.le_refl _, by unfold maxLen; omega, rfl, rfl⟩⟩
theorem wpList_empty32 {ops : Array Oper} {rest : List Oper} {o : Oper} {a : Act} {w : World} {Q : Exit → Act → World → Prop} (hgd : o.guard = none) (E : TypeId)
    (hrun : ∀ w, (execOp a.eval o).run Tryd.prog w = .ok (.value (.slice (some ⟨w.heap.size, 0, none⟩) 0 0)) (w.alloc (.cells #[] E)))
    (h : ∀ v1 w1, w1.ownsRow w.heap.size E 32 v1 0 [] → w1 = w.alloc (.cells #[] E) → wpList Tryd.prog ops Q rest (a.put o.dst v1) w1) : wpList Tryd.prog ops Q (o :: rest) a w := by
  refine wpList_plain hgd fun K hK => ?_
  unfold Oper.wp
  rw [hrun w]
  exact hK _ _ (h _ _ (own_empty32 w E) rfl)
set_option maxRecDepth 100000 in
set_option maxHeartbeats 8000000 in
theorem other_any (A : Option Addr) (c : Nat) (ls : List (List B8)) (z : Int) (A' : Option Addr) (c' : Nat) (b : List B8) (tu bt : Nat) (w : World) (hL : LstN w A ls) (hA : A = none → c = 0) (hc : ls.length ≤ c) (hm : ls.length ≤ maxLen)
    (hB : Bts w A' b) (hA' : A' = none → c' = 0) (hc' : b.length ≤ c') (hm' : b.length ≤ maxLen) (htu : tu < 256) (hbt : bt < 256) (hG : Glob w) :
    Calls Tryd.prog 6 #[.slice A ls.length c, .int .i64 z, .slice A' b.length c', .int .u8 (tu : Int), .int .u8 (bt : Int)] w fun e w' => e = .returned (.bool true) ∧ Below w.heap.size w w' := by
  have HG := Lib.hid hG
  have HL := Lib.hid hL
  have HA := Lib.hid hA
  have HX := Lib.hid hB
  have GR := Lib.hid (great_any A c ls w hL hm)
  unfold maxLen at hm hm'
  clear hG hL hA hB
  go_enter Tryd.func6, Tryd.ntmps6
  go_wp2_with (go_at_call 8; refine stop ?_)
  unfold Stop
  refine GR.out.mono ?_
  rintro e w' ⟨⟨r, rfl, hr⟩, hw⟩
  rw [hw]
  clear hw w' GR
  cases r with
  | true =>
    clear hr
    go_wp2_with (go_at_call 9; refine (awake_any _ HG.out).mono ?_; rintro e w' ⟨rfl, hb4⟩)
    go_ret
    exact ⟨rfl, hb4⟩
  | false =>
    obtain ⟨h40, h60'⟩ := hr rfl
    clear hr
    by_cases h1 : ls.length < 1
    · have t1 : decide ((ls.length : Int) < 1) = true := by rw [decide_eq_true_eq]; omega
      clear h60'
      go_wp2_with (go_at_call 9; refine (awake_any _ HG.out).mono ?_; rintro e w' ⟨rfl, hb4⟩)
      go_ret
      exact ⟨rfl, hb4⟩
    have t1 : decide ((ls.length : Int) < 1) = false := by rw [decide_eq_false_iff_not]; omega
    by_cases hb60 : 60 < b.length
    · have t2 : decide ((60 : Int) < (b.length : Int)) = true := by rw [decide_eq_true_eq]; omega
      clear h60'
      go_wp2_with (go_at_call 9; refine (awake_any _ HG.out).mono ?_; rintro e w' ⟨rfl, hb4⟩)
      go_ret
      exact ⟨rfl, hb4⟩
    have t2 : decide ((60 : Int) < (b.length : Int)) = false := by rw [decide_eq_false_iff_not]; omega
    have h60 : ∀ xs ∈ ls, xs.length ≤ 1000000 := fun xs hx => by have := h60' xs hx; omega
    have H60 := Lib.hid h60
    have PK := Lib.hid (fun z w => pick_any z ls.length w (by omega) (by omega))
    have P1 := Lib.hid (fun (k : Nat) w (hL : LstN w A ls) hG => path_any ls.length ls (Nat.le_refl _) (by omega) h60 A c (k : Int) w hL.lst hc hG)
    have R2 := Lib.hid (fun w (hL : LstN w A ls) => rroot_any ls.length ls (Nat.le_refl _) (by omega) h60 A c w hL hc HA.out)
    clear h60 h60'
    go_wp2_with (go_at_call 18; refine stop ?_)
    unfold Stop
    refine (PK.out z _).mono ?_
    rintro e w' ⟨⟨k, hk, rfl⟩, hw⟩
    rw [hw]
    clear hw w'
    go_wp2_with (go_at_call 13; refine stop ?_)
    unfold Stop
    refine (P1.out k _ HL.out HG.out).mono ?_
    rintro e w1 ⟨v8, rfl, ho, hb⟩
    obtain ⟨Ap, cp, rfl⟩ := own_slice ho
    rw [pathZ_nat] at ho
    have hpl := pathD_size ls.length ls k (Nat.le_refl _)
    have hid := pathD_ids ls.length ls k (Nat.le_refl _)
    have HI1 := Lib.hid (IdsAt.of_own ho hid)
    have hpc := own_cap_id ho
    have HB1 := Lib.hid hb
    have HL1 := Lib.hid (HL.out.below hb)
    have HG1 := Lib.hid (glob_below HG.out hb (Nat.le_refl _))
    have HX1 := Lib.hid (HX.out.below hb)
    obtain ⟨pd, hpd⟩ : ∃ pd, pd = pathD ls k := ⟨_, rfl⟩
    obtain ⟨pl, hpl2⟩ : ∃ pl, pl = pd.length := ⟨_, rfl⟩
    rw [pathZ_nat, ← hpd, ← hpl2]
    rw [← hpd] at hpl hid HI1
    rw [← hpd, ← hpl2] at hpc
    have HOW := Lib.hid (show w1.ownsRow w.heap.size 26 32 (.slice Ap pl cp) pl (idsV pd) by rw [hpl2, hpd]; exact ho)
    rw [← hpl2] at hpl
    have HPD := Lib.hid hpd
    have HPL := Lib.hid hpl2
    have HID := Lib.hid hid
    clear ho hb hpd hpl2 hid P1
    obtain ⟨x, hx⟩ : ∃ x, ls[k]? = some x := ⟨_, List.getElem?_eq_getElem hk⟩
    have hx60 := H60.out x (List.mem_of_getElem? hx)
    obtain ⟨ad, Ak, ck, eA, hcx, hck, hAk, hbx⟩ := HL1.out k x hx
    subst eA
    have HE1 := Lib.hid (show Env (some ad) ls k x ad Ak ck Ap pd w1 from ⟨HL1.out, hcx, hbx, HI1.out, HG1.out⟩)
    have hplc : pd.length ≤ cp := by rw [← HPL.out]; exact hpc.1
    have hplm : pd.length ≤ 1000000 := by rw [← HPL.out]; omega
    have CB := Lib.hid (fun (w4 : World) (h : IdsAt w4 Ap pd) (hB : Bts w4 A' b) => rclimb_any A' c' b (k : Int) (ls.length : Int) pd Ap cp w4 hA' hc' (by omega) hplc hplm h hB)
    have IB := Lib.hid (fun (w4 : World) (h : IdsAt w4 Ap pd) (hB : Bts w4 A' b) (hG : Glob w4) => is_any (rootD ls) A' c' b (k : Int) (ls.length : Int) pd Ap cp w4 (rootD_len _) hc' (by omega) hplc hplm h hB hG)
    have BY := Lib.hid (fun (w4 : World) (hB : Bts w4 A' b) (hX : Bts w4 Ak x) => rbytes_any A' Ak c' ck w4.heap.size w4.heap.size b x w4 hB.sl hX.sl (by unfold maxLen; omega) (by unfold maxLen; omega))
    obtain ⟨R, hR⟩ : ∃ R, R = rootD ls := ⟨_, rfl⟩
    have hR32 : R.length = 32 := by rw [hR]; exact rootD_len _
    rw [← hR] at R2 IB
    have hy32 := climbZ_len (b := b) (z := (k : Int)) (zn := (ls.length : Int)) (p := pd)
    have hcb : climbZ b (k : Int) (ls.length : Int) pd = climbD b k ls.length pd := climbZ_nat hk (by omega)
    have hcl : x = b → climbZ b (k : Int) (ls.length : Int) pd = some R := fun e => by
      rw [hcb, ← e, HPD.out, hR]; exact climb_path ls.length ls k x (Nat.le_refl _) (by omega) hx
    rw [isD_eq] at IB
    rw [← HPL.out] at CB IB
    obtain ⟨o, ho⟩ : ∃ o, o = climbZ b (k : Int) (ls.length : Int) pd := ⟨_, rfl⟩
    rw [← ho] at CB IB hy32 hcl
    obtain ⟨y, hy⟩ : ∃ y, y = o.getD (zeros 32) := ⟨_, rfl⟩
    obtain ⟨ob, hob⟩ : ∃ ob, ob = o.isSome := ⟨_, rfl⟩
    have ea : ansV o = .tuple #[.agg (y.map bv).toArray, .bool ob] := by rw [hy, hob]; rfl
    rw [ea] at CB
    rw [← hy, ← hob] at IB
    rw [← hy] at hy32
    obtain ⟨sm, hsm⟩ : ∃ sm, sm = decide (b = x) := ⟨_, rfl⟩
    rw [← hsm] at BY
    have hsmt : sm = true → y = R ∧ ob = true := fun h => by
      rw [hsm] at h
      have e := hcl (of_decide_eq_true h).symm
      rw [hy, hob, e]; exact ⟨rfl, rfl⟩
    have D1 := Lib.hid (show (Tryd.prog.info? 26).map (·.size) = some ((R.map bv).toArray).size by simp only [List.size_toArray, List.length_map, hR32]; kernel_rfl)
    have D2 := Lib.hid (show ZId.size = ((R.map bv).toArray).size by simp only [List.size_toArray, List.length_map, hR32]; rfl)
    have D3 := Lib.hid (bvs_one R)
    have X1 := Lib.hid (show (Tryd.prog.info? 26).map (·.size) = some (R.map bv).length by rw [List.length_map, hR32]; kernel_rfl)
    have E1 := Lib.hid (show (Tryd.prog.info? 26).map (·.size) = some ((y.map bv).toArray).size by simp only [List.size_toArray, List.length_map, hy32]; kernel_rfl)
    have E2 := Lib.hid (show ZId.size = ((y.map bv).toArray).size by simp only [List.size_toArray, List.length_map, hy32]; rfl)
    have E3 := Lib.hid (bvs_one y)
    have eYR := fun w => eq_id y R hy32 hR32 w
    have HR32 := Lib.hid hR32
    have HY32 := Lib.hid hy32
    have HRR := Lib.hid hR
    clear hR hR32 ea hcl hcx hbx HL1 HI1 HG1 HL HG hcb ho hy hob hy32 hsm
    go_upto_region 6 with (first
      | (go_at_call 11; refine (R2.out w1 HE1.out.l).mono ?_; rintro e w2 ⟨rfl, hb⟩; have HB2 := Lib.hid hb; clear hb)
      | (refine wpList_store_row rfl _ _ _ rfl w2.heap.size (R.map bv).toArray rfl rfl 26 _ (heap_alloc_new w2 _) D1.out D2.out D3.out ?_; rw [World.setRow_alloc_new]))
    obtain ⟨w3, hw3⟩ : ∃ w3, w3 = w2.alloc (.cells (R.map bv).toArray 26) := ⟨_, rfl⟩
    have h23 : Below w2.heap.size w2 w3 := by rw [hw3]; exact (Below.refl _ _).alloc (Nat.le_refl _) _
    have h13 := HB2.out.trans (h23.mono HB2.out.size)
    have HB3 := Lib.hid (HB1.out.trans (h13.mono HB1.out.size))
    have HE3 := Lib.hid (HE1.out.below h13)
    have HX3 := Lib.hid (HX1.out.below h13)
    have HO3 := Lib.hid (own_below HOW.out h13)
    have HR3 := Lib.hid (show w3.heap[w2.heap.size]? = some (.cells (R.map bv).toArray 26 (0, 0)) by rw [hw3]; exact heap_alloc_new w2 _)
    rw [← hw3]
    generalize w2.heap.size = g9 at *
    clear hw3 h23 h13 HB1 HB2 HE1 HOW HX1
    have hcell := HE3.out.c
    go_wp2_with (go_at_call 19; refine stop ?_)
    unfold Stop
    refine (BY.out w3 HX3.out HE3.out.x).mono ?_
    rintro e w' ⟨rfl, n, hw⟩
    rw [hw]
    clear hw w' BY hcell
    obtain ⟨w4, hw4⟩ : ∃ w4, w4 = w3.drewN n := ⟨_, rfl⟩
    have hdr : Below w3.heap.size w3 w4 := by rw [hw4]; exact below_drewN (Below.refl _ _)
    have HB4 := Lib.hid (HB3.out.trans (hdr.mono HB3.out.size))
    have HE4 := Lib.hid (HE3.out.below hdr)
    have HX4 := Lib.hid (HX3.out.below hdr)
    have HO4 := Lib.hid (own_below HO3.out hdr)
    have HR4 := Lib.hid (heap_below hdr HR3.out)
    rw [← hw4]
    clear hw4 hdr HB3 HE3 HX3 HO3 HR3
    go_upto_region 8 with (first
      | (go_at_call 16; refine (CB.out w4 HE4.out.p HX4.out).mono ?_; rintro e w5 ⟨rfl, hb⟩; have HB5 := Lib.hid hb; clear hb)
      | (refine wpList_store_row rfl _ _ _ rfl w5.heap.size (y.map bv).toArray rfl rfl 26 _ (heap_alloc_new w5 _) E1.out E2.out E3.out ?_; rw [World.setRow_alloc_new]))
    obtain ⟨w6, hw6⟩ : ∃ w6, w6 = w5.alloc (.cells (y.map bv).toArray 26) := ⟨_, rfl⟩
    have h56 : Below w5.heap.size w5 w6 := by rw [hw6]; exact (Below.refl _ _).alloc (Nat.le_refl _) _
    have h46 := HB5.out.trans (h56.mono HB5.out.size)
    have HB6 := Lib.hid (HB4.out.trans (h46.mono HB4.out.size))
    have HE6 := Lib.hid (HE4.out.below h46)
    have HX6 := Lib.hid (HX4.out.below h46)
    have HO6 := Lib.hid (own_below HO4.out h46)
    have HR6 := Lib.hid (heap_below h46 HR4.out)
    have HY6 := Lib.hid (show w6.heap[w5.heap.size]? = some (.cells (y.map bv).toArray 26 (0, 0)) by rw [hw6]; exact heap_alloc_new w5 _)
    rw [← hw6]
    generalize w5.heap.size = g15 at *
    clear hw6 h56 h46 HB4 HB5 HE4 HX4 HO4 HR4
    have r1 := rowOf_id HR32.out HR6.out
    have r2 := rowOf_id HY32.out HY6.out
    by_cases hbad : sm = false ∧ y = R
    · obtain ⟨rfl, hq⟩ := hbad
      have q1 : ∀ w, (Op.equalIn 10000 26 (.agg (y.map bv).toArray) (.agg (R.map bv).toArray)).run Tryd.prog w = .ok true w := fun w => by rw [eYR w, hq]; simp
      clear eYR hq
      have HG6 := HE6.out.g
      go_wp2_with (go_at_call 9; refine (awake_any _ HE6.out.g).mono ?_; rintro e w' ⟨rfl, hb4⟩)
      go_ret
      exact ⟨rfl, HB6.out.trans (hb4.mono HB6.out.size)⟩
    have q1 : ∀ w, (Op.equalIn 10000 26 (.agg (y.map bv).toArray) (.agg (R.map bv).toArray)).run Tryd.prog w = .ok sm w := fun w => by
      rw [eYR w]
      cases sm with
      | true => rw [(hsmt rfl).1]; simp
      | false => rw [decide_eq_false (fun h => hbad ⟨rfl, h⟩)]
    have his : (ob && decide (y = R)) = sm := by
      cases sm with
      | true => rw [(hsmt rfl).1, (hsmt rfl).2]; simp
      | false => rw [decide_eq_false (fun h => hbad ⟨rfl, h⟩)]; simp
    rw [his] at IB
    clear eYR hsmt hbad his
    have PLX := Lib.hid (show True from trivial)
    cases sm with
    | true =>
      go_wp2_with (go_at_call 17; refine stop ?_)
      unfold Stop
      refine (IB.out w6 HE6.out.p HX6.out HE6.out.g).mono ?_
      rintro e w7 ⟨rfl, hb⟩
      have HB7 := Lib.hid (HB6.out.trans (hb.mono HB6.out.size))
      have HE7 := Lib.hid (HE6.out.below hb)
      have HO7 := Lib.hid (own_below HO6.out hb)
      have HR7 := Lib.hid (heap_below hb HR6.out)
      clear hb HB6 HE6 HO6 HR6 HX6 r1 r2 HY6 q1 IB CB
      by_cases hp0 : pl < 1
      · have t3 : decide ((pl : Int) < 1) = true := by rw [decide_eq_true_eq]; omega
        go_wp2_with (go_at_call 9; refine (awake_any _ HE7.out.g).mono ?_; rintro e w' ⟨rfl, hb4⟩)
        go_ret
        exact ⟨rfl, HB7.out.trans (hb4.mono HB7.out.size)⟩
      have t3 : decide ((pl : Int) < 1) = false := by rw [decide_eq_false_iff_not]; omega
      go_upto_region 14 with fail
      obtain ⟨i0, hi, hz0, hz1, hz2⟩ := info_parts info_id
      obtain ⟨gp, cp', ep, -, hgp⟩ := HO7.out.form (by omega)
      injection ep with ep1 ep2 ep3
      subst ep1
      subst ep3
      go_step
      refine wpList_empty32 (o := ⟨some 79, _, _, _, _, _⟩) rfl 26 (fun w => by kernel_rfl) ?_
      intro v0 w8 g1 g2
      have b3 : Below w7.heap.size w7 w8 := by rw [g2]; exact (Below.refl _ _).alloc (Nat.le_refl _) _
      have HO8 := Lib.hid g1
      have HB8 := Lib.hid b3
      have hs8 : w7.heap.size ≤ w8.heap.size := b3.size
      have HP8 := Lib.hid (own_below HO7.out b3)
      clear g1 g2 b3
      iterate 3 go_step
      refine wpList_append_own (o := ⟨some 81, _, _, _, _, _⟩) w8 rfl _ _ 29 rfl w7.heap.size 26 i0 (.agg ZId) 32 32 Tryd.underlying29 hi hz0 hz1 hz2 (by kernel_rfl) (by decide) v0 0 [] rfl HO8.out ⟨gp, 0, none⟩ pl cp (idsV pd) rfl (by rw [idsV_len pd HID.out, HPL.out]) (HP8.out.cells rfl) (idsV_cells pd) ?_ ?_ ?_ ?_
      · unfold maxLen; omega
      · omega
      · omega
      intro v1 w9 h3 h4 _
      rw [Nat.zero_add, List.nil_append] at h3
      obtain ⟨gq, cq, rfl, hgq1, hgq2⟩ := World.ownsRow.form h3 (by omega)
      have hcq := (own_cap_id h3).1
      have HO9 := Lib.hid h3
      have H79 := Lib.hid (HB8.out.grown h4 (by omega) (fun k hk => (HO8.out.lt k hk).1))
      have hs9 : w7.heap.size ≤ w9.heap.size := H79.out.size
      clear h3 h4 HO8 HP8 HB8
      obtain ⟨i, hi'⟩ : ∃ i, i = tu % pl := ⟨_, rfl⟩
      obtain ⟨r, hr'⟩ : ∃ r, r = bt % 32 := ⟨_, rfl⟩
      have hipl : i < pl := by rw [hi']; exact Nat.mod_lt _ (by omega)
      have hr32 : r < 32 := by rw [hr']; exact Nat.mod_lt _ (by omega)
      have e1 : IntKind.i64.wrap (tu : Int) = (tu : Int) := IntWalk.i64_in _ (by omega)
      have e2 : (tu : Int).tmod (pl : Int) = (i : Int) := by rw [Int.tmod_eq_emod_of_nonneg (by omega), hi']; omega
      have e3 : IntKind.i64.wrap (bt : Int) = (bt : Int) := IntWalk.i64_in _ (by omega)
      have e4 : (bt : Int).tmod 32 = (r : Int) := by rw [Int.tmod_eq_emod_of_nonneg (by omega), hr']; omega
      have hpdi : pd[i]? = some (pd[i]'(by rw [← HPL.out]; exact hipl)) := List.getElem?_eq_getElem _
      obtain ⟨di, hdi⟩ : ∃ d, d = (pd[i]'(by rw [← HPL.out]; exact hipl)) := ⟨_, rfl⟩
      rw [← hdi] at hpdi
      have hdi32 := HID.out di (List.mem_of_getElem? hpdi)
      obtain ⟨xr, hxr⟩ : ∃ xr, di[r]? = some xr := ⟨_, List.getElem?_eq_getElem (by omega)⟩
      have c0' : w9.cell? ⟨gq, i * 32 + r, none⟩ = some (.int .u8 (xr.toNat : Int)) := by
        rw [HO9.out.cellAt (i * 32 + r) (by omega), idsV_at pd HID.out i di hpdi r hr32, List.getElem?_map, hxr]; rfl
      have z0' := HO9.out.frozenAt (i * 32 + r)
      have hx4 : bits .xor .u8 (xr.toNat : Int) 4 = ((xr ^^^ 4).toNat : Int) := (bbits xr 4).2.2
      have hi0 : (0 : Int) ≤ (i : Int) := by omega
      have hi9 : (i : Int) < (pl : Int) := by omega
      have hr0 : (0 : Int) ≤ (r : Int) := by omega
      have hr9 : (r : Int) < 32 := by omega
      have HIP := Lib.hid hpdi
      clear hi' hr' hdi hxr hpdi hdi32
      go_upto_region 16 with fail
      go_still_tail 16, (by kernel_rfl)
      change wpList _ _ _ _ _ w9.drew
      go_upto_region 17 with fail
      have hv : (((BitVec.toNat xr ^^^ 4 : Nat)) : Int) = ((xr ^^^ (4 : B8)).toNat : Int) := by simp
      rw [hv]
      obtain ⟨y4, hy4⟩ : ∃ y4, y4 = xr ^^^ (4 : B8) := ⟨_, rfl⟩
      rw [← hy4]
      have st := HO9.out.stored (i * 32 + r) (bv y4)
      rw [idsV_set pd HID.out i r di y4 HIP.out hr32] at st
      have hq32 := set_len32 (y := y4) (r := r) HID.out HIP.out
      have hqlen : (pd.set i (di.set r y4)).length = pl := by rw [List.length_set, HPL.out]
      generalize pd.set i (di.set r y4) = qd at *
      obtain ⟨w10, hw10⟩ : ∃ w10, w10 = (w9.setCell ⟨gq, i * 32 + r, none⟩ (.int .u8 (y4.toNat : Int))).drew := ⟨_, rfl⟩
      have ho10 : w10.ownsRow w7.heap.size 26 32 (.slice (some ⟨gq, 0, none⟩) pl cq) pl (idsV qd) := by rw [hw10]; exact st.1.drew
      have h710 : Below w7.heap.size w7 w10 := by
        rw [hw10]; exact (H79.out.grown st.2 hs9 (fun k hk => (HO9.out.lt k hk).1)).drew
      rw [← hw10]
      have HB10 := Lib.hid (HB7.out.trans (h710.mono HB7.out.size))
      have HE10 := Lib.hid (HE7.out.below h710)
      have HR10 := Lib.hid (heap_below h710 HR7.out)
      have HQ10 := Lib.hid (IdsAt.of_own ho10 hq32)
      have hql : qd.length ≤ cq := by rw [hqlen]; exact hcq
      have hqm : qd.length ≤ 1000000 := by omega
      have C2 := Lib.hid (fun (w4 : World) (h : IdsAt w4 (some ⟨gq, 0, none⟩) qd) (hX : Bts w4 Ak x) => rclimb_any Ak ck x (k : Int) (ls.length : Int) qd (some ⟨gq, 0, none⟩) cq w4 hAk hck hx60 hql hqm h hX)
      have I2 := Lib.hid (fun (w4 : World) (h : IdsAt w4 (some ⟨gq, 0, none⟩) qd) (hX : Bts w4 Ak x) (hG : Glob w4) => is_any R Ak ck x (k : Int) (ls.length : Int) qd (some ⟨gq, 0, none⟩) cq w4 HR32.out hck hx60 hql hqm h hX hG)
      obtain ⟨A1, hA1⟩ : ∃ A1, A1 = (if cq = 1 then some (⟨gq, 0, none⟩ : Addr) else (some (⟨gq, 0, none⟩ : Addr)).map (·.add (1 * 32))) := ⟨_, rfl⟩
      have hd1 : (qd.drop 1).length = pl - 1 := by rw [List.length_drop, hqlen]
      have I3 := Lib.hid (fun (w4 : World) (h : IdsAt w4 (some ⟨gq, 0, none⟩) qd) (hX : Bts w4 Ak x) (hG : Glob w4) => is_any R Ak ck x (k : Int) (ls.length : Int) (qd.drop 1) A1 (cq - 1) w4 HR32.out hck hx60 (by omega) (by omega) (by rw [hA1]; exact h.cut1 hql) hX hG)
      have hsl : ∀ w, (Instr.slice 29 (.slice (some ⟨gq, 0, none⟩) pl cq) (some (.int .i64 1)) none none).run Tryd.prog w = .ok (.slice A1 (pl - 1) (cq - 1)) w := fun w => by rw [hA1]; exact slicei_lo (some ⟨gq, 0, none⟩) pl cq 1 (by omega) w
      have hn3 : climbZ x (k : Int) (ls.length : Int) (qd.drop 1) = none := by
        rw [climbZ_nat hk (by omega)]
        exact climb_short (ls := ls) rfl (by rw [hd1, ← HPD.out, ← HPL.out]; omega)
      rw [hn3, hd1] at I3
      have hin : isD R none = false := rfl
      rw [hin] at I3
      have hz32 := climbZ_len (b := x) (z := (k : Int)) (zn := (ls.length : Int)) (p := qd)
      rw [isD_eq, hqlen] at I2
      rw [hqlen] at C2
      generalize climbZ x (k : Int) (ls.length : Int) qd = o2 at *
      obtain ⟨y2, hy2⟩ : ∃ y, y = o2.getD (zeros 32) := ⟨_, rfl⟩
      obtain ⟨ob2, hob2⟩ : ∃ ob, ob = o2.isSome := ⟨_, rfl⟩
      have ea2 : ansV o2 = .tuple #[.agg (y2.map bv).toArray, .bool ob2] := by rw [hy2, hob2]; rfl
      rw [ea2] at C2
      rw [← hy2, ← hob2] at I2
      rw [← hy2] at hz32
      have F1 := Lib.hid (show (Tryd.prog.info? 26).map (·.size) = some ((y2.map bv).toArray).size by simp only [List.size_toArray, List.length_map, hz32]; kernel_rfl)
      have F2 := Lib.hid (show ZId.size = ((y2.map bv).toArray).size by simp only [List.size_toArray, List.length_map, hz32]; rfl)
      have F3 := Lib.hid (bvs_one y2)
      have eY2 := fun w => eq_id y2 R hz32 HR32.out w
      have HZ32 := Lib.hid hz32
      have SL := Lib.hid hsl
      clear hw10 ho10 h710 st hq32 hv hy4 hy2 hob2 ea2 hz32 hn3 hin hA1 hd1 hsl HB7 HE7 HR7 HO7 HO9 H79 c0' z0' hx4 e1 e2 e3 e4
      have hcell := HE10.out.c
      go_upto_region 18 with (first
        | (go_at_call 16; refine (C2.out w10 HQ10.out HE10.out.x).mono ?_; rintro e w11 ⟨rfl, hb⟩; have HB11 := Lib.hid hb; clear hb)
        | (refine wpList_store_row rfl _ _ _ rfl w11.heap.size (y2.map bv).toArray rfl rfl 26 _ (heap_alloc_new w11 _) F1.out F2.out F3.out ?_; rw [World.setRow_alloc_new]))
      obtain ⟨w12, hw12⟩ : ∃ w12, w12 = w11.alloc (.cells (y2.map bv).toArray 26) := ⟨_, rfl⟩
      have h1112 : Below w11.heap.size w11 w12 := by rw [hw12]; exact (Below.refl _ _).alloc (Nat.le_refl _) _
      have h1012 := HB11.out.trans (h1112.mono HB11.out.size)
      have HB12 := Lib.hid (HB10.out.trans (h1012.mono HB10.out.size))
      have HE12 := Lib.hid (HE10.out.below h1012)
      have HR12 := Lib.hid (heap_below h1012 HR10.out)
      have HQ12 := Lib.hid (HQ10.out.below h1012)
      have HY12 := Lib.hid (show w12.heap[w11.heap.size]? = some (.cells (y2.map bv).toArray 26 (0, 0)) by rw [hw12]; exact heap_alloc_new w11 _)
      rw [← hw12]
      generalize w11.heap.size = g19 at *
      clear hw12 h1112 h1012 HB10 HB11 HE10 HQ10 HR10 hcell C2
      have r1 := rowOf_id HR32.out HR12.out
      have r2 := rowOf_id HZ32.out HY12.out
      by_cases hq : y2 = R
      · have q1 : ∀ w, (Op.equalIn 10000 26 (.agg (y2.map bv).toArray) (.agg (R.map bv).toArray)).run Tryd.prog w = .ok true w := fun w => by rw [eY2 w, hq]; simp
        clear eY2 hq
        go_wp2_with (go_at_call 9; refine (awake_any _ HE12.out.g).mono ?_; rintro e w' ⟨rfl, hb4⟩)
        go_ret
        exact ⟨rfl, HB12.out.trans (hb4.mono HB12.out.size)⟩
      have q1 : ∀ w, (Op.equalIn 10000 26 (.agg (y2.map bv).toArray) (.agg (R.map bv).toArray)).run Tryd.prog w = .ok false w := fun w => by rw [eY2 w]; simp [hq]
      have hif : (ob2 && decide (y2 = R)) = false := by rw [decide_eq_false hq]; simp
      rw [hif] at I2
      clear eY2 hq hif
      go_upto_region 20 with fail
      have HEd := Lib.hid (show Env (some ad) ls k x ad Ak ck (some ⟨gp, 0, none⟩) pd w12.drew from HE12.out.below (Below.refl _ _).drew)
      have HQd := Lib.hid (show IdsAt w12.drew (some ⟨gq, 0, none⟩) qd from HQ12.out)
      have RR := Lib.hid (show w12.drew.rangeAt g9 0 (R.map bv) from range_row (show w12.drew.heap[g9]? = _ from HR12.out))
      have RRl := Lib.hid (show g9 < w12.drew.heap.size from lt_of_block HR12.out)
      have sl := SL.out
      refine wp_region_rel 147 Stp [.one ?_, .one ?_, .one ?_, .one ?_, .one ?_, .one ?_, .one ?_, .one ?_, .one ?_, .one ?_, .one ?_, .one ?_, .one ?_, .one ?_, .one ?_, .one ?_, .one ?_, .one ?_, .one ?_, .one ?_, .one ?_, .one ?_, .one ?_, .one ?_, .one ?_, .one ?_, .one ?_, .one ?_, .one ?_] (by kernel_rfl) (by kernel_rfl) rfl (by kernel_rfl) Stp.refl Stp.trans trivial ?main
      case main =>
      refine wpR_one (A' := ?_) Stp.refl (by rfl) _ rfl 147 (by rfl) (by rfl) ?_ ?_ ?_
      rotate_left 1
      · simp only [Act.put, List.setIfInBounds_toArray, List.set_cons_zero, List.set_cons_succ]; rfl
      · intro w1 hs hf K hK
        refine cls_load 26 (.tmp 13) rfl (g9) (0) rfl (R.map bv) _ (fun w4 h2 => range_below (range_below RR.out hs RRl.out) h2 (Nat.lt_of_lt_of_le RRl.out (Below.size hs))) Tryd.underlying26 rfl X1.out ?_
        refine hK _ ?_
        simp only [Act.put, List.setIfInBounds_toArray, List.set_cons_zero, List.set_cons_succ]
        rfl
      iterate 3
        refine wpR_one (A' := ?_) Stp.refl (by rfl) _ rfl 147 (by rfl) (by rfl) ?_ ?_ ?_
        rotate_left 1
        · simp only [Act.put, List.setIfInBounds_toArray, List.set_cons_zero, List.set_cons_succ]; rfl
        · intro w1 hs hf K hK
          go_big_quiet_op
          first
            | go_big_quiet_on
            | (refine ⟨_, fun _ _ => rfl, ?_⟩; go_big_quiet_on)
          rfl
      refine wpR_one (A' := ?_) Stp.refl (by rfl) _ rfl 147 (by rfl) (by rfl) ?_ ?_ ?_
      rotate_left 1
      · simp only [Act.put, List.setIfInBounds_toArray, List.set_cons_zero, List.set_cons_succ]; rfl
      · intro w1 hs hf K hK
        refine cls_load_sl (.tmp 122) rfl (ad.add k) rfl Ak x.length ck (fun w4 h2 => (Env.below (HEd.out.below hs) h2).c) ?_
        refine hK _ ?_
        simp only [Act.put, List.setIfInBounds_toArray, List.set_cons_zero, List.set_cons_succ]
        rfl
      iterate 4
        refine wpR_one (A' := ?_) Stp.refl (by rfl) _ rfl 147 (by rfl) (by rfl) ?_ ?_ ?_
        rotate_left 1
        · simp only [Act.put, List.setIfInBounds_toArray, List.set_cons_zero, List.set_cons_succ]; rfl
        · intro w1 hs hf K hK
          go_big_quiet_op
          first
            | go_big_quiet_on
            | (refine ⟨_, fun _ _ => rfl, ?_⟩; go_big_quiet_on)
          rfl
      refine wpR_one (A' := ?_) Stp.refl (by rfl) _ rfl 147 (by rfl) (by rfl) ?_ ?_ ?_
      rotate_left 1
      · simp only [Act.put, List.setIfInBounds_toArray, List.set_cons_zero, List.set_cons_succ]; rfl
      · intro w1 hs hf K hK
        have he1 := Lib.hid (HEd.out.below hs)
        have hq1 := Lib.hid (HQd.out.below hs)
        go_big_quiet_op
        apply Exists.intro
        refine ⟨fun w4 h2 => ?_, ?_⟩
        · refine (I2.out w4 (hq1.out.below h2) (he1.out.below h2).x (he1.out.below h2).g).mono ?_
          rintro e w3 ⟨rfl, h3⟩
          exact ⟨rfl, Stp.trans _ _ _ h2 h3⟩
        · go_big_quiet_on
          rfl
      iterate 2
        refine wpR_one (A' := ?_) Stp.refl (by rfl) _ rfl 147 (by rfl) (by rfl) ?_ ?_ ?_
        rotate_left 1
        · simp only [Act.put, List.setIfInBounds_toArray, List.set_cons_zero, List.set_cons_succ]; rfl
        · intro w1 hs hf K hK
          go_big_quiet_op
          first
            | go_big_quiet_on
            | (refine ⟨_, fun _ _ => rfl, ?_⟩; go_big_quiet_on)
          rfl
      refine wpR_one (A' := ?_) Stp.refl (by rfl) _ rfl 147 (by rfl) (by rfl) ?_ ?_ ?_
      rotate_left 1
      · simp only [Act.put, List.setIfInBounds_toArray, List.set_cons_zero, List.set_cons_succ]; rfl
      · intro w1 hs hf K hK
        refine cls_load 26 (.tmp 13) rfl (g9) (0) rfl (R.map bv) _ (fun w4 h2 => range_below (range_below RR.out hs RRl.out) h2 (Nat.lt_of_lt_of_le RRl.out (Below.size hs))) Tryd.underlying26 rfl X1.out ?_
        refine hK _ ?_
        simp only [Act.put, List.setIfInBounds_toArray, List.set_cons_zero, List.set_cons_succ]
        rfl
      iterate 3
        refine wpR_one (A' := ?_) Stp.refl (by rfl) _ rfl 147 (by rfl) (by rfl) ?_ ?_ ?_
        rotate_left 1
        · simp only [Act.put, List.setIfInBounds_toArray, List.set_cons_zero, List.set_cons_succ]; rfl
        · intro w1 hs hf K hK
          go_big_quiet_op
          first
            | go_big_quiet_on
            | (refine ⟨_, fun _ _ => rfl, ?_⟩; go_big_quiet_on)
          rfl
      refine wpR_one (A' := ?_) Stp.refl (by rfl) _ rfl 147 (by rfl) (by rfl) ?_ ?_ ?_
      rotate_left 1
      · simp only [Act.put, List.setIfInBounds_toArray, List.set_cons_zero, List.set_cons_succ]; rfl
      · intro w1 hs hf K hK
        refine cls_load_sl (.tmp 134) rfl (ad.add k) rfl Ak x.length ck (fun w4 h2 => (Env.below (HEd.out.below hs) h2).c) ?_
        refine hK _ ?_
        simp only [Act.put, List.setIfInBounds_toArray, List.set_cons_zero, List.set_cons_succ]
        rfl
      iterate 5
        refine wpR_one (A' := ?_) Stp.refl (by rfl) _ rfl 147 (by rfl) (by rfl) ?_ ?_ ?_
        rotate_left 1
        · simp only [Act.put, List.setIfInBounds_toArray, List.set_cons_zero, List.set_cons_succ]; rfl
        · intro w1 hs hf K hK
          go_big_quiet_op
          first
            | go_big_quiet_on
            | (refine ⟨_, fun _ _ => rfl, ?_⟩; go_big_quiet_on)
          rfl
      refine wpR_one (A' := ?_) Stp.refl (by rfl) _ rfl 147 (by rfl) (by rfl) ?_ ?_ ?_
      rotate_left 1
      · simp only [Act.put, List.setIfInBounds_toArray, List.set_cons_zero, List.set_cons_succ]; rfl
      · intro w1 hs hf K hK
        have he1 := Lib.hid (HEd.out.below hs)
        have hq1 := Lib.hid (HQd.out.below hs)
        go_big_quiet_op
        apply Exists.intro
        refine ⟨fun w4 h2 => ?_, ?_⟩
        · refine (I3.out w4 (hq1.out.below h2) (he1.out.below h2).x (he1.out.below h2).g).mono ?_
          rintro e w3 ⟨rfl, h3⟩
          exact ⟨rfl, Stp.trans _ _ _ h2 h3⟩
        · go_big_quiet_on
          rfl
      iterate 3
        refine wpR_one (A' := ?_) Stp.refl (by rfl) _ rfl 147 (by rfl) (by rfl) ?_ ?_ ?_
        rotate_left 1
        · simp only [Act.put, List.setIfInBounds_toArray, List.set_cons_zero, List.set_cons_succ]; rfl
        · intro w1 hs hf K hK
          go_big_quiet_op
          first
            | go_big_quiet_on
            | (refine ⟨_, fun _ _ => rfl, ?_⟩; go_big_quiet_on)
          rfl
      refine wpR_one (A' := ?_) Stp.refl (by rfl) _ rfl 147 (by rfl) (by rfl) ?_ ?_ ?_
      rotate_left 1
      · simp only [Act.put, List.setIfInBounds_toArray, List.set_cons_zero, List.set_cons_succ]; rfl
      · intro w1 hs hf K hK
        have he1 := Lib.hid (HEd.out.below hs)
        have hq1 := Lib.hid (HQd.out.below hs)
        go_big_quiet_op
        apply Exists.intro
        refine ⟨fun w4 h2 => ?_, ?_⟩
        · refine (awake_any w4 (he1.out.below h2).g).mono ?_
          rintro e w3 ⟨rfl, h3⟩
          exact ⟨rfl, Stp.trans _ _ _ h2 h3⟩
        · go_big_quiet_on
          rfl
      iterate 2
        refine wpR_one (A' := ?_) Stp.refl (by rfl) _ rfl 147 (by rfl) (by rfl) ?_ ?_ ?_
        rotate_left 1
        · simp only [Act.put, List.setIfInBounds_toArray, List.set_cons_zero, List.set_cons_succ]; rfl
        · intro w1 hs hf K hK
          go_big_quiet_op
          first
            | go_big_quiet_on
            | (refine ⟨_, fun _ _ => rfl, ?_⟩; go_big_quiet_on)
          rfl
      intro w13 hs hf
      have HS := Lib.hid (stp_start hs HB12.out)
      clear hs hf
      go_wp2_with fail
      go_ret
      exact ⟨rfl, HS.out⟩
    | false =>
      go_wp2_with (go_at_call 17; refine stop ?_)
      unfold Stop
      refine (IB.out w6 HE6.out.p HX6.out HE6.out.g).mono ?_
      rintro e w7 ⟨rfl, hb⟩
      have HB7 := Lib.hid (HB6.out.trans (hb.mono HB6.out.size))
      have HE7 := Lib.hid (HE6.out.below hb)
      have HO7 := Lib.hid (own_below HO6.out hb)
      have HR7 := Lib.hid (heap_below hb HR6.out)
      clear hb HB6 HE6 HO6 HR6 HX6 r1 r2 HY6 q1 IB CB
      by_cases hp0 : pl < 1
      · have t3 : decide ((pl : Int) < 1) = true := by rw [decide_eq_true_eq]; omega
        go_wp2_with (go_at_call 9; refine (awake_any _ HE7.out.g).mono ?_; rintro e w' ⟨rfl, hb4⟩)
        go_ret
        exact ⟨rfl, HB7.out.trans (hb4.mono HB7.out.size)⟩
      have t3 : decide ((pl : Int) < 1) = false := by rw [decide_eq_false_iff_not]; omega
      go_upto_region 14 with fail
      obtain ⟨i0, hi, hz0, hz1, hz2⟩ := info_parts info_id
      obtain ⟨gp, cp', ep, -, hgp⟩ := HO7.out.form (by omega)
      injection ep with ep1 ep2 ep3
      subst ep1
      subst ep3
      go_step
      refine wpList_empty32 (o := ⟨some 79, _, _, _, _, _⟩) rfl 26 (fun w => by kernel_rfl) ?_
      intro v0 w8 g1 g2
      have b3 : Below w7.heap.size w7 w8 := by rw [g2]; exact (Below.refl _ _).alloc (Nat.le_refl _) _
      have HO8 := Lib.hid g1
      have HB8 := Lib.hid b3
      have hs8 : w7.heap.size ≤ w8.heap.size := b3.size
      have HP8 := Lib.hid (own_below HO7.out b3)
      clear g1 g2 b3
      iterate 3 go_step
      refine wpList_append_own (o := ⟨some 81, _, _, _, _, _⟩) w8 rfl _ _ 29 rfl w7.heap.size 26 i0 (.agg ZId) 32 32 Tryd.underlying29 hi hz0 hz1 hz2 (by kernel_rfl) (by decide) v0 0 [] rfl HO8.out ⟨gp, 0, none⟩ pl cp (idsV pd) rfl (by rw [idsV_len pd HID.out, HPL.out]) (HP8.out.cells rfl) (idsV_cells pd) ?_ ?_ ?_ ?_
      · unfold maxLen; omega
      · omega
      · omega
      intro v1 w9 h3 h4 _
      rw [Nat.zero_add, List.nil_append] at h3
      obtain ⟨gq, cq, rfl, hgq1, hgq2⟩ := World.ownsRow.form h3 (by omega)
      have hcq := (own_cap_id h3).1
      have HO9 := Lib.hid h3
      have H79 := Lib.hid (HB8.out.grown h4 (by omega) (fun k hk => (HO8.out.lt k hk).1))
      have hs9 : w7.heap.size ≤ w9.heap.size := H79.out.size
      clear h3 h4 HO8 HP8 HB8
      obtain ⟨i, hi'⟩ : ∃ i, i = tu % pl := ⟨_, rfl⟩
      obtain ⟨r, hr'⟩ : ∃ r, r = bt % 32 := ⟨_, rfl⟩
      have hipl : i < pl := by rw [hi']; exact Nat.mod_lt _ (by omega)
      have hr32 : r < 32 := by rw [hr']; exact Nat.mod_lt _ (by omega)
      have e1 : IntKind.i64.wrap (tu : Int) = (tu : Int) := IntWalk.i64_in _ (by omega)
      have e2 : (tu : Int).tmod (pl : Int) = (i : Int) := by rw [Int.tmod_eq_emod_of_nonneg (by omega), hi']; omega
      have e3 : IntKind.i64.wrap (bt : Int) = (bt : Int) := IntWalk.i64_in _ (by omega)
      have e4 : (bt : Int).tmod 32 = (r : Int) := by rw [Int.tmod_eq_emod_of_nonneg (by omega), hr']; omega
      have hpdi : pd[i]? = some (pd[i]'(by rw [← HPL.out]; exact hipl)) := List.getElem?_eq_getElem _
      obtain ⟨di, hdi⟩ : ∃ d, d = (pd[i]'(by rw [← HPL.out]; exact hipl)) := ⟨_, rfl⟩
      rw [← hdi] at hpdi
      have hdi32 := HID.out di (List.mem_of_getElem? hpdi)
      obtain ⟨xr, hxr⟩ : ∃ xr, di[r]? = some xr := ⟨_, List.getElem?_eq_getElem (by omega)⟩
      have c0' : w9.cell? ⟨gq, i * 32 + r, none⟩ = some (.int .u8 (xr.toNat : Int)) := by
        rw [HO9.out.cellAt (i * 32 + r) (by omega), idsV_at pd HID.out i di hpdi r hr32, List.getElem?_map, hxr]; rfl
      have z0' := HO9.out.frozenAt (i * 32 + r)
      have hx4 : bits .xor .u8 (xr.toNat : Int) 4 = ((xr ^^^ 4).toNat : Int) := (bbits xr 4).2.2
      have hi0 : (0 : Int) ≤ (i : Int) := by omega
      have hi9 : (i : Int) < (pl : Int) := by omega
      have hr0 : (0 : Int) ≤ (r : Int) := by omega
      have hr9 : (r : Int) < 32 := by omega
      have HIP := Lib.hid hpdi
      clear hi' hr' hdi hxr hpdi hdi32
      go_upto_region 16 with fail
      go_still_tail 16, (by kernel_rfl)
      change wpList _ _ _ _ _ w9.drew
      go_upto_region 17 with fail
      have hv : (((BitVec.toNat xr ^^^ 4 : Nat)) : Int) = ((xr ^^^ (4 : B8)).toNat : Int) := by simp
      rw [hv]
      obtain ⟨y4, hy4⟩ : ∃ y4, y4 = xr ^^^ (4 : B8) := ⟨_, rfl⟩
      rw [← hy4]
      have st := HO9.out.stored (i * 32 + r) (bv y4)
      rw [idsV_set pd HID.out i r di y4 HIP.out hr32] at st
      have hq32 := set_len32 (y := y4) (r := r) HID.out HIP.out
      have hqlen : (pd.set i (di.set r y4)).length = pl := by rw [List.length_set, HPL.out]
      generalize pd.set i (di.set r y4) = qd at *
      obtain ⟨w10, hw10⟩ : ∃ w10, w10 = (w9.setCell ⟨gq, i * 32 + r, none⟩ (.int .u8 (y4.toNat : Int))).drew := ⟨_, rfl⟩
      have ho10 : w10.ownsRow w7.heap.size 26 32 (.slice (some ⟨gq, 0, none⟩) pl cq) pl (idsV qd) := by rw [hw10]; exact st.1.drew
      have h710 : Below w7.heap.size w7 w10 := by
        rw [hw10]; exact (H79.out.grown st.2 hs9 (fun k hk => (HO9.out.lt k hk).1)).drew
      rw [← hw10]
      have HB10 := Lib.hid (HB7.out.trans (h710.mono HB7.out.size))
      have HE10 := Lib.hid (HE7.out.below h710)
      have HR10 := Lib.hid (heap_below h710 HR7.out)
      have HQ10 := Lib.hid (IdsAt.of_own ho10 hq32)
      have hql : qd.length ≤ cq := by rw [hqlen]; exact hcq
      have hqm : qd.length ≤ 1000000 := by omega
      have C2 := Lib.hid (fun (w4 : World) (h : IdsAt w4 (some ⟨gq, 0, none⟩) qd) (hX : Bts w4 Ak x) => rclimb_any Ak ck x (k : Int) (ls.length : Int) qd (some ⟨gq, 0, none⟩) cq w4 hAk hck hx60 hql hqm h hX)
      have I2 := Lib.hid (fun (w4 : World) (h : IdsAt w4 (some ⟨gq, 0, none⟩) qd) (hX : Bts w4 Ak x) (hG : Glob w4) => is_any R Ak ck x (k : Int) (ls.length : Int) qd (some ⟨gq, 0, none⟩) cq w4 HR32.out hck hx60 hql hqm h hX hG)
      obtain ⟨A1, hA1⟩ : ∃ A1, A1 = (if cq = 1 then some (⟨gq, 0, none⟩ : Addr) else (some (⟨gq, 0, none⟩ : Addr)).map (·.add (1 * 32))) := ⟨_, rfl⟩
      have hd1 : (qd.drop 1).length = pl - 1 := by rw [List.length_drop, hqlen]
      have I3 := Lib.hid (fun (w4 : World) (h : IdsAt w4 (some ⟨gq, 0, none⟩) qd) (hX : Bts w4 Ak x) (hG : Glob w4) => is_any R Ak ck x (k : Int) (ls.length : Int) (qd.drop 1) A1 (cq - 1) w4 HR32.out hck hx60 (by omega) (by omega) (by rw [hA1]; exact h.cut1 hql) hX hG)
      have hsl : ∀ w, (Instr.slice 29 (.slice (some ⟨gq, 0, none⟩) pl cq) (some (.int .i64 1)) none none).run Tryd.prog w = .ok (.slice A1 (pl - 1) (cq - 1)) w := fun w => by rw [hA1]; exact slicei_lo (some ⟨gq, 0, none⟩) pl cq 1 (by omega) w
      have hn3 : climbZ x (k : Int) (ls.length : Int) (qd.drop 1) = none := by
        rw [climbZ_nat hk (by omega)]
        exact climb_short (ls := ls) rfl (by rw [hd1, ← HPD.out, ← HPL.out]; omega)
      rw [hn3, hd1] at I3
      have hin : isD R none = false := rfl
      rw [hin] at I3
      have hz32 := climbZ_len (b := x) (z := (k : Int)) (zn := (ls.length : Int)) (p := qd)
      rw [isD_eq, hqlen] at I2
      rw [hqlen] at C2
      generalize climbZ x (k : Int) (ls.length : Int) qd = o2 at *
      obtain ⟨y2, hy2⟩ : ∃ y, y = o2.getD (zeros 32) := ⟨_, rfl⟩
      obtain ⟨ob2, hob2⟩ : ∃ ob, ob = o2.isSome := ⟨_, rfl⟩
      have ea2 : ansV o2 = .tuple #[.agg (y2.map bv).toArray, .bool ob2] := by rw [hy2, hob2]; rfl
      rw [ea2] at C2
      rw [← hy2, ← hob2] at I2
      rw [← hy2] at hz32
      have F1 := Lib.hid (show (Tryd.prog.info? 26).map (·.size) = some ((y2.map bv).toArray).size by simp only [List.size_toArray, List.length_map, hz32]; kernel_rfl)
      have F2 := Lib.hid (show ZId.size = ((y2.map bv).toArray).size by simp only [List.size_toArray, List.length_map, hz32]; rfl)
      have F3 := Lib.hid (bvs_one y2)
      have eY2 := fun w => eq_id y2 R hz32 HR32.out w
      have HZ32 := Lib.hid hz32
      have SL := Lib.hid hsl
      clear hw10 ho10 h710 st hq32 hv hy4 hy2 hob2 ea2 hz32 hn3 hin hA1 hd1 hsl HB7 HE7 HR7 HO7 HO9 H79 c0' z0' hx4 e1 e2 e3 e4
      have hcell := HE10.out.c
      go_upto_region 18 with (first
        | (go_at_call 16; refine (C2.out w10 HQ10.out HE10.out.x).mono ?_; rintro e w11 ⟨rfl, hb⟩; have HB11 := Lib.hid hb; clear hb)
        | (refine wpList_store_row rfl _ _ _ rfl w11.heap.size (y2.map bv).toArray rfl rfl 26 _ (heap_alloc_new w11 _) F1.out F2.out F3.out ?_; rw [World.setRow_alloc_new]))
      obtain ⟨w12, hw12⟩ : ∃ w12, w12 = w11.alloc (.cells (y2.map bv).toArray 26) := ⟨_, rfl⟩
      have h1112 : Below w11.heap.size w11 w12 := by rw [hw12]; exact (Below.refl _ _).alloc (Nat.le_refl _) _
      have h1012 := HB11.out.trans (h1112.mono HB11.out.size)
      have HB12 := Lib.hid (HB10.out.trans (h1012.mono HB10.out.size))
      have HE12 := Lib.hid (HE10.out.below h1012)
      have HR12 := Lib.hid (heap_below h1012 HR10.out)
      have HQ12 := Lib.hid (HQ10.out.below h1012)
      have HY12 := Lib.hid (show w12.heap[w11.heap.size]? = some (.cells (y2.map bv).toArray 26 (0, 0)) by rw [hw12]; exact heap_alloc_new w11 _)
      rw [← hw12]
      generalize w11.heap.size = g19 at *
      clear hw12 h1112 h1012 HB10 HB11 HE10 HQ10 HR10 hcell C2
      have r1 := rowOf_id HR32.out HR12.out
      have r2 := rowOf_id HZ32.out HY12.out
      by_cases hq : y2 = R
      · have q1 : ∀ w, (Op.equalIn 10000 26 (.agg (y2.map bv).toArray) (.agg (R.map bv).toArray)).run Tryd.prog w = .ok true w := fun w => by rw [eY2 w, hq]; simp
        clear eY2 hq
        go_wp2_with (go_at_call 9; refine (awake_any _ HE12.out.g).mono ?_; rintro e w' ⟨rfl, hb4⟩)
        go_ret
        exact ⟨rfl, HB12.out.trans (hb4.mono HB12.out.size)⟩
      have q1 : ∀ w, (Op.equalIn 10000 26 (.agg (y2.map bv).toArray) (.agg (R.map bv).toArray)).run Tryd.prog w = .ok false w := fun w => by rw [eY2 w]; simp [hq]
      have hif : (ob2 && decide (y2 = R)) = false := by rw [decide_eq_false hq]; simp
      rw [hif] at I2
      clear eY2 hq hif
      go_upto_region 20 with fail
      have HEd := Lib.hid (show Env (some ad) ls k x ad Ak ck (some ⟨gp, 0, none⟩) pd w12.drew from HE12.out.below (Below.refl _ _).drew)
      have HQd := Lib.hid (show IdsAt w12.drew (some ⟨gq, 0, none⟩) qd from HQ12.out)
      have RR := Lib.hid (show w12.drew.rangeAt g9 0 (R.map bv) from range_row (show w12.drew.heap[g9]? = _ from HR12.out))
      have RRl := Lib.hid (show g9 < w12.drew.heap.size from lt_of_block HR12.out)
      have sl := SL.out
      refine wp_region_rel 147 Stp [.one ?_, .one ?_, .one ?_, .one ?_, .one ?_, .one ?_, .one ?_, .one ?_, .one ?_, .one ?_, .one ?_, .one ?_, .one ?_, .one ?_, .one ?_, .one ?_, .one ?_, .one ?_, .one ?_, .one ?_, .one ?_, .one ?_, .one ?_, .one ?_, .one ?_, .one ?_, .one ?_, .one ?_, .one ?_] (by kernel_rfl) (by kernel_rfl) rfl (by kernel_rfl) Stp.refl Stp.trans trivial ?main
      case main =>
      refine wpR_one (A' := ?_) Stp.refl (by rfl) _ rfl 147 (by rfl) (by rfl) ?_ ?_ ?_
      rotate_left 1
      · simp only [Act.put, List.setIfInBounds_toArray, List.set_cons_zero, List.set_cons_succ]; rfl
      · intro w1 hs hf K hK
        refine cls_load 26 (.tmp 13) rfl (g9) (0) rfl (R.map bv) _ (fun w4 h2 => range_below (range_below RR.out hs RRl.out) h2 (Nat.lt_of_lt_of_le RRl.out (Below.size hs))) Tryd.underlying26 rfl X1.out ?_
        refine hK _ ?_
        simp only [Act.put, List.setIfInBounds_toArray, List.set_cons_zero, List.set_cons_succ]
        rfl
      iterate 3
        refine wpR_one (A' := ?_) Stp.refl (by rfl) _ rfl 147 (by rfl) (by rfl) ?_ ?_ ?_
        rotate_left 1
        · simp only [Act.put, List.setIfInBounds_toArray, List.set_cons_zero, List.set_cons_succ]; rfl
        · intro w1 hs hf K hK
          go_big_quiet_op
          first
            | go_big_quiet_on
            | (refine ⟨_, fun _ _ => rfl, ?_⟩; go_big_quiet_on)
          rfl
      refine wpR_one (A' := ?_) Stp.refl (by rfl) _ rfl 147 (by rfl) (by rfl) ?_ ?_ ?_
      rotate_left 1
      · simp only [Act.put, List.setIfInBounds_toArray, List.set_cons_zero, List.set_cons_succ]; rfl
      · intro w1 hs hf K hK
        refine cls_load_sl (.tmp 122) rfl (ad.add k) rfl Ak x.length ck (fun w4 h2 => (Env.below (HEd.out.below hs) h2).c) ?_
        refine hK _ ?_
        simp only [Act.put, List.setIfInBounds_toArray, List.set_cons_zero, List.set_cons_succ]
        rfl
      iterate 4
        refine wpR_one (A' := ?_) Stp.refl (by rfl) _ rfl 147 (by rfl) (by rfl) ?_ ?_ ?_
        rotate_left 1
        · simp only [Act.put, List.setIfInBounds_toArray, List.set_cons_zero, List.set_cons_succ]; rfl
        · intro w1 hs hf K hK
          go_big_quiet_op
          first
            | go_big_quiet_on
            | (refine ⟨_, fun _ _ => rfl, ?_⟩; go_big_quiet_on)
          rfl
      refine wpR_one (A' := ?_) Stp.refl (by rfl) _ rfl 147 (by rfl) (by rfl) ?_ ?_ ?_
      rotate_left 1
      · simp only [Act.put, List.setIfInBounds_toArray, List.set_cons_zero, List.set_cons_succ]; rfl
      · intro w1 hs hf K hK
        have he1 := Lib.hid (HEd.out.below hs)
        have hq1 := Lib.hid (HQd.out.below hs)
        go_big_quiet_op
        apply Exists.intro
        refine ⟨fun w4 h2 => ?_, ?_⟩
        · refine (I2.out w4 (hq1.out.below h2) (he1.out.below h2).x (he1.out.below h2).g).mono ?_
          rintro e w3 ⟨rfl, h3⟩
          exact ⟨rfl, Stp.trans _ _ _ h2 h3⟩
        · go_big_quiet_on
          rfl
      iterate 2
        refine wpR_one (A' := ?_) Stp.refl (by rfl) _ rfl 147 (by rfl) (by rfl) ?_ ?_ ?_
        rotate_left 1
        · simp only [Act.put, List.setIfInBounds_toArray, List.set_cons_zero, List.set_cons_succ]; rfl
        · intro w1 hs hf K hK
          go_big_quiet_op
          first
            | go_big_quiet_on
            | (refine ⟨_, fun _ _ => rfl, ?_⟩; go_big_quiet_on)
          rfl
      refine wpR_one (A' := ?_) Stp.refl (by rfl) _ rfl 147 (by rfl) (by rfl) ?_ ?_ ?_
      rotate_left 1
      · simp only [Act.put, List.setIfInBounds_toArray, List.set_cons_zero, List.set_cons_succ]; rfl
      · intro w1 hs hf K hK
        refine cls_load 26 (.tmp 13) rfl (g9) (0) rfl (R.map bv) _ (fun w4 h2 => range_below (range_below RR.out hs RRl.out) h2 (Nat.lt_of_lt_of_le RRl.out (Below.size hs))) Tryd.underlying26 rfl X1.out ?_
        refine hK _ ?_
        simp only [Act.put, List.setIfInBounds_toArray, List.set_cons_zero, List.set_cons_succ]
        rfl
      iterate 3
        refine wpR_one (A' := ?_) Stp.refl (by rfl) _ rfl 147 (by rfl) (by rfl) ?_ ?_ ?_
        rotate_left 1
        · simp only [Act.put, List.setIfInBounds_toArray, List.set_cons_zero, List.set_cons_succ]; rfl
        · intro w1 hs hf K hK
          go_big_quiet_op
          first
            | go_big_quiet_on
            | (refine ⟨_, fun _ _ => rfl, ?_⟩; go_big_quiet_on)
          rfl
      refine wpR_one (A' := ?_) Stp.refl (by rfl) _ rfl 147 (by rfl) (by rfl) ?_ ?_ ?_
      rotate_left 1
      · simp only [Act.put, List.setIfInBounds_toArray, List.set_cons_zero, List.set_cons_succ]; rfl
      · intro w1 hs hf K hK
        refine cls_load_sl (.tmp 134) rfl (ad.add k) rfl Ak x.length ck (fun w4 h2 => (Env.below (HEd.out.below hs) h2).c) ?_
        refine hK _ ?_
        simp only [Act.put, List.setIfInBounds_toArray, List.set_cons_zero, List.set_cons_succ]
        rfl
      iterate 5
        refine wpR_one (A' := ?_) Stp.refl (by rfl) _ rfl 147 (by rfl) (by rfl) ?_ ?_ ?_
        rotate_left 1
        · simp only [Act.put, List.setIfInBounds_toArray, List.set_cons_zero, List.set_cons_succ]; rfl
        · intro w1 hs hf K hK
          go_big_quiet_op
          first
            | go_big_quiet_on
            | (refine ⟨_, fun _ _ => rfl, ?_⟩; go_big_quiet_on)
          rfl
      refine wpR_one (A' := ?_) Stp.refl (by rfl) _ rfl 147 (by rfl) (by rfl) ?_ ?_ ?_
      rotate_left 1
      · simp only [Act.put, List.setIfInBounds_toArray, List.set_cons_zero, List.set_cons_succ]; rfl
      · intro w1 hs hf K hK
        have he1 := Lib.hid (HEd.out.below hs)
        have hq1 := Lib.hid (HQd.out.below hs)
        go_big_quiet_op
        apply Exists.intro
        refine ⟨fun w4 h2 => ?_, ?_⟩
        · refine (I3.out w4 (hq1.out.below h2) (he1.out.below h2).x (he1.out.below h2).g).mono ?_
          rintro e w3 ⟨rfl, h3⟩
          exact ⟨rfl, Stp.trans _ _ _ h2 h3⟩
        · go_big_quiet_on
          rfl
      iterate 3
        refine wpR_one (A' := ?_) Stp.refl (by rfl) _ rfl 147 (by rfl) (by rfl) ?_ ?_ ?_
        rotate_left 1
        · simp only [Act.put, List.setIfInBounds_toArray, List.set_cons_zero, List.set_cons_succ]; rfl
        · intro w1 hs hf K hK
          go_big_quiet_op
          first
            | go_big_quiet_on
            | (refine ⟨_, fun _ _ => rfl, ?_⟩; go_big_quiet_on)
          rfl
      refine wpR_one (A' := ?_) Stp.refl (by rfl) _ rfl 147 (by rfl) (by rfl) ?_ ?_ ?_
      rotate_left 1
      · simp only [Act.put, List.setIfInBounds_toArray, List.set_cons_zero, List.set_cons_succ]; rfl
      · intro w1 hs hf K hK
        have he1 := Lib.hid (HEd.out.below hs)
        have hq1 := Lib.hid (HQd.out.below hs)
        go_big_quiet_op
        apply Exists.intro
        refine ⟨fun w4 h2 => ?_, ?_⟩
        · refine (awake_any w4 (he1.out.below h2).g).mono ?_
          rintro e w3 ⟨rfl, h3⟩
          exact ⟨rfl, Stp.trans _ _ _ h2 h3⟩
        · go_big_quiet_on
          rfl
      iterate 2
        refine wpR_one (A' := ?_) Stp.refl (by rfl) _ rfl 147 (by rfl) (by rfl) ?_ ?_ ?_
        rotate_left 1
        · simp only [Act.put, List.setIfInBounds_toArray, List.set_cons_zero, List.set_cons_succ]; rfl
        · intro w1 hs hf K hK
          go_big_quiet_op
          first
            | go_big_quiet_on
            | (refine ⟨_, fun _ _ => rfl, ?_⟩; go_big_quiet_on)
          rfl
      intro w13 hs hf
      have HS := Lib.hid (stp_start hs HB12.out)
      clear hs hf
      go_wp2_with fail
      go_ret
      exact ⟨rfl, HS.out⟩
theorem other_law (A : Option Addr) (c : Nat) (ls : List (List B8)) (z : Int) (A' : Option Addr) (c' : Nat) (b : List B8) (tu bt : Nat) (w : World) (hL : LstN w A ls) (hm : ls.length ≤ maxLen) (hA : A = none → c = 0) (hc : ls.length ≤ c) {p : Prop} (_ : p)
    (hB : Sl w w.heap.size A' (b.map bv)) (hm' : b.length ≤ maxLen) (hA' : A' = none → c' = 0) (hc' : b.length ≤ c') (htu : tu < 256) (hbt : bt < 256) (hG : Glob w) :
    Calls Tryd.prog 6 #[.slice A ls.length c, .int .i64 z, .slice A' b.length c', .int .u8 (tu : Int), .int .u8 (bt : Int)] w fun e w' => e = .returned (.bool true) ∧ Below w.heap.size w w' :=
  other_any A c ls z A' c' b tu bt w hL hA hc hm (Bts.of_sl hB) hA' hc' hm' htu hbt hG
end Go.Proofs.YtppkjlmnnpfcfaaDoor
