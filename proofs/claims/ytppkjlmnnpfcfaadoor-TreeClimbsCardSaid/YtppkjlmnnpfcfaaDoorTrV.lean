/- The walk of 'TreeClimbs'. -/
import Derived.Test.YtppkjlmnnpfcfaaDoorTrY
set_option linter.unusedVariables false
namespace Go.Proofs.YtppkjlmnnpfcfaaDoor
open Go.RowKit
attribute [local go_sem ↓] loadAt_id
attribute [local go_sem] rowOf_drew rowOf_drewN run_idLoad
set_option maxRecDepth 100000 in
set_option maxHeartbeats 8000000 in
theorem climbs_any (A : Option Addr) (c : Nat) (ls : List (List B8)) (z zo : Int) (w : World) (hL : LstN w A ls) (hA : A = none → c = 0) (hc : ls.length ≤ c) (hm : ls.length ≤ maxLen) (hG : Glob w) :
    Calls Tryd.prog 5 #[.slice A ls.length c, .int .i64 z, .int .i64 zo] w fun e w' => e = .returned (.bool true) ∧ Below w.heap.size w w' := by
  have HG := Lib.hid hG
  have HL := Lib.hid hL
  have HA := Lib.hid hA
  have GR := Lib.hid (great_any A c ls w hL hm)
  unfold maxLen at hm
  clear hG hL hA
  go_enter Tryd.func5, Tryd.ntmps5
  go_wp2_with (go_at_call 8; refine stop ?_)
  unfold Stop
  refine GR.out.mono ?_
  rintro e w' ⟨⟨r, rfl, hr⟩, hw⟩
  rw [hw]
  clear hw w' GR
  cases r with
  | true =>
    clear hr
    go_wp2_with (go_at_call 9; refine (awake_any _ HG.out).mono ?_; rintro e w' ⟨rfl, hb4⟩)
    go_ret
    exact ⟨rfl, hb4⟩
  | false =>
    obtain ⟨h40, h60'⟩ := hr rfl
    clear hr
    by_cases h1 : ls.length < 1
    · have t1 : decide ((ls.length : Int) < 1) = true := by rw [decide_eq_true_eq]; omega
      clear h60'
      go_wp2_with (go_at_call 9; refine (awake_any _ HG.out).mono ?_; rintro e w' ⟨rfl, hb4⟩)
      go_ret
      exact ⟨rfl, hb4⟩
    have t1 : decide ((ls.length : Int) < 1) = false := by rw [decide_eq_false_iff_not]; omega
    have h60 : ∀ xs ∈ ls, xs.length ≤ 1000000 := fun xs hx => by have := h60' xs hx; omega
    have H60 := Lib.hid h60
    have PK := Lib.hid (fun z w => pick_any z ls.length w (by omega) (by omega))
    have P1 := Lib.hid (fun (k : Nat) w (hL : LstN w A ls) hG => path_any ls.length ls (Nat.le_refl _) (by omega) h60 A c (k : Int) w hL.lst hc hG)
    have R2 := Lib.hid (fun w (hL : LstN w A ls) => rroot_any ls.length ls (Nat.le_refl _) (by omega) h60 A c w hL hc HA.out)
    clear h60 h60'
    go_wp2_with (go_at_call 18; refine stop ?_)
    unfold Stop
    refine (PK.out z _).mono ?_
    rintro e w' ⟨⟨k, hk, rfl⟩, hw⟩
    rw [hw]
    clear hw w'
    go_wp2_with (go_at_call 13; refine stop ?_)
    unfold Stop
    refine (P1.out k _ HL.out HG.out).mono ?_
    rintro e w1 ⟨v8, rfl, ho, hb⟩
    obtain ⟨Ap, cp, rfl⟩ := own_slice ho
    rw [pathZ_nat] at ho
    have hpl := pathD_size ls.length ls k (Nat.le_refl _)
    have hid := pathD_ids ls.length ls k (Nat.le_refl _)
    have HI1 := Lib.hid (IdsAt.of_own ho hid)
    have hpc := own_cap_id ho
    have HB1 := Lib.hid hb
    have HL1 := Lib.hid (HL.out.below hb)
    have HG1 := Lib.hid (glob_below HG.out hb (Nat.le_refl _))
    obtain ⟨pd, hpd⟩ : ∃ pd, pd = pathD ls k := ⟨_, rfl⟩
    obtain ⟨pl, hpl2⟩ : ∃ pl, pl = pd.length := ⟨_, rfl⟩
    rw [pathZ_nat, ← hpd, ← hpl2]
    rw [← hpd] at hpl hid HI1
    rw [← hpd, ← hpl2] at hpc
    have HOW := Lib.hid (show w1.ownsRow w.heap.size 26 32 (.slice Ap pl cp) pl (idsV pd) by rw [hpl2, hpd]; exact ho)
    rw [← hpl2] at hpl
    have HPD := Lib.hid hpd
    have HPL := Lib.hid hpl2
    have HID := Lib.hid hid
    clear ho hb hpd hpl2 hid P1
    obtain ⟨x, hx⟩ : ∃ x, ls[k]? = some x := ⟨_, List.getElem?_eq_getElem hk⟩
    have hx60 := H60.out x (List.mem_of_getElem? hx)
    have hcl : climbZ x (k : Int) (ls.length : Int) pd = some (rootD ls) := by
      rw [climbZ_nat hk (by omega), HPD.out]; exact climb_path ls.length ls k x (Nat.le_refl _) (by omega) hx
    obtain ⟨ad, Ak, ck, eA, hcx, hck, hAk, hbx⟩ := HL1.out k x hx
    subst eA
    have HE1 := Lib.hid (show Env (some ad) ls k x ad Ak ck Ap pd w1 from ⟨HL1.out, hcx, hbx, HI1.out, HG1.out⟩)
    have CX := Lib.hid (fun (w4 : World) (h : Env (some ad) ls k x ad Ak ck Ap pd w4) => climb_any Ak ck x (k : Int) (ls.length : Int) pd Ap cp w4 hck hx60 (by rw [← HPL.out]; exact hpc.1) (by rw [← HPL.out]; omega) h.p h.x h.g)
    have CN := Lib.hid (fun (w4 : World) (h : Env (some ad) ls k x ad Ak ck Ap pd w4) => climb_any Ak ck x (ls.length : Int) (ls.length : Int) pd Ap cp w4 hck hx60 (by rw [← HPL.out]; exact hpc.1) (by rw [← HPL.out]; omega) h.p h.x h.g)
    have IX := Lib.hid (fun (w4 : World) (h : Env (some ad) ls k x ad Ak ck Ap pd w4) => is_any (rootD ls) Ak ck x (k : Int) (ls.length : Int) pd Ap cp w4 (rootD_len _) hck hx60 (by rw [← HPL.out]; exact hpc.1) (by rw [← HPL.out]; omega) h.p h.x h.g)
    have hbadn : climbZ x (ls.length : Int) (ls.length : Int) pd = none := by unfold climbZ; rw [if_neg (by omega)]
    rw [hbadn, ansV_none] at CN
    rw [hcl] at CX IX
    have hisd : isD (rootD ls) (some (rootD ls)) = true := by simp [isD]
    rw [hisd] at IX
    rw [← HPL.out] at CX CN IX
    obtain ⟨R, hR⟩ : ∃ R, R = rootD ls := ⟨_, rfl⟩
    have hR32 : R.length = 32 := by rw [hR]; exact rootD_len _
    have eaR : ansV (some (rootD ls)) = .tuple #[.agg (R.map bv).toArray, .bool true] := by rw [hR]; rfl
    rw [eaR] at CX
    rw [← hR] at R2 IX
    have HRR := Lib.hid hR
    have HR32 := Lib.hid hR32
    have D1 := Lib.hid (show (Tryd.prog.info? 26).map (·.size) = some ((R.map bv).toArray).size by simp only [List.size_toArray, List.length_map, hR32]; kernel_rfl)
    have D2 := Lib.hid (show ZId.size = ((R.map bv).toArray).size by simp only [List.size_toArray, List.length_map, hR32]; rfl)
    have D3 := Lib.hid (bvs_one R)
    have X1 := Lib.hid (show (Tryd.prog.info? 26).map (·.size) = some (R.map bv).length by rw [List.length_map, hR32]; kernel_rfl)
    have eRR : ∀ w, (Op.equalIn 10000 26 (.agg (R.map bv).toArray) (.agg (R.map bv).toArray)).run Tryd.prog w = .ok true w := fun w => by rw [eq_id _ _ hR32 hR32 w]; simp
    have nRR : ∀ w, (binOp .neq 26 (.agg (R.map bv).toArray) (.agg (R.map bv).toArray)).run Tryd.prog w = .ok (.bool false) w := fun w => by rw [neq_id _ _ hR32 hR32 w]; simp
    clear hR hR32 eaR hcl hbadn hisd hcx hbx HL1 HI1 HG1 HL HG hx60
    go_upto_region 7 with (first
      | (go_at_call 11; refine (R2.out w1 HE1.out.l).mono ?_; rintro e w2 ⟨rfl, hb⟩; have HB2 := Lib.hid hb; clear hb)
      | (refine wpList_store_row rfl _ _ _ rfl w2.heap.size (R.map bv).toArray rfl rfl 26 _ (heap_alloc_new w2 _) D1.out D2.out D3.out ?_; rw [World.setRow_alloc_new]; refine stop ?_))
    unfold Stop
    obtain ⟨w3, hw3⟩ : ∃ w3, w3 = w2.alloc (.cells (R.map bv).toArray 26) := ⟨_, rfl⟩
    have h23 : Below w2.heap.size w2 w3 := by rw [hw3]; exact (Below.refl _ _).alloc (Nat.le_refl _) _
    have h13 := HB2.out.trans (h23.mono HB2.out.size)
    have HB3 := Lib.hid (HB1.out.trans (h13.mono HB1.out.size))
    have HE3 := Lib.hid (HE1.out.below h13)
    have HO3 := Lib.hid (own_below HOW.out h13)
    have HR3 := Lib.hid (show w3.heap[w2.heap.size]? = some (.cells (R.map bv).toArray 26 (0, 0)) by rw [hw3]; exact heap_alloc_new w2 _)
    rw [← hw3]
    generalize w2.heap.size = g9 at *
    clear hw3 h23 h13 HB1 HB2 HE1 HOW
    have hcell := HE3.out.c
    go_upto_region 7 with (first
      | (go_at_call 15; refine (CX.out w3 HE3.out).mono ?_; rintro e w4 ⟨rfl, hb⟩; have HB4 := Lib.hid hb; clear hb)
      | (refine wpList_store_row rfl _ _ _ rfl w4.heap.size (R.map bv).toArray rfl rfl 26 _ (heap_alloc_new w4 _) D1.out D2.out D3.out ?_; rw [World.setRow_alloc_new]))
    obtain ⟨w5, hw5⟩ : ∃ w5, w5 = w4.alloc (.cells (R.map bv).toArray 26) := ⟨_, rfl⟩
    have h45 : Below w4.heap.size w4 w5 := by rw [hw5]; exact (Below.refl _ _).alloc (Nat.le_refl _) _
    have h35 := HB4.out.trans (h45.mono HB4.out.size)
    have HB5 := Lib.hid (HB3.out.trans (h35.mono HB3.out.size))
    have HE5 := Lib.hid (HE3.out.below h35)
    have HO5 := Lib.hid (own_below HO3.out h35)
    have HR5 := Lib.hid (heap_below h35 HR3.out)
    have HD5 := Lib.hid (show w5.heap[w4.heap.size]? = some (.cells (R.map bv).toArray 26 (0, 0)) by rw [hw5]; exact heap_alloc_new w4 _)
    rw [← hw5]
    generalize w4.heap.size = g10 at *
    clear hw5 h45 h35 HB3 HB4 HE3 HO3 HR3 hcell
    have HE5d := Lib.hid (show Env (some ad) ls k x ad Ak ck Ap pd w5.drew from HE5.out.below (Below.refl _ _).drew)
    have RR := Lib.hid (show w5.drew.rangeAt g9 0 (R.map bv) from range_row (show w5.drew.heap[g9]? = _ from HR5.out))
    have RRl := Lib.hid (show g9 < w5.drew.heap.size from lt_of_block HR5.out)
    have RD := Lib.hid (show w5.drew.rangeAt g10 0 (R.map bv) from range_row (show w5.drew.heap[g10]? = _ from HD5.out))
    have RDl := Lib.hid (show g10 < w5.drew.heap.size from lt_of_block HD5.out)
    refine wp_region_rel 155 Stp [.one ?_, .one ?_, .one ?_, .one ?_, .one ?_, .one ?_, .one ?_, .one ?_, .one ?_, .one ?_, .one ?_, .one ?_, .one ?_, .one ?_, .one ?_, .one ?_, .one ?_, .one ?_, .one ?_, .one ?_] (by kernel_rfl) (by kernel_rfl) rfl (by kernel_rfl) Stp.refl Stp.trans trivial ?main
    case main =>
    iterate 3
      refine wpR_one (A' := ?_) Stp.refl (by rfl) _ rfl 155 (by rfl) (by rfl) ?_ ?_ ?_
      rotate_left 1
      · simp only [Act.put, List.setIfInBounds_toArray, List.set_cons_zero, List.set_cons_succ]; rfl
      · intro w1 hs hf K hK
        go_big_quiet_op
        first
          | go_big_quiet_on
          | (refine ⟨_, fun _ _ => rfl, ?_⟩; go_big_quiet_on)
        rfl
    refine wpR_one (A' := ?_) Stp.refl (by rfl) _ rfl 155 (by rfl) (by rfl) ?_ ?_ ?_
    rotate_left 1
    · simp only [Act.put, List.setIfInBounds_toArray, List.set_cons_zero, List.set_cons_succ]; rfl
    · intro w1 hs hf K hK
      refine cls_load 26 (.tmp 10) rfl (g10) (0) rfl (R.map bv) _ (fun w4 h2 => range_below (range_below RD.out hs RDl.out) h2 (Nat.lt_of_lt_of_le RDl.out (Below.size hs))) Tryd.underlying26 rfl X1.out ?_
      refine hK _ ?_
      simp only [Act.put, List.setIfInBounds_toArray, List.set_cons_zero, List.set_cons_succ]
      rfl
    refine wpR_one (A' := ?_) Stp.refl (by rfl) _ rfl 155 (by rfl) (by rfl) ?_ ?_ ?_
    rotate_left 1
    · simp only [Act.put, List.setIfInBounds_toArray, List.set_cons_zero, List.set_cons_succ]; rfl
    · intro w1 hs hf K hK
      refine cls_load 26 (.tmp 9) rfl (g9) (0) rfl (R.map bv) _ (fun w4 h2 => range_below (range_below RR.out hs RRl.out) h2 (Nat.lt_of_lt_of_le RRl.out (Below.size hs))) Tryd.underlying26 rfl X1.out ?_
      refine hK _ ?_
      simp only [Act.put, List.setIfInBounds_toArray, List.set_cons_zero, List.set_cons_succ]
      rfl
    iterate 3
      refine wpR_one (A' := ?_) Stp.refl (by rfl) _ rfl 155 (by rfl) (by rfl) ?_ ?_ ?_
      rotate_left 1
      · simp only [Act.put, List.setIfInBounds_toArray, List.set_cons_zero, List.set_cons_succ]; rfl
      · intro w1 hs hf K hK
        go_big_quiet_op
        first
          | go_big_quiet_on
          | (refine ⟨_, fun _ _ => rfl, ?_⟩; go_big_quiet_on)
        rfl
    refine wpR_one (A' := ?_) Stp.refl (by rfl) _ rfl 155 (by rfl) (by rfl) ?_ ?_ ?_
    rotate_left 1
    · simp only [Act.put, List.setIfInBounds_toArray, List.set_cons_zero, List.set_cons_succ]; rfl
    · intro w1 hs hf K hK
      refine cls_load 26 (.tmp 9) rfl (g9) (0) rfl (R.map bv) _ (fun w4 h2 => range_below (range_below RR.out hs RRl.out) h2 (Nat.lt_of_lt_of_le RRl.out (Below.size hs))) Tryd.underlying26 rfl X1.out ?_
      refine hK _ ?_
      simp only [Act.put, List.setIfInBounds_toArray, List.set_cons_zero, List.set_cons_succ]
      rfl
    iterate 3
      refine wpR_one (A' := ?_) Stp.refl (by rfl) _ rfl 155 (by rfl) (by rfl) ?_ ?_ ?_
      rotate_left 1
      · simp only [Act.put, List.setIfInBounds_toArray, List.set_cons_zero, List.set_cons_succ]; rfl
      · intro w1 hs hf K hK
        go_big_quiet_op
        first
          | go_big_quiet_on
          | (refine ⟨_, fun _ _ => rfl, ?_⟩; go_big_quiet_on)
        rfl
    refine wpR_one (A' := ?_) Stp.refl (by rfl) _ rfl 155 (by rfl) (by rfl) ?_ ?_ ?_
    rotate_left 1
    · simp only [Act.put, List.setIfInBounds_toArray, List.set_cons_zero, List.set_cons_succ]; rfl
    · intro w1 hs hf K hK
      refine cls_load_sl (.tmp 60) rfl (ad.add k) rfl Ak x.length ck (fun w4 h2 => (Env.below (HE5d.out.below hs) h2).c) ?_
      refine hK _ ?_
      simp only [Act.put, List.setIfInBounds_toArray, List.set_cons_zero, List.set_cons_succ]
      rfl
    iterate 4
      refine wpR_one (A' := ?_) Stp.refl (by rfl) _ rfl 155 (by rfl) (by rfl) ?_ ?_ ?_
      rotate_left 1
      · simp only [Act.put, List.setIfInBounds_toArray, List.set_cons_zero, List.set_cons_succ]; rfl
      · intro w1 hs hf K hK
        go_big_quiet_op
        first
          | go_big_quiet_on
          | (refine ⟨_, fun _ _ => rfl, ?_⟩; go_big_quiet_on)
        rfl
    refine wpR_one (A' := ?_) Stp.refl (by rfl) _ rfl 155 (by rfl) (by rfl) ?_ ?_ ?_
    rotate_left 1
    · simp only [Act.put, List.setIfInBounds_toArray, List.set_cons_zero, List.set_cons_succ]; rfl
    · intro w1 hs hf K hK
      have he1 := Lib.hid (HE5d.out.below hs)
      go_big_quiet_op
      apply Exists.intro
      refine ⟨fun w4 h2 => ?_, ?_⟩
      · refine (IX.out w4 (he1.out.below h2)).mono ?_
        rintro e w3 ⟨rfl, h3⟩
        exact ⟨rfl, Stp.trans _ _ _ h2 h3⟩
      · go_big_quiet_on
        rfl
    iterate 2
      refine wpR_one (A' := ?_) Stp.refl (by rfl) _ rfl 155 (by rfl) (by rfl) ?_ ?_ ?_
      rotate_left 1
      · simp only [Act.put, List.setIfInBounds_toArray, List.set_cons_zero, List.set_cons_succ]; rfl
      · intro w1 hs hf K hK
        go_big_quiet_op
        first
          | go_big_quiet_on
          | (refine ⟨_, fun _ _ => rfl, ?_⟩; go_big_quiet_on)
        rfl
    intro w6 hs hf
    have h56 := stp_start hs (Below.refl _ _)
    have HB6 := Lib.hid (HB5.out.trans (h56.mono HB5.out.size))
    have HE6 := Lib.hid (HE5.out.below h56)
    have HO6 := Lib.hid (own_below HO5.out h56)
    have HR6 := Lib.hid (heap_below h56 HR5.out)
    clear hs hf h56 HE5d RD RDl RR RRl HB5 HE5 HO5 HR5 HD5
    have hcell := HE6.out.c
    have Z1 := Lib.hid info_z
    have Z3 := Lib.hid (show ZId.all (·.oneCell') = true by kernel_rfl)
    go_upto_region 10 with (first
      | (go_at_call 15; refine (CN.out w6 HE6.out).mono ?_; rintro e w7 ⟨rfl, hb⟩; have HB7 := Lib.hid hb; clear hb)
      | (refine wpList_store_row rfl _ _ _ rfl w7.heap.size ZId rfl rfl 26 _ (heap_alloc_new w7 _) Z1.out rfl Z3.out ?_; rw [World.setRow_alloc_new]))
    obtain ⟨w8, hw8⟩ : ∃ w8, w8 = w7.alloc (.cells ZId 26) := ⟨_, rfl⟩
    have h78 : Below w7.heap.size w7 w8 := by rw [hw8]; exact (Below.refl _ _).alloc (Nat.le_refl _) _
    have h68 := HB7.out.trans (h78.mono HB7.out.size)
    have HB8 := Lib.hid (HB6.out.trans (h68.mono HB6.out.size))
    have HE8 := Lib.hid (HE6.out.below h68)
    have HO8 := Lib.hid (own_below HO6.out h68)
    have HR8 := Lib.hid (heap_below h68 HR6.out)
    rw [← hw8]
    generalize w7.heap.size = g12 at *
    clear hw8 h78 h68 HB6 HB7 HE6 HO6 HR6 hcell
    have HEd := Lib.hid (show Env (some ad) ls k x ad Ak ck Ap pd w8.drew from HE8.out.below (Below.refl _ _).drew)
    have HOd := Lib.hid (show w8.drew.ownsRow w.heap.size 26 32 (.slice Ap pl cp) pl (idsV pd) from HO8.out)
    have RR := Lib.hid (show w8.drew.rangeAt g9 0 (R.map bv) from range_row (show w8.drew.heap[g9]? = _ from HR8.out))
    have RRl := Lib.hid (show g9 < w8.drew.heap.size from lt_of_block HR8.out)
    have hFF : idsV pd ++ R.map bv = idsV (pd ++ [R]) := by rw [idsV_append, idsV_one]
    have hid2 : ∀ d ∈ pd ++ [R], d.length = 32 := fun d hd => by
      rcases List.mem_append.1 hd with hd | hd
      · exact HID.out d hd
      · obtain rfl := List.mem_singleton.1 hd; exact HR32.out
    have hl2 : (pd ++ [R]).length = pl + 1 := by simp [HPL.out]
    have hn2 := climbZ_long (x := x) (R := R) hk (by omega) HPD.out
    have CL := Lib.hid (fun (w4 : World) (g cap : Nat) (h : Env (some ad) ls k x ad Ak ck Ap pd w4) (ho : w4.ownsRow w8.heap.size 26 32 (.slice (some ⟨g, 0, none⟩) (pl + 1) cap) (pl + 1) (idsV pd ++ R.map bv)) => climb_any Ak ck x (k : Int) (ls.length : Int) (pd ++ [R]) (some ⟨g, 0, none⟩) cap w4 hck (by have := H60.out x (List.mem_of_getElem? hx); omega) (by rw [hl2]; exact (own_cap_id ho).1) (by rw [hl2]; omega) (IdsAt.of_own (by rw [← hFF]; exact ho) hid2) h.x h.g)
    rw [hn2, ansV_none, hl2] at CL
    have NL := Lib.hid (show (R.map bv).length = 1 * 32 by rw [List.length_map, HR32.out])
    clear hFF hid2 hl2 hn2
    refine wp_region_rel_tail 19 155 (by kernel_rfl) (by kernel_rfl) (Grw w8.heap.size pl (idsV pd ++ R.map bv)) [.one ?_, .one ?_, .one ?_, .one ?_, .one ?_, .one ?_, .one ?_, .rel (BoxAt w8.heap.size 0 #[]), .one ?_, .rel (RowAt w8.heap.size pl (idsV pd)), .one ?_, .rel (BoxAt w8.heap.size 1 (R.map bv).toArray), .rel (fun v w => w.ownsRow w8.heap.size 26 32 v (pl + 1) (idsV pd ++ R.map bv)), .one ?_, .one ?_, .one ?_, .one ?_, .rel (PtrAt w8.heap.size), .rel (fun _ _ => True)] (by kernel_rfl) rfl (by kernel_rfl) Grw.refl Grw.trans ⟨fun v w w' h1 h2 => BoxAt.stable (by simp) v w w' h1 h2, fun v w w' h1 h2 => RowAt.stable v w w' h1 h2, fun v w w' h1 h2 => BoxAt.stable (by simp [HR32.out]) v w w' h1 h2, fun v w w' h1 h2 => own1_stable v w w' h1 h2, fun v w w' h1 h2 => PtrAt.stable v w w' h1 h2, fun v w w' h1 h2 => trivial, trivial⟩ ?main
    case main =>
    simp only [List.take_succ_cons, List.take_zero, List.drop_succ_cons, List.drop_zero]
    iterate 3
      refine wpR_one (A' := ?_) Grw.refl (by rfl) _ rfl 155 (by rfl) (by rfl) ?_ ?_ ?_
      rotate_left 1
      · simp only [Act.put, List.setIfInBounds_toArray, List.set_cons_zero, List.set_cons_succ]; rfl
      · intro w1 hs hf K hK
        go_big_quiet_op
        first
          | go_big_quiet_on
          | (refine ⟨_, fun _ _ => rfl, ?_⟩; go_big_quiet_on)
        rfl
    refine wpR_one (A' := ?_) Grw.refl (by rfl) _ rfl 155 (by rfl) (by rfl) ?_ ?_ ?_
    rotate_left 1
    · simp only [Act.put, List.setIfInBounds_toArray, List.set_cons_zero, List.set_cons_succ]; rfl
    · intro w1 hs hf K hK
      refine cls_load_sl (.tmp 85) rfl (ad.add k) rfl Ak x.length ck (fun w4 h2 => (HEd.out.below (show Below w8.drew.heap.size w8.drew w4 from (Grw.trans _ _ _ hs h2).b)).c) ?_
      refine hK _ ?_
      simp only [Act.put, List.setIfInBounds_toArray, List.set_cons_zero, List.set_cons_succ]
      rfl
    iterate 3
      refine wpR_one (A' := ?_) Grw.refl (by rfl) _ rfl 155 (by rfl) (by rfl) ?_ ?_ ?_
      rotate_left 1
      · simp only [Act.put, List.setIfInBounds_toArray, List.set_cons_zero, List.set_cons_succ]; rfl
      · intro w1 hs hf K hK
        go_big_quiet_op
        first
          | go_big_quiet_on
          | (refine ⟨_, fun _ _ => rfl, ?_⟩; go_big_quiet_on)
        rfl
    refine wpR_rel (A' := ?_) (by rfl) ?_ ?_ ?_
    · intro w1 hs hf
      have hsz : w8.heap.size ≤ w1.heap.size := hs.b.size
      exact does_run (w' := w1.alloc (.cells #[] 26)) (u := .slice (some ⟨w1.heap.size, 0, none⟩) 0 0) (by kernel_rfl) ⟨⟨_, hsz, rfl, heap_alloc_new w1 _⟩, Grw.of ((Below.refl _ _).alloc (Nat.le_refl _) _) hsz⟩
    rotate_left 1
    · intro x
      simp only [Act.put, List.setIfInBounds_toArray, List.set_cons_zero, List.set_cons_succ]; rfl
    intro x7
    iterate 1
      refine wpR_one (A' := ?_) Grw.refl (by rfl) _ rfl 155 (by rfl) (by rfl) ?_ ?_ ?_
      rotate_left 1
      · simp only [Act.put, List.setIfInBounds_toArray, List.set_cons_zero, List.set_cons_succ]; rfl
      · intro w1 hs hf K hK
        go_big_quiet_op
        first
          | go_big_quiet_on
          | (refine ⟨_, fun _ _ => rfl, ?_⟩; go_big_quiet_on)
        rfl
    refine wpR_rel (A' := ?_) (by rfl) ?_ ?_ ?_
    · intro w1 hs hf
      have hsz : w8.heap.size ≤ w1.heap.size := hs.b.size
      have h7 := AllF_at hf 0 rfl (by kernel_rfl)
      obtain ⟨v', w', hr, h3, h4⟩ := append_copy 29 w8.heap.size w.heap.size pl cp Ap (idsV pd) x7 h7 (own_below HOd.out (show Below w8.drew.heap.size w8.drew w1 from hs.b)) (idsV_cells pd) (by omega) hsz
      exact does_append _ _ _ _ _ v' rfl rfl rfl hr ⟨h3, Grw.of h4 hsz⟩
    rotate_left 1
    · intro x
      simp only [Act.put, List.setIfInBounds_toArray, List.set_cons_zero, List.set_cons_succ]; rfl
    intro x9
    refine wpR_one (A' := ?_) Grw.refl (by rfl) _ rfl 155 (by rfl) (by rfl) ?_ ?_ ?_
    rotate_left 1
    · simp only [Act.put, List.setIfInBounds_toArray, List.set_cons_zero, List.set_cons_succ]; rfl
    · intro w1 hs hf K hK
      refine cls_load 26 (.tmp 9) rfl (g9) (0) rfl (R.map bv) _ (fun w4 h2 => range_below RR.out (show Below w8.drew.heap.size w8.drew w4 from (Grw.trans _ _ _ hs h2).b) RRl.out) Tryd.underlying26 rfl X1.out ?_
      refine hK _ ?_
      simp only [Act.put, List.setIfInBounds_toArray, List.set_cons_zero, List.set_cons_succ]
      rfl
    refine wpR_rel (A' := ?_) (by rfl) ?_ ?_ ?_
    · intro w1 hs hf
      have hsz : w8.heap.size ≤ w1.heap.size := hs.b.size
      exact does_build_id R HR32.out _ rfl (by kernel_rfl) ⟨⟨_, hsz, rfl, heap_alloc_new w1 _⟩, Grw.of ((Below.refl _ _).alloc (Nat.le_refl _) _) hsz⟩
    rotate_left 1
    · intro x
      simp only [Act.put, List.setIfInBounds_toArray, List.set_cons_zero, List.set_cons_succ]; rfl
    intro x11
    refine wpR_rel (A' := ?_) (by rfl) ?_ ?_ ?_
    · intro w1 hs hf
      have hsz : w8.heap.size ≤ w1.heap.size := hs.b.size
      have h11 := AllF_at hf 0 rfl (by kernel_rfl)
      have h9 := AllF_at hf 1 rfl (by kernel_rfl)
      obtain ⟨g11, hB11, e11, hg11⟩ := h11
      obtain ⟨v', w', hr, h3, h4⟩ := append_one 29 w8.heap.size pl (idsV pd) (R.map bv) x9 h9 ⟨g11, 0, none⟩ 1 NL.out (MadeId.cells hg11) (bv_one R) (by omega) hsz
      exact does_append _ _ _ _ _ v' rfl rfl e11 hr ⟨h3, h4⟩
    rotate_left 1
    · intro x
      simp only [Act.put, List.setIfInBounds_toArray, List.set_cons_zero, List.set_cons_succ]; rfl
    intro x12
    refine wpR_one (A' := ?_) Grw.refl (by rfl) _ rfl 155 (by rfl) (by rfl) ?_ ?_ ?_
    rotate_left 1
    · simp only [Act.put, List.setIfInBounds_toArray, List.set_cons_zero, List.set_cons_succ]; rfl
    · intro w1 hs hf K hK
      have hsz : w8.heap.size ≤ w1.heap.size := hs.b.size
      have ho1 := AllF_at hf 0 rfl (by kernel_rfl)
      obtain ⟨g, cap, rfl, -, -⟩ := World.ownsRow.form ho1 (by omega)
      have HO1 := Lib.hid ho1
      clear ho1
      go_big_quiet_op
      apply Exists.intro
      refine ⟨fun w4 h2 => ?_, ?_⟩
      · refine (CL.out w4 g cap (HEd.out.below (show Below w8.drew.heap.size w8.drew w4 from (Grw.trans _ _ _ hs h2).b)) (h2.own1 HO1.out)).mono ?_
        rintro e w3 ⟨rfl, h3⟩
        exact ⟨rfl, Grw.trans _ _ _ h2 (Grw.of h3 (Nat.le_trans hsz h2.b.size))⟩
      · go_big_quiet_on
        rfl
    iterate 3
      refine wpR_one (A' := ?_) Grw.refl (by rfl) _ rfl 155 (by rfl) (by rfl) ?_ ?_ ?_
      rotate_left 1
      · simp only [Act.put, List.setIfInBounds_toArray, List.set_cons_zero, List.set_cons_succ]; rfl
      · intro w1 hs hf K hK
        go_big_quiet_op
        first
          | go_big_quiet_on
          | (refine ⟨_, fun _ _ => rfl, ?_⟩; go_big_quiet_on)
        rfl
    refine wpR_rel (A' := ?_) (by rfl) ?_ ?_ ?_
    · intro w1 hs hf
      have hsz : w8.heap.size ≤ w1.heap.size := hs.b.size
      exact does_run (w' := w1.alloc (.cells ZId 26)) (u := .pointer (some ⟨w1.heap.size, 0, none⟩)) (by kernel_rfl) ⟨⟨_, hsz, rfl, heap_alloc_new w1 _⟩, Grw.of ((Below.refl _ _).alloc (Nat.le_refl _) _) hsz⟩
    rotate_left 1
    · intro x
      simp only [Act.put, List.setIfInBounds_toArray, List.set_cons_zero, List.set_cons_succ]; rfl
    intro x17
    refine wpR_rel (A' := ?_) (by rfl) ?_ ?_ ?_
    · intro w1 hs hf
      exact does_store_zero _ _ rfl _ rfl (AllF_at hf 0 rfl (by kernel_rfl)) rfl
    rotate_left 1
    · intro x
      rfl
    intro x18
    intro w9 hs hf
    have h89 : Below w8.drew.heap.size w8.drew w9 := hs.b
    have HB9 := Lib.hid (HB8.out.trans ((Below.refl w8.heap.size w8).drew.trans h89 |>.mono HB8.out.size))
    have HE9 := Lib.hid (HEd.out.below h89)
    have HR9 := Lib.hid (heap_below h89 (show w8.drew.heap[g9]? = _ from HR8.out))
    clear hs hf h89 HEd HOd RR RRl HB8 HE8 HO8 HR8
    have hcell := HE9.out.c
    go_upto_region 11 with fail
    go_wp2_with (go_at_call 18; refine stop ?_)
    unfold Stop
    refine (PK.out zo _).mono ?_
    rintro e w' ⟨⟨j, hj, rfl⟩, hw⟩
    rw [hw]
    clear hw w' hcell
    obtain ⟨u, hu⟩ : ∃ u, ls[j]? = some u := ⟨_, List.getElem?_eq_getElem hj⟩
    have hu60 := H60.out u (List.mem_of_getElem? hu)
    have hx60 := H60.out x (List.mem_of_getElem? hx)
    obtain ⟨ad2, Aj, cj, eA2, hcu, hcj, hAj, hbu⟩ := HE9.out.l j u hu
    injection eA2 with eA2
    subst eA2
    have HF9 := Lib.hid (show Env (some ad) ls j u ad Aj cj Ap pd w9 from ⟨HE9.out.l, hcu, hbu, HE9.out.p, HE9.out.g⟩)
    have hplc : pd.length ≤ cp := by rw [← HPL.out]; exact hpc.1
    have hplm : pd.length ≤ 1000000 := by rw [← HPL.out]; omega
    have CB := Lib.hid (fun (w4 : World) (h : Env (some ad) ls j u ad Aj cj Ap pd w4) => rclimb_any Aj cj u (k : Int) (ls.length : Int) pd Ap cp w4 hAj hcj (by omega) hplc hplm h.p h.x)
    have IB := Lib.hid (fun (w4 : World) (h : Env (some ad) ls j u ad Aj cj Ap pd w4) => is_any R Aj cj u (k : Int) (ls.length : Int) pd Ap cp w4 HR32.out hcj (by omega) hplc hplm h.p h.x h.g)
    have BY := Lib.hid (fun (w4 : World) (hU : Bts w4 Aj u) (hX : Bts w4 Ak x) => (rbytes_any Aj Ak cj ck w4.heap.size w4.heap.size u x w4 hU.sl hX.sl (by unfold maxLen; omega) (by unfold maxLen; omega)).mono (R' := fun e w' => e = .returned (.bool (decide (u = x))) ∧ Below w4.heap.size w4 w') fun e w' ⟨h1, n, h2⟩ => ⟨h1, by rw [h2]; exact below_drewN (Below.refl _ _)⟩)
    have hcb : climbZ u (k : Int) (ls.length : Int) pd = climbD u k ls.length pd := climbZ_nat hk (by omega)
    have hcl : x = u → climbZ u (k : Int) (ls.length : Int) pd = some R := fun e => by
      rw [hcb, ← e, HPD.out, HRR.out]; exact climb_path ls.length ls k x (Nat.le_refl _) (by omega) hx
    have hy32 := climbZ_len (b := u) (z := (k : Int)) (zn := (ls.length : Int)) (p := pd)
    rw [isD_eq] at IB
    rw [← HPL.out] at CB IB
    obtain ⟨o, ho⟩ : ∃ o, o = climbZ u (k : Int) (ls.length : Int) pd := ⟨_, rfl⟩
    rw [← ho] at CB IB hy32 hcl
    obtain ⟨y, hy⟩ : ∃ y, y = o.getD (zeros 32) := ⟨_, rfl⟩
    obtain ⟨ob, hob⟩ : ∃ ob, ob = o.isSome := ⟨_, rfl⟩
    have ea : ansV o = .tuple #[.agg (y.map bv).toArray, .bool ob] := by rw [hy, hob]; rfl
    rw [ea] at CB
    rw [← hy, ← hob] at IB
    rw [← hy] at hy32
    obtain ⟨sm, hsm⟩ : ∃ sm, sm = decide (u = x) := ⟨_, rfl⟩
    rw [← hsm] at BY
    have hsmt : sm = true → y = R ∧ ob = true := fun h => by
      rw [hsm] at h
      have e := hcl (of_decide_eq_true h).symm
      rw [hy, hob, e]; exact ⟨rfl, rfl⟩
    have E1 := Lib.hid (show (Tryd.prog.info? 26).map (·.size) = some ((y.map bv).toArray).size by simp only [List.size_toArray, List.length_map, hy32]; kernel_rfl)
    have E2 := Lib.hid (show ZId.size = ((y.map bv).toArray).size by simp only [List.size_toArray, List.length_map, hy32]; rfl)
    have E3 := Lib.hid (bvs_one y)
    have eYR := fun w => eq_id y R hy32 HR32.out w
    have HY32 := Lib.hid hy32
    clear ea hcl hcu hbu hcb ho hy hob hy32 hsm
    go_upto_region 12 with fail
    have HEd := Lib.hid (show Env (some ad) ls k x ad Ak ck Ap pd w9.drew from HE9.out.below (Below.refl _ _).drew)
    have HFd := Lib.hid (show Env (some ad) ls j u ad Aj cj Ap pd w9.drew from HF9.out.below (Below.refl _ _).drew)
    refine wp_region_rel 155 Stp [.one ?_, .one ?_, .one ?_, .one ?_, .one ?_, .one ?_, .one ?_, .one ?_, .one ?_, .one ?_] (by kernel_rfl) (by kernel_rfl) rfl (by kernel_rfl) Stp.refl Stp.trans trivial ?main
    case main =>
    iterate 3
      refine wpR_one (A' := ?_) Stp.refl (by rfl) _ rfl 155 (by rfl) (by rfl) ?_ ?_ ?_
      rotate_left 1
      · simp only [Act.put, List.setIfInBounds_toArray, List.set_cons_zero, List.set_cons_succ]; rfl
      · intro w1 hs hf K hK
        go_big_quiet_op
        first
          | go_big_quiet_on
          | (refine ⟨_, fun _ _ => rfl, ?_⟩; go_big_quiet_on)
        rfl
    refine wpR_one (A' := ?_) Stp.refl (by rfl) _ rfl 155 (by rfl) (by rfl) ?_ ?_ ?_
    rotate_left 1
    · simp only [Act.put, List.setIfInBounds_toArray, List.set_cons_zero, List.set_cons_succ]; rfl
    · intro w1 hs hf K hK
      refine cls_load_sl (.tmp 105) rfl (ad.add j) rfl Aj u.length cj (fun w4 h2 => (Env.below (HFd.out.below hs) h2).c) ?_
      refine hK _ ?_
      simp only [Act.put, List.setIfInBounds_toArray, List.set_cons_zero, List.set_cons_succ]
      rfl
    iterate 3
      refine wpR_one (A' := ?_) Stp.refl (by rfl) _ rfl 155 (by rfl) (by rfl) ?_ ?_ ?_
      rotate_left 1
      · simp only [Act.put, List.setIfInBounds_toArray, List.set_cons_zero, List.set_cons_succ]; rfl
      · intro w1 hs hf K hK
        go_big_quiet_op
        first
          | go_big_quiet_on
          | (refine ⟨_, fun _ _ => rfl, ?_⟩; go_big_quiet_on)
        rfl
    refine wpR_one (A' := ?_) Stp.refl (by rfl) _ rfl 155 (by rfl) (by rfl) ?_ ?_ ?_
    rotate_left 1
    · simp only [Act.put, List.setIfInBounds_toArray, List.set_cons_zero, List.set_cons_succ]; rfl
    · intro w1 hs hf K hK
      refine cls_load_sl (.tmp 109) rfl (ad.add k) rfl Ak x.length ck (fun w4 h2 => (Env.below (HEd.out.below hs) h2).c) ?_
      refine hK _ ?_
      simp only [Act.put, List.setIfInBounds_toArray, List.set_cons_zero, List.set_cons_succ]
      rfl
    refine wpR_one (A' := ?_) Stp.refl (by rfl) _ rfl 155 (by rfl) (by rfl) ?_ ?_ ?_
    rotate_left 1
    · simp only [Act.put, List.setIfInBounds_toArray, List.set_cons_zero, List.set_cons_succ]; rfl
    · intro w1 hs hf K hK
      have he1 := Lib.hid (HEd.out.below hs)
      have hf1 := Lib.hid (HFd.out.below hs)
      go_big_quiet_op
      apply Exists.intro
      refine ⟨fun w4 h2 => ?_, ?_⟩
      · refine (BY.out w4 (hf1.out.below h2).x (he1.out.below h2).x).mono ?_
        rintro e w3 ⟨rfl, h3⟩
        exact ⟨rfl, Stp.trans _ _ _ h2 h3⟩
      · go_big_quiet_on
        rfl
    iterate 1
      refine wpR_one (A' := ?_) Stp.refl (by rfl) _ rfl 155 (by rfl) (by rfl) ?_ ?_ ?_
      rotate_left 1
      · simp only [Act.put, List.setIfInBounds_toArray, List.set_cons_zero, List.set_cons_succ]; rfl
      · intro w1 hs hf K hK
        go_big_quiet_op
        first
          | go_big_quiet_on
          | (refine ⟨_, fun _ _ => rfl, ?_⟩; go_big_quiet_on)
        rfl
    intro w10 hs hf
    have h910 := stp_start hs (Below.refl _ _)
    have HB10 := Lib.hid (HB9.out.trans (h910.mono HB9.out.size))
    have HE10 := Lib.hid (HE9.out.below h910)
    have HF10 := Lib.hid (HF9.out.below h910)
    have HR10 := Lib.hid (heap_below h910 HR9.out)
    clear hs hf h910 HEd HFd HB9 HE9 HF9 HR9
    have hcell := HF10.out.c
    go_upto_region 14 with (first
      | (go_at_call 16; refine (CB.out w10 HF10.out).mono ?_; rintro e w11 ⟨rfl, hb⟩; have HB11 := Lib.hid hb; clear hb)
      | (refine wpList_store_row rfl _ _ _ rfl w11.heap.size (y.map bv).toArray rfl rfl 26 _ (heap_alloc_new w11 _) E1.out E2.out E3.out ?_; rw [World.setRow_alloc_new]))
    obtain ⟨w12, hw12⟩ : ∃ w12, w12 = w11.alloc (.cells (y.map bv).toArray 26) := ⟨_, rfl⟩
    have h1112 : Below w11.heap.size w11 w12 := by rw [hw12]; exact (Below.refl _ _).alloc (Nat.le_refl _) _
    have h1012 := HB11.out.trans (h1112.mono HB11.out.size)
    have HB12 := Lib.hid (HB10.out.trans (h1012.mono HB10.out.size))
    have HE12 := Lib.hid (HE10.out.below h1012)
    have HF12 := Lib.hid (HF10.out.below h1012)
    have HR12 := Lib.hid (heap_below h1012 HR10.out)
    have HY12 := Lib.hid (show w12.heap[w11.heap.size]? = some (.cells (y.map bv).toArray 26 (0, 0)) by rw [hw12]; exact heap_alloc_new w11 _)
    rw [← hw12]
    generalize w11.heap.size = g18 at *
    clear hw12 h1112 h1012 HB10 HB11 HE10 HF10 HR10 hcell CB
    have r1 := rowOf_id HR32.out HR12.out
    have r2 := rowOf_id HY32.out HY12.out
    by_cases hbad : sm = false ∧ y = R
    · obtain ⟨rfl, hq⟩ := hbad
      have q1 : ∀ w, (Op.equalIn 10000 26 (.agg (y.map bv).toArray) (.agg (R.map bv).toArray)).run Tryd.prog w = .ok true w := fun w => by rw [eYR w, hq]; simp
      clear eYR hq
      go_wp2_with (go_at_call 9; refine (awake_any _ HE12.out.g).mono ?_; rintro e w' ⟨rfl, hb4⟩)
      go_ret
      exact ⟨rfl, HB12.out.trans (hb4.mono HB12.out.size)⟩
    have q1 : ∀ w, (Op.equalIn 10000 26 (.agg (y.map bv).toArray) (.agg (R.map bv).toArray)).run Tryd.prog w = .ok sm w := fun w => by
      rw [eYR w]
      cases sm with
      | true => rw [(hsmt rfl).1]; simp
      | false => rw [decide_eq_false (fun h => hbad ⟨rfl, h⟩)]
    have his : (ob && decide (y = R)) = sm := by
      cases sm with
      | true => rw [(hsmt rfl).1, (hsmt rfl).2]; simp
      | false => rw [decide_eq_false (fun h => hbad ⟨rfl, h⟩)]; simp
    rw [his] at IB
    clear eYR hsmt hbad his
    have HFd := Lib.hid (show Env (some ad) ls j u ad Aj cj Ap pd w12.drew from HF12.out.below (Below.refl _ _).drew)
    have RR := Lib.hid (show w12.drew.rangeAt g9 0 (R.map bv) from range_row (show w12.drew.heap[g9]? = _ from HR12.out))
    have RRl := Lib.hid (show g9 < w12.drew.heap.size from lt_of_block HR12.out)
    cases sm with
    | true =>
      go_upto_region 16 with fail
      refine wp_region_rel 155 Stp [.one ?_, .one ?_, .one ?_, .one ?_, .one ?_, .one ?_, .one ?_, .one ?_, .one ?_, .one ?_, .one ?_, .one ?_, .one ?_, .one ?_, .one ?_, .one ?_, .one ?_, .one ?_, .one ?_, .one ?_, .one ?_, .one ?_, .one ?_, .one ?_] (by kernel_rfl) (by kernel_rfl) rfl (by kernel_rfl) Stp.refl Stp.trans trivial ?main
      case main =>
      iterate 7
        refine wpR_one (A' := ?_) Stp.refl (by rfl) _ rfl 155 (by rfl) (by rfl) ?_ ?_ ?_
        rotate_left 1
        · simp only [Act.put, List.setIfInBounds_toArray, List.set_cons_zero, List.set_cons_succ]; rfl
        · intro w1 hs hf K hK
          go_big_quiet_op
          first
            | go_big_quiet_on
            | (refine ⟨_, fun _ _ => rfl, ?_⟩; go_big_quiet_on)
          rfl
      refine wpR_one (A' := ?_) Stp.refl (by rfl) _ rfl 155 (by rfl) (by rfl) ?_ ?_ ?_
      rotate_left 1
      · simp only [Act.put, List.setIfInBounds_toArray, List.set_cons_zero, List.set_cons_succ]; rfl
      · intro w1 hs hf K hK
        refine cls_load 26 (.tmp 9) rfl (g9) (0) rfl (R.map bv) _ (fun w4 h2 => range_below (range_below RR.out hs RRl.out) h2 (Nat.lt_of_lt_of_le RRl.out (Below.size hs))) Tryd.underlying26 rfl X1.out ?_
        refine hK _ ?_
        simp only [Act.put, List.setIfInBounds_toArray, List.set_cons_zero, List.set_cons_succ]
        rfl
      iterate 3
        refine wpR_one (A' := ?_) Stp.refl (by rfl) _ rfl 155 (by rfl) (by rfl) ?_ ?_ ?_
        rotate_left 1
        · simp only [Act.put, List.setIfInBounds_toArray, List.set_cons_zero, List.set_cons_succ]; rfl
        · intro w1 hs hf K hK
          go_big_quiet_op
          first
            | go_big_quiet_on
            | (refine ⟨_, fun _ _ => rfl, ?_⟩; go_big_quiet_on)
          rfl
      refine wpR_one (A' := ?_) Stp.refl (by rfl) _ rfl 155 (by rfl) (by rfl) ?_ ?_ ?_
      rotate_left 1
      · simp only [Act.put, List.setIfInBounds_toArray, List.set_cons_zero, List.set_cons_succ]; rfl
      · intro w1 hs hf K hK
        refine cls_load_sl (.tmp 142) rfl (ad.add j) rfl Aj u.length cj (fun w4 h2 => (Env.below (HFd.out.below hs) h2).c) ?_
        refine hK _ ?_
        simp only [Act.put, List.setIfInBounds_toArray, List.set_cons_zero, List.set_cons_succ]
        rfl
      iterate 4
        refine wpR_one (A' := ?_) Stp.refl (by rfl) _ rfl 155 (by rfl) (by rfl) ?_ ?_ ?_
        rotate_left 1
        · simp only [Act.put, List.setIfInBounds_toArray, List.set_cons_zero, List.set_cons_succ]; rfl
        · intro w1 hs hf K hK
          go_big_quiet_op
          first
            | go_big_quiet_on
            | (refine ⟨_, fun _ _ => rfl, ?_⟩; go_big_quiet_on)
          rfl
      refine wpR_one (A' := ?_) Stp.refl (by rfl) _ rfl 155 (by rfl) (by rfl) ?_ ?_ ?_
      rotate_left 1
      · simp only [Act.put, List.setIfInBounds_toArray, List.set_cons_zero, List.set_cons_succ]; rfl
      · intro w1 hs hf K hK
        have hf1 := Lib.hid (HFd.out.below hs)
        go_big_quiet_op
        apply Exists.intro
        refine ⟨fun w4 h2 => ?_, ?_⟩
        · refine (IB.out w4 (hf1.out.below h2)).mono ?_
          rintro e w3 ⟨rfl, h3⟩
          exact ⟨rfl, Stp.trans _ _ _ h2 h3⟩
        · go_big_quiet_on
          rfl
      iterate 4
        refine wpR_one (A' := ?_) Stp.refl (by rfl) _ rfl 155 (by rfl) (by rfl) ?_ ?_ ?_
        rotate_left 1
        · simp only [Act.put, List.setIfInBounds_toArray, List.set_cons_zero, List.set_cons_succ]; rfl
        · intro w1 hs hf K hK
          go_big_quiet_op
          first
            | go_big_quiet_on
            | (refine ⟨_, fun _ _ => rfl, ?_⟩; go_big_quiet_on)
          rfl
      refine wpR_one (A' := ?_) Stp.refl (by rfl) _ rfl 155 (by rfl) (by rfl) ?_ ?_ ?_
      rotate_left 1
      · simp only [Act.put, List.setIfInBounds_toArray, List.set_cons_zero, List.set_cons_succ]; rfl
      · intro w1 hs hf K hK
        have hf1 := Lib.hid (HFd.out.below hs)
        go_big_quiet_op
        apply Exists.intro
        refine ⟨fun w4 h2 => ?_, ?_⟩
        · refine (awake_any w4 (hf1.out.below h2).g).mono ?_
          rintro e w3 ⟨rfl, h3⟩
          exact ⟨rfl, Stp.trans _ _ _ h2 h3⟩
        · go_big_quiet_on
          rfl
      iterate 2
        refine wpR_one (A' := ?_) Stp.refl (by rfl) _ rfl 155 (by rfl) (by rfl) ?_ ?_ ?_
        rotate_left 1
        · simp only [Act.put, List.setIfInBounds_toArray, List.set_cons_zero, List.set_cons_succ]; rfl
        · intro w1 hs hf K hK
          go_big_quiet_op
          first
            | go_big_quiet_on
            | (refine ⟨_, fun _ _ => rfl, ?_⟩; go_big_quiet_on)
          rfl
      intro w13 hs hf
      have HS := Lib.hid (stp_start hs HB12.out)
      clear hs hf
      go_wp2_with fail
      go_ret
      exact ⟨rfl, HS.out⟩
    | false =>
      go_upto_region 16 with fail
      refine wp_region_rel 155 Stp [.one ?_, .one ?_, .one ?_, .one ?_, .one ?_, .one ?_, .one ?_, .one ?_, .one ?_, .one ?_, .one ?_, .one ?_, .one ?_, .one ?_, .one ?_, .one ?_, .one ?_, .one ?_, .one ?_, .one ?_, .one ?_, .one ?_, .one ?_, .one ?_] (by kernel_rfl) (by kernel_rfl) rfl (by kernel_rfl) Stp.refl Stp.trans trivial ?main
      case main =>
      iterate 7
        refine wpR_one (A' := ?_) Stp.refl (by rfl) _ rfl 155 (by rfl) (by rfl) ?_ ?_ ?_
        rotate_left 1
        · simp only [Act.put, List.setIfInBounds_toArray, List.set_cons_zero, List.set_cons_succ]; rfl
        · intro w1 hs hf K hK
          go_big_quiet_op
          first
            | go_big_quiet_on
            | (refine ⟨_, fun _ _ => rfl, ?_⟩; go_big_quiet_on)
          rfl
      refine wpR_one (A' := ?_) Stp.refl (by rfl) _ rfl 155 (by rfl) (by rfl) ?_ ?_ ?_
      rotate_left 1
      · simp only [Act.put, List.setIfInBounds_toArray, List.set_cons_zero, List.set_cons_succ]; rfl
      · intro w1 hs hf K hK
        refine cls_load 26 (.tmp 9) rfl (g9) (0) rfl (R.map bv) _ (fun w4 h2 => range_below (range_below RR.out hs RRl.out) h2 (Nat.lt_of_lt_of_le RRl.out (Below.size hs))) Tryd.underlying26 rfl X1.out ?_
        refine hK _ ?_
        simp only [Act.put, List.setIfInBounds_toArray, List.set_cons_zero, List.set_cons_succ]
        rfl
      iterate 3
        refine wpR_one (A' := ?_) Stp.refl (by rfl) _ rfl 155 (by rfl) (by rfl) ?_ ?_ ?_
        rotate_left 1
        · simp only [Act.put, List.setIfInBounds_toArray, List.set_cons_zero, List.set_cons_succ]; rfl
        · intro w1 hs hf K hK
          go_big_quiet_op
          first
            | go_big_quiet_on
            | (refine ⟨_, fun _ _ => rfl, ?_⟩; go_big_quiet_on)
          rfl
      refine wpR_one (A' := ?_) Stp.refl (by rfl) _ rfl 155 (by rfl) (by rfl) ?_ ?_ ?_
      rotate_left 1
      · simp only [Act.put, List.setIfInBounds_toArray, List.set_cons_zero, List.set_cons_succ]; rfl
      · intro w1 hs hf K hK
        refine cls_load_sl (.tmp 142) rfl (ad.add j) rfl Aj u.length cj (fun w4 h2 => (Env.below (HFd.out.below hs) h2).c) ?_
        refine hK _ ?_
        simp only [Act.put, List.setIfInBounds_toArray, List.set_cons_zero, List.set_cons_succ]
        rfl
      iterate 4
        refine wpR_one (A' := ?_) Stp.refl (by rfl) _ rfl 155 (by rfl) (by rfl) ?_ ?_ ?_
        rotate_left 1
        · simp only [Act.put, List.setIfInBounds_toArray, List.set_cons_zero, List.set_cons_succ]; rfl
        · intro w1 hs hf K hK
          go_big_quiet_op
          first
            | go_big_quiet_on
            | (refine ⟨_, fun _ _ => rfl, ?_⟩; go_big_quiet_on)
          rfl
      refine wpR_one (A' := ?_) Stp.refl (by rfl) _ rfl 155 (by rfl) (by rfl) ?_ ?_ ?_
      rotate_left 1
      · simp only [Act.put, List.setIfInBounds_toArray, List.set_cons_zero, List.set_cons_succ]; rfl
      · intro w1 hs hf K hK
        have hf1 := Lib.hid (HFd.out.below hs)
        go_big_quiet_op
        apply Exists.intro
        refine ⟨fun w4 h2 => ?_, ?_⟩
        · refine (IB.out w4 (hf1.out.below h2)).mono ?_
          rintro e w3 ⟨rfl, h3⟩
          exact ⟨rfl, Stp.trans _ _ _ h2 h3⟩
        · go_big_quiet_on
          rfl
      iterate 4
        refine wpR_one (A' := ?_) Stp.refl (by rfl) _ rfl 155 (by rfl) (by rfl) ?_ ?_ ?_
        rotate_left 1
        · simp only [Act.put, List.setIfInBounds_toArray, List.set_cons_zero, List.set_cons_succ]; rfl
        · intro w1 hs hf K hK
          go_big_quiet_op
          first
            | go_big_quiet_on
            | (refine ⟨_, fun _ _ => rfl, ?_⟩; go_big_quiet_on)
          rfl
      refine wpR_one (A' := ?_) Stp.refl (by rfl) _ rfl 155 (by rfl) (by rfl) ?_ ?_ ?_
      rotate_left 1
      · simp only [Act.put, List.setIfInBounds_toArray, List.set_cons_zero, List.set_cons_succ]; rfl
      · intro w1 hs hf K hK
        have hf1 := Lib.hid (HFd.out.below hs)
        go_big_quiet_op
        apply Exists.intro
        refine ⟨fun w4 h2 => ?_, ?_⟩
        · refine (awake_any w4 (hf1.out.below h2).g).mono ?_
          rintro e w3 ⟨rfl, h3⟩
          exact ⟨rfl, Stp.trans _ _ _ h2 h3⟩
        · go_big_quiet_on
          rfl
      iterate 2
        refine wpR_one (A' := ?_) Stp.refl (by rfl) _ rfl 155 (by rfl) (by rfl) ?_ ?_ ?_
        rotate_left 1
        · simp only [Act.put, List.setIfInBounds_toArray, List.set_cons_zero, List.set_cons_succ]; rfl
        · intro w1 hs hf K hK
          go_big_quiet_op
          first
            | go_big_quiet_on
            | (refine ⟨_, fun _ _ => rfl, ?_⟩; go_big_quiet_on)
          rfl
      intro w13 hs hf
      have HS := Lib.hid (stp_start hs HB12.out)
      clear hs hf
      go_wp2_with fail
      go_ret
      exact ⟨rfl, HS.out⟩
theorem climbs_law (A : Option Addr) (c : Nat) (ls : List (List B8)) (z zo : Int) (w : World) (hL : LstN w A ls) (hm : ls.length ≤ maxLen) (hA : A = none → c = 0) (hc : ls.length ≤ c) {p : Prop} (_ : p) {q : Prop} (_ : q) (hG : Glob w) :
    Calls Tryd.prog 5 #[.slice A ls.length c, .int .i64 z, .int .i64 zo] w fun e w' => e = .returned (.bool true) ∧ Below w.heap.size w w' := climbs_any A c ls z zo w hL hA hc hm hG
end Go.Proofs.YtppkjlmnnpfcfaaDoor
