/- 'HeaderNext': its walk, over what 'awake' comes to. -/
import Derived.Test.YtoagneibaincpaaDoorHkX
set_option linter.unusedVariables false
set_option linter.unusedSimpArgs false
namespace Go.Proofs.YtoagneibaincpaaDoor
open Go.RowKit
/-- The leaves, or none. -/
def LSof (b : List B8) (e : Ent) (n : Nat) : List (List B8) := if okL e n then [b, formE e, numB n] else []
theorem LSof_len (b : List B8) (e : Ent) (n : Nat) : (((LSof b e n).length : Int) == 3) = decide (okL e n) := by
  unfold LSof
  by_cases h : okL e n
  · rw [if_pos h, decide_eq_true h]; rfl
  · rw [if_neg h, decide_eq_false h]; rfl
theorem LSof_le (b : List B8) (e : Ent) (n : Nat) : (LSof b e n).length ≤ 3 := by
  unfold LSof
  split <;> simp
theorem ent_le (e : Ent) (hd : e.d.length = 32) (h : okB e) : (formE e).length ≤ 100 := by
  unfold okB at h
  unfold formE
  have n1 := numB_le (n := e.k.toNat) (by omega)
  have n2 := numB_le (n := e.s.toNat) (by omega)
  have n3 := numB_le (n := e.a) (by omega)
  have n4 := numB_le (n := e.y.toNat) (by omega)
  have n5 := numB_le (n := e.p.toNat) (by omega)
  simp only [List.length_append]
  omega
theorem LSof_small (b : List B8) (e : Ent) (n : Nat) (hd : e.d.length = 32) (hb : b.length ≤ 1000000) (hn : n < 18446744073709551616) : ∀ xs ∈ LSof b e n, xs.length ≤ 1000000 := by
  unfold LSof
  split
  · rename_i h
    intro xs hx
    simp only [List.mem_cons, List.not_mem_nil, or_false] at hx
    rcases hx with rfl | rfl | rfl
    · exact hb
    · have := ent_le e hd h.1; omega
    · have := numB_le hn; omega
  · simp
theorem lstn_nil (w : World) (A : Option Addr) : LstN w A [] := fun i xs h => by simp at h
theorem lstn_turn {w w' : World} {A : Option Addr} {ls : List (List B8)} (h : LstN w A ls) (t : Turn (fun _ => False) w w') : LstN w' A ls := h.below (turn_stp' t)
theorem hleaves_u (A : Option Addr) (c : Nat) (b : List B8) (e : Ent) (n : Nat) (w : World) (hB : Bts w A b) (hA : A = none → c = 0) (hc : b.length ≤ c) (hlen : b.length ≤ 1000000) (hd : e.d.length = 32) (hn : n < 18446744073709551616) :
    Calls Tryd.prog 18 #[.slice A b.length c, .agg e.cells.toArray, .int .u64 (n : Int)] w fun r w' => Turn (fun _ => False) w w' ∧ ∃ L, r = .returned (.tuple #[.slice L (LSof b e n).length (LSof b e n).length, .bool (decide (okL e n))]) ∧ LstN w' L (LSof b e n) ∧ (L = none → (LSof b e n).length = 0) := by
  refine (hleaves_any A c b e n w hB hA hc hlen hd hn).mono ?_
  rintro r w' ⟨t, h⟩
  refine ⟨t, ?_⟩
  unfold LSof
  by_cases hk : okL e n
  · rw [if_pos hk] at h
    obtain ⟨g, rfl, -, hl⟩ := h
    rw [if_pos hk, decide_eq_true hk]
    exact ⟨_, rfl, hl, fun h => by cases h⟩
  · rw [if_neg hk] at h
    rw [if_neg hk, decide_eq_false hk]
    exact ⟨none, h, lstn_nil _ _, fun _ => rfl⟩
theorem rleaves_u (A : Option Addr) (c : Nat) (b : List B8) (e : Ent) (n : Nat) (w : World) (hB : Bts w A b) (hA : A = none → c = 0) (hc : b.length ≤ c) (hd : e.d.length = 32) (hn : n < 18446744073709551616) :
    Calls Tryd.prog 19 #[.slice A b.length c, .agg e.cells.toArray, .int .u64 (n : Int)] w fun r w' => Turn (fun _ => False) w w' ∧ ∃ L, r = .returned (.slice L (LSof b e n).length (LSof b e n).length) ∧ LstN w' L (LSof b e n) ∧ (L = none → (LSof b e n).length = 0) := by
  refine (rleaves_any A c b e n w hB hA hc hd hn).mono ?_
  rintro r w' ⟨t, h⟩
  refine ⟨t, ?_⟩
  unfold LSof
  by_cases hk : okL e n
  · rw [if_pos hk] at h
    obtain ⟨g, rfl, -, hl⟩ := h
    rw [if_pos hk]
    exact ⟨_, rfl, hl, fun h => by cases h⟩
  · rw [if_neg hk] at h
    rw [if_neg hk]
    exact ⟨none, h, lstn_nil _ _, fun _ => rfl⟩
theorem fol_next {prev : Hdr} {n : Nat} {root : List B8} {shard epoch : Int} (h : okN prev false n root shard epoch) : folK prev (nxV prev false n root shard epoch) := by
  have hv : nxV prev false n root shard epoch = nxB prev false root shard epoch := if_pos h
  rw [hv]
  obtain ⟨-, hf, hk⟩ := h
  rcases hf with hf | hf
  · cases hf
  · exact ⟨hf.1, hk, rfl, rfl, hf.2, rfl⟩
theorem nxV_L (prev : Hdr) (first : Bool) (n : Nat) (root : List B8) (shard epoch : Int) (hr : root.length = 32) : (nxV prev first n root shard epoch).L := by
  unfold nxV
  split
  · exact nxB_L _ _ _ _ _ hr
  · exact HZ_L
attribute [local go_sem ↓] loadAt_hd loadAt_en loadAt_id
attribute [local go_sem] run_hdLoad run_enLoad run_idLoad rowOf_drew rowOf_drewN
set_option maxRecDepth 100000 in
set_option maxHeartbeats 8000000 in
theorem headerNext_of (AW : ∀ w, Glob w → Calls Tryd.prog 13 #[] w fun r w' => r = .returned (.bool true) ∧ Turn (fun _ => False) w w') (prev : Hdr) (first : Bool) (A : Option Addr) (c : Nat) (b : List B8) (e : Ent) (n : Nat) (shard epoch : Int) (w : World) (hp : prev.L) (hB : Bts w A b) (hA : A = none → c = 0) (hc : b.length ≤ c) (hm : b.length ≤ maxLen) (hd : e.d.length = 32) (hn : n < 18446744073709551616) (hG : Glob w) :
    Calls Tryd.prog 5 #[.agg prev.cells.toArray, .bool first, .slice A b.length c, .agg e.cells.toArray, .int .u64 (n : Int), .int .i64 shard, .int .i64 epoch] w fun r w' => r = .returned (.bool true) ∧ Turn (fun _ => False) w w' := by
  unfold maxLen at hm
  have AW := Lib.hid AW
  obtain ⟨C, hC⟩ : ∃ C, C = prev.cells.toArray := ⟨_, rfl⟩
  obtain ⟨EC, hEC⟩ : ∃ C, C = e.cells.toArray := ⟨_, rfl⟩
  obtain ⟨w0, hw0⟩ : ∃ w0, w0 = (w.alloc (.cells C 25)).alloc (.cells EC 42) := ⟨_, rfl⟩
  have t0 : Turn (fun _ => False) w w0 := by rw [hw0]; exact ((Turn.refl _ _).alloc _).alloc _
  have e0 : HAt w0 w.heap.size prev := by rw [hw0, hC]; exact heap_alloc2_old _ _ _
  have e1 : EAt w0 (w.heap.size + 1) e := by rw [hw0, hEC]; exact heap_alloc2_new _ _ _
  have RF := Lib.hid (show ∀ w' : World, Turn (fun _ => False) w0 w' → rowOf w' w.heap.size 0 67 = some C ∧ rowOf w' (w.heap.size + 1) 0 37 = some EC from fun w' t => by rw [hC, hEC]; exact ⟨(e0.turn t (fun h => h)).row hp, (e1.turn t (fun h => h)).row hd⟩)
  have GL := Lib.hid (fun (w' : World) (t : Turn (fun _ => False) w0 w') => show Glob w' from glob_turn (glob_turn hG t0) t)
  have BT := Lib.hid (fun (w' : World) (t : Turn (fun _ => False) w0 w') => show Bts w' A b from bts_turn (bts_turn hB t0) t)
  have T0 := Lib.hid t0
  have LE := Lib.hid (fun (w' : World) (h : b.length ≤ 60) (t : Turn (fun _ => False) w0 w') => hleaves_u A c b e n w' (BT.out w' t) hA hc (by omega) hd hn)
  have RE := Lib.hid (fun (w' : World) (t : Turn (fun _ => False) w0 w') => rleaves_u A c b e n w' (BT.out w' t) hA hc hd hn)
  have hk3 := LSof_len b e n
  have hkle := LSof_le b e n
  have LSM := Lib.hid (fun (h : b.length ≤ 60) => LSof_small b e n hd (by omega) hn)
  obtain ⟨bl, hbl⟩ : ∃ bl, bl = b.length := ⟨_, rfl⟩
  rw [← hEC] at LE RE
  rw [← hbl] at LE RE LSM hm
  rw [← hC, ← hEC, ← hbl]
  obtain ⟨LS, hLS⟩ : ∃ LS, LS = LSof b e n := ⟨_, rfl⟩
  rw [← hLS] at LE RE hk3 hkle LSM
  obtain ⟨okl, hokl⟩ : ∃ okl, okl = decide (okL e n) := ⟨_, rfl⟩
  rw [← hokl] at LE hk3
  obtain ⟨R, hR⟩ : ∃ R, R = rootD LS := ⟨_, rfl⟩
  have hR32 : R.length = 32 := by rw [hR]; exact rootD_len _
  obtain ⟨k, hk⟩ : ∃ k, k = LS.length := ⟨_, rfl⟩
  have CN := Lib.hid (fun (L : Option Addr) (w' : World) (h60 : bl ≤ 60) (hL : LstN w' L LS) (hl : L = none → LS.length = 0) (hg : Glob w') => hnext_any prev first L LS.length LS.length LS shard epoch w' rfl hp hL (Nat.le_refl _) hl (LSM.out h60) hg)
  have CR := Lib.hid (fun (L : Option Addr) (w' : World) (h60 : bl ≤ 60) (hL : LstN w' L LS) (hl : L = none → LS.length = 0) => rnext_any prev first L LS.length LS.length LS rfl shard epoch w' hp hL (Nat.le_refl _) hl (LSM.out h60))
  unfold NPost at CN CR
  rw [← hR, ← hC] at CN CR
  have NVL := nxV_L prev first LS.length R shard epoch hR32
  have FW := Lib.hid (fun (w' : World) (hf : first = false) (hk : decide (okN prev first LS.length R shard epoch) = true) (hg : Glob w') => show Calls Tryd.prog 22 #[.agg C, .agg (nxV prev first LS.length R shard epoch).cells.toArray] w' fun r w'' => r = .returned (.bool true) ∧ Turn (fun _ => False) w' w'' from by
    subst hf
    have h := hfollows_any prev (nxV prev false LS.length R shard epoch) w' hp NVL hg
    rw [decide_eq_true (fol_next (of_decide_eq_true hk)), ← hC] at h
    exact h)
  have hQ := fun w => eql_in_hdr _ _ NVL NVL w
  simp only [decide_true] at hQ
  obtain ⟨V, hV⟩ : ∃ V, V = (nxV prev first LS.length R shard epoch).cells.toArray := ⟨_, rfl⟩
  obtain ⟨K, hK⟩ : ∃ K, K = decide (okN prev first LS.length R shard epoch) := ⟨_, rfl⟩
  rw [← hV] at hQ CN CR FW
  rw [← hK] at CN CR FW
  rw [← hk] at CN CR LE RE hk3 hkle
  have sV : V.size = 67 := by rw [hV, List.size_toArray, Hdr.len _ NVL]
  have V1 := Lib.hid (show (Tryd.prog.info? 25).map (·.size) = some V.size by rw [sV]; exact hd_info)
  have V2 := Lib.hid (show Z67H.size = V.size by rw [sV]; rfl)
  have V3 := Lib.hid (show V.all (·.oneCell') = true by rw [hV]; exact Hdr.one _)
  have VR := Lib.hid (show ∀ (w' : World) (g : Nat), w'.heap[g]? = some (.cells V 25 (0, 0)) → rowOf w' g 0 67 = some V from fun w' g h => by
    have hh : HAt w' g (nxV prev first LS.length R shard epoch) := by unfold HAt; rw [← hV]; exact h
    rw [hV]; exact hh.row NVL)
  have HK := Lib.hid hk
  have hzd := hd_zero
  clear t0 e0 e1 hC hEC hG hB hA hc hd hn hp hbl hLS hokl hR hR32 hk NVL hV hK sV
  by_cases h60 : 60 < bl
  · have q0 : decide ((60 : Int) < (bl : Int)) = true := by rw [decide_eq_true_eq]; omega
    clear CN CR FW LE RE hQ
    go_enter Tryd.func5, Tryd.ntmps5
    go_upto_region 1 with fail
    change Code.wp _ _ _ _ ((w.alloc (.cells C 25)).alloc (.cells EC 42))
    rw [← hw0]
    clear hw0
    go_wp2_with (go_at_call 13; refine stop ?_)
    unfold Stop
    refine (AW.out w0 (GL.out w0 (Turn.refl _ _))).mono ?_
    rintro r w1 ⟨rfl, t⟩
    have T1 := Lib.hid t
    clear t
    go_wp2
    go_ret
    exact ⟨rfl, T0.out.trans T1.out (fun _ _ h => h)⟩
  have q0 : decide ((60 : Int) < (bl : Int)) = false := by rw [decide_eq_false_iff_not]; omega
  have LE := Lib.hid (fun w' t => LE.out w' (by omega) t)
  have CN := Lib.hid (fun L w' a1 a2 a3 => CN.out L w' (by omega) a1 a2 a3)
  have CR := Lib.hid (fun L w' a1 a2 => CR.out L w' (by omega) a1 a2)
  have LSM := Lib.hid (LSM.out (by omega))
  clear h60
  go_enter Tryd.func5, Tryd.ntmps5
  go_upto_region 1 with fail
  change Code.wp _ _ _ _ ((w.alloc (.cells C 25)).alloc (.cells EC 42))
  rw [← hw0]
  clear hw0
  obtain ⟨r1, r2⟩ := RF.out w0 (Turn.refl _ _)
  go_wp2_with (go_at_call 18; refine stop ?_)
  unfold Stop
  refine (LE.out w0 (Turn.refl _ _)).mono ?_
  rintro r w1 ⟨t, L, rfl, hL, hLn⟩
  have T1 := Lib.hid t
  have HL1 := Lib.hid hL
  have HLN := Lib.hid hLn
  clear t hL hLn r1 r2 LE
  obtain ⟨r1, r2⟩ := RF.out w1 T1.out
  go_wp2_with (go_at_call 19; refine stop ?_)
  unfold Stop
  refine (RE.out w1 T1.out).mono ?_
  rintro r w2 ⟨t, M, rfl, hM, hMn⟩
  have T2 := Lib.hid (T1.out.trans t (fun _ _ h => h))
  have HL2 := Lib.hid (lstn_turn HL1.out t)
  have HM2 := Lib.hid hM
  have HMN := Lib.hid hMn
  clear t hM hMn r1 r2 RE HL1 T1
  go_upto_region 8 with fail
  go_loopw [18] (fun i wr => ∃ j : Nat, j ≤ k ∧ i = .int .i64 (j : Int) ∧ Turn (fun _ => False) w2 wr) (fun i _ => k - (intOf i).toNat)
  case atStart => exact ⟨0, Nat.zero_le _, rfl, Turn.refl _ _⟩
  case round =>
    obtain ⟨j, hj, rfl, ht⟩ := hrel
    by_cases hlt : j < k
    · have t1 : decide ((j : Int) < (k : Int)) = true := by rw [decide_eq_true_eq]; omega
      obtain ⟨x, hx⟩ : ∃ x, LS[j]? = some x := ⟨_, List.getElem?_eq_getElem (by rw [← HK.out]; exact hlt)⟩
      obtain ⟨a1, A1, c1, hL1, cl1, -, -, b1⟩ := (lstn_turn HL2.out ht) j x hx
      obtain ⟨a2, A2, c2, hM1, cl2, -, -, b2⟩ := (lstn_turn HM2.out ht) j x hx
      have hxl : x.length ≤ maxLen := by have := LSM.out x (List.mem_of_getElem? hx); unfold maxLen; omega
      have CM := Lib.hid (fun (q : Nat) => show Calls Tryd.prog 15 #[.slice A1 x.length c1, .slice A2 x.length c2] (wr.drewN q) (fun r w'' => r = .returned (.bool true) ∧ ∃ m, w'' = wr.drewN m) from (rbytes_any A1 A2 c1 c2 wr.heap.size wr.heap.size x x (wr.drewN q) (((Turn.refl (fun _ => False) wr).drewN q).sl (bts_sl b1) (fun _ _ h => h)) (((Turn.refl (fun _ => False) wr).drewN q).sl (bts_sl b2) (fun _ _ h => h)) hxl hxl).mono (fun r w'' ⟨h1, m, h2⟩ => ⟨by rw [h1]; simp, q + m, by rw [h2, drewN_add]⟩))
      have HTR := Lib.hid ht
      obtain ⟨xl, hxl'⟩ : ∃ xl, xl = x.length := ⟨_, rfl⟩
      rw [← hxl'] at CM cl1 cl2
      subst hL1 hM1
      clear hx ht b1 b2 hxl hxl' CN CR FW hQ AW
      go_wp2_with fail
      go_quiet (exact CM.out _)
      go_wp2_with fail
      go_roundw
      case rel => exact ⟨j + 1, by omega, by go_num, HTR.out.drewN _⟩
      case measure => simp [intOf]; omega
    · obtain rfl : j = k := by omega
      have t1 : decide ((j : Int) < (j : Int)) = false := by rw [decide_eq_false_iff_not]; omega
      have T3 := Lib.hid (T2.out.trans ht (fun _ _ h => h))
      have HL3 := Lib.hid (lstn_turn HL2.out ht)
      have HM3 := Lib.hid (lstn_turn HM2.out ht)
      clear ht hlt hj HL2 HM2
      generalize wr = w3 at *
      obtain ⟨r1, r2⟩ := RF.out w3 T3.out
      go_wp2_with (go_at_call 20; refine stop ?_)
      unfold Stop
      refine (CN.out L w3 HL3.out HLN.out (GL.out w3 T3.out)).mono ?_
      rintro r w4 ⟨rfl, t⟩
      have T4 := Lib.hid (T3.out.trans t (fun _ _ h => h))
      have HM4 := Lib.hid (lstn_turn HM3.out t)
      clear t r1 r2 CN HL3 HM3
      have HA4 := Lib.hid (show (w4.alloc (.cells Z67H 25)).heap[w4.heap.size]? = some (.cells Z67H 25 (0, 0)) from heap_alloc_new _ _)
      go_upto_region 13 with (refine wpList_store_row rfl _ _ _ rfl w4.heap.size V rfl rfl 25 Z67H HA4.out V1.out V2.out V3.out ?_)
      obtain ⟨w5, hw5⟩ : ∃ w5, w5 = (w4.alloc (.cells Z67H 25)).setRow w4.heap.size V := ⟨_, rfl⟩
      have t5 : Turn (fun _ => False) w4 w5 := by rw [hw5]; exact ((Turn.refl (fun _ => False) w4).alloc _).setRow _ _ (fun h => by omega)
      have T5 := Lib.hid (T4.out.trans t5 (fun _ _ h => h))
      have HM5 := Lib.hid (lstn_turn HM4.out t5)
      have H5 := Lib.hid (show w5.heap[w4.heap.size]? = some (.cells V 25 (0, 0)) by rw [hw5]; exact setRow_heap _ _ _ _ _ _ HA4.out)
      change Code.wp _ _ _ _ ((w4.alloc (.cells Z67H 25)).setRow w4.heap.size V)
      rw [← hw5]
      clear hw5 HA4 t5 HM4 T4
      generalize w4.heap.size = p4 at *
      obtain ⟨r1, r2⟩ := RF.out w5 T5.out
      go_wp2_with (go_at_call 21; refine stop ?_)
      unfold Stop
      refine (CR.out M w5 HM5.out HMN.out).mono ?_
      rintro r w6 ⟨rfl, t⟩
      have T6 := Lib.hid (T5.out.trans t (fun _ _ h => h))
      have H6 := Lib.hid (t.heap H5.out (fun h => h))
      clear t r1 r2 CR HM5 H5
      have HA6 := Lib.hid (show (w6.alloc (.cells Z67H 25)).heap[w6.heap.size]? = some (.cells Z67H 25 (0, 0)) from heap_alloc_new _ _)
      go_upto_region 14 with (refine wpList_store_row rfl _ _ _ rfl w6.heap.size V rfl rfl 25 Z67H HA6.out V1.out V2.out V3.out ?_)
      obtain ⟨w7, hw7⟩ : ∃ w7, w7 = (w6.alloc (.cells Z67H 25)).setRow w6.heap.size V := ⟨_, rfl⟩
      have t7 : Turn (fun _ => False) w6 w7 := by rw [hw7]; exact ((Turn.refl (fun _ => False) w6).alloc _).setRow _ _ (fun h => by omega)
      have T7 := Lib.hid (T6.out.trans t7 (fun _ _ h => h))
      have HA7 := Lib.hid (t7.heap H6.out (fun h => h))
      have HB7 := Lib.hid (show w7.heap[w6.heap.size]? = some (.cells V 25 (0, 0)) by rw [hw7]; exact setRow_heap _ _ _ _ _ _ HA6.out)
      change Code.wp _ _ _ _ ((w6.alloc (.cells Z67H 25)).setRow w6.heap.size V)
      rw [← hw7]
      clear hw7 HA6 t7 H6 T6
      generalize w6.heap.size = p6 at *
      obtain ⟨r1, r2⟩ := RF.out w7 T7.out
      have v1 := VR.out w7 p4 HA7.out
      have v2 := VR.out w7 p6 HB7.out
      cases K
      · clear FW
        go_wp2_with (go_at_call 13; refine stop ?_)
        unfold Stop
        refine (AW.out w7 (GL.out w7 T7.out)).mono ?_
        rintro r w9 ⟨rfl, t⟩
        have T9 := Lib.hid (T7.out.trans t (fun _ _ h => h))
        clear t r1 r2 v1 v2
        go_wp2
        go_ret
        exact ⟨rfl, T0.out.trans T9.out (fun _ _ h => h)⟩
      · cases first
        · have FX := Lib.hid (fun (w' : World) (hg : Glob w') => FW.out w' rfl rfl hg)
          clear FW
          go_wp2_with (go_at_call 22; refine stop ?_)
          unfold Stop
          refine (FX.out w7 (GL.out w7 T7.out)).mono ?_
          rintro r w8 ⟨rfl, t⟩
          have T8 := Lib.hid (T7.out.trans t (fun _ _ h => h))
          clear t r1 r2 v1 v2
          go_wp2_with (go_at_call 13; refine stop ?_)
          unfold Stop
          refine (AW.out w8 (GL.out w8 T8.out)).mono ?_
          rintro r w9 ⟨rfl, t⟩
          have T9 := Lib.hid (T8.out.trans t (fun _ _ h => h))
          clear t
          go_wp2
          go_ret
          exact ⟨rfl, T0.out.trans T9.out (fun _ _ h => h)⟩
        · clear FW
          go_wp2_with (go_at_call 13; refine stop ?_)
          unfold Stop
          refine (AW.out w7 (GL.out w7 T7.out)).mono ?_
          rintro r w9 ⟨rfl, t⟩
          have T9 := Lib.hid (T7.out.trans t (fun _ _ h => h))
          clear t r1 r2 v1 v2
          go_wp2
          go_ret
          exact ⟨rfl, T0.out.trans T9.out (fun _ _ h => h)⟩
end Go.Proofs.YtoagneibaincpaaDoor
