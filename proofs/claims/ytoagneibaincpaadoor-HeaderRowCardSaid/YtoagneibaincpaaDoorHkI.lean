/- 'HeaderRow': its walk. -/
import Derived.Test.YtoagneibaincpaaDoorHkM
set_option linter.unusedVariables false
set_option linter.unusedSimpArgs false
namespace Go.Proofs.YtoagneibaincpaaDoor
open Go.RowKit
attribute [local go_sem ↓] loadAt_hd loadAt_en loadAt_id
attribute [local go_sem] run_hdLoad run_enLoad run_idLoad rowOf_drew rowOf_drewN
theorem vsize {V : Array Value} {e : Hdr} (hV : V = e.cells.toArray) (h : e.L) : V.size = 67 := by rw [hV, List.size_toArray, Hdr.len _ h]
/-- What a store of a header wants. -/
def VK (V : Array Value) : Prop := (Tryd.prog.info? 25).map (·.size) = some V.size ∧ Z67H.size = V.size ∧ V.all (·.oneCell') = true ∧ V.size = 67
theorem vk {V : Array Value} {e : Hdr} (hV : V = e.cells.toArray) (h : e.L) : VK V := ⟨by rw [vsize hV h]; exact hd_info, by rw [vsize hV h]; rfl, by rw [hV]; exact Hdr.one _, vsize hV h⟩
theorem hnext_row (prev : Hdr) (xs : List B8) (i : Nat) (fi : Bool) (hfi : fi = (i == 0)) (h : i ≤ 100) (hp : i = 0 ∨ (prev.s = 5 ∧ prev.t = (i : Int) ∧ prev.p + 1 = (i : Int))) (hL : prev.L) (hx : xs.length ≤ 1000000) (g : Nat) (w : World) (hl : LstN w (some ⟨g, 0, none⟩) (lvs xs i)) (hG : Glob w) :
    Calls Tryd.prog 20 #[.agg prev.cells.toArray, .bool fi, .slice (some ⟨g, 0, none⟩) 3 3, .int .i64 5, .int .i64 (i : Int)] w fun r w' => r = .returned (.tuple #[.agg (hdN prev xs i).cells.toArray, .bool true]) ∧ Turn (fun _ => False) w w' := by
  have := hnext_any prev fi (some ⟨g, 0, none⟩) 3 3 (lvs xs i) 5 (i : Int) w rfl hL hl (Nat.le_refl _) (fun h => by cases h) (lvs_small xs i h hx) hG
  unfold NPost at this
  rw [hfi, nxV_row prev xs i h hp, decide_eq_true (okN_row prev xs i h hp)] at this
  rw [hfi]
  exact this
theorem rnext_row (prev : Hdr) (xs : List B8) (i : Nat) (fi : Bool) (hfi : fi = (i == 0)) (h : i ≤ 100) (hp : i = 0 ∨ (prev.s = 5 ∧ prev.t = (i : Int) ∧ prev.p + 1 = (i : Int))) (hL : prev.L) (hx : xs.length ≤ 1000000) (g : Nat) (w : World) (hl : LstN w (some ⟨g, 0, none⟩) (lvs xs i)) :
    Calls Tryd.prog 21 #[.agg prev.cells.toArray, .bool fi, .slice (some ⟨g, 0, none⟩) 3 3, .int .i64 5, .int .i64 (i : Int)] w fun r w' => r = .returned (.tuple #[.agg (hdN prev xs i).cells.toArray, .bool true]) ∧ Turn (fun _ => False) w w' := by
  have := rnext_any prev fi (some ⟨g, 0, none⟩) 3 3 (lvs xs i) rfl 5 (i : Int) w hL hl (Nat.le_refl _) (fun h => by cases h) (lvs_small xs i h hx)
  unfold NPost at this
  rw [hfi, nxV_row prev xs i h hp, decide_eq_true (okN_row prev xs i h hp)] at this
  rw [hfi]
  exact this
theorem hleaves_row (A : Option Addr) (c n : Nat) (xs : List B8) (hn : n = xs.length) (i : Nat) (h : i ≤ 100) (w : World) (hB : Bts w A xs) (hA : A = none → c = 0) (hc : n ≤ c) (hlen : n ≤ 1000000) :
    Calls Tryd.prog 18 #[.slice A n c, .agg (EK i).cells.toArray, .int .u64 (i : Int)] w fun r w' => Turn (fun _ => False) w w' ∧ ∃ g, r = .returned (.tuple #[.slice (some ⟨g, 0, none⟩) 3 3, .bool true]) ∧ w.heap.size ≤ g ∧ LstN w' (some ⟨g, 0, none⟩) (lvs xs i) := by
  subst hn
  have := hleaves_any A c xs (EK i) i w hB hA hc hlen (EK_d i) (by omega)
  simp only [if_pos (okL_EK i h)] at this
  exact this
theorem rleaves_row (A : Option Addr) (c n : Nat) (xs : List B8) (hn : n = xs.length) (i : Nat) (h : i ≤ 100) (w : World) (hB : Bts w A xs) (hA : A = none → c = 0) (hc : n ≤ c) :
    Calls Tryd.prog 19 #[.slice A n c, .agg (EK i).cells.toArray, .int .u64 (i : Int)] w fun r w' => Turn (fun _ => False) w w' ∧ ∃ g, r = .returned (.slice (some ⟨g, 0, none⟩) 3 3) ∧ w.heap.size ≤ g ∧ LstN w' (some ⟨g, 0, none⟩) (lvs xs i) := by
  subst hn
  have := rleaves_any A c xs (EK i) i w hB hA hc (EK_d i) (by omega)
  simp only [if_pos (okL_EK i h)] at this
  exact this
theorem take_le {ls : List (List B8)} {k : Nat} {x : List B8} (h : ∀ xs ∈ ls.take k, xs.length ≤ 20) (hx : ls[k]? = some x) (hl : x.length ≤ 20) : ∀ xs ∈ ls.take (k + 1), xs.length ≤ 20 := by
  intro y hy
  rw [List.take_add_one, hx] at hy
  rcases List.mem_append.1 hy with hy | hy
  · exact h y hy
  · obtain rfl : y = x := by simpa using hy
    exact hl
set_option maxRecDepth 100000 in
set_option maxHeartbeats 16000000 in
theorem headerRow_any (A : Option Addr) (c n : Nat) (ls : List (List B8)) (z : Int) (w : World) (hn : n = ls.length) (hL : LstN w A ls) (hA : A = none → c = 0) (hc : n ≤ c) (hm : n ≤ maxLen) (hG : Glob w) :
    Calls Tryd.prog 7 #[.slice A n c, .int .i64 z] w fun r w' => r = .returned (.bool true) ∧ Turn (fun _ => False) w w' := by
  unfold maxLen at hm
  have AW := Lib.hid hawake_any
  have GL := Lib.hid (fun (w' : World) (t : Turn (fun _ => False) w w') => show Glob w' from glob_turn hG t)
  have HL := Lib.hid (fun (w' : World) (t : Turn (fun _ => False) w w') => show LstN w' A ls from lstn_turn hL t)
  have HN := Lib.hid hn
  by_cases h12 : 12 < n
  · have q0 : decide ((12 : Int) < (n : Int)) = true := by rw [decide_eq_true_eq]; omega
    clear hL hA hc hG hn
    go_enter Tryd.func7, Tryd.ntmps7
    go_wp2_with (go_at_call 13; refine stop ?_)
    unfold Stop
    refine (AW.out w (GL.out w (Turn.refl _ _))).mono ?_
    rintro r w1 ⟨rfl, t⟩
    have T1 := Lib.hid t
    clear t
    go_wp2
    go_ret
    exact ⟨rfl, T1.out⟩
  have q0 : decide ((12 : Int) < (n : Int)) = false := by rw [decide_eq_false_iff_not]; omega
  have hn12 : n ≤ 12 := by omega
  have hzd := hd_zero
  obtain ⟨j0, hj, hy0, hy1, hy2⟩ := info_parts info_hd
  obtain ⟨i0, hi, hz0, hz1, hz2⟩ := info_parts info_u8
  obtain ⟨w1, hw1⟩ : ∃ w1, w1 = w.alloc (.cells Z67H 25) := ⟨_, rfl⟩
  have T1 := Lib.hid (show Turn (fun _ => False) w w1 by rw [hw1]; exact (Turn.refl _ _).alloc _)
  have H1 := Lib.hid (show HAt w1 w.heap.size HZ by rw [hw1]; exact heap_alloc_new _ _)
  have HS1 := Lib.hid (show w.heap.size + 1 ≤ w1.heap.size by rw [hw1]; simp)
  clear h12 hL hA hc hG hn hm
  go_enter Tryd.func7, Tryd.ntmps7
  go_upto_region 5 with fail
  change Code.wp _ _ _ _ (w.alloc (.cells Z67H 25))
  rw [← hw1]
  clear hw1
  go_upto_region 6 with fail
  go_loopw [5, 7, 8, 9, 10, 11] (fun v i _ _ _ _ wr => ∃ k : Nat, k ≤ n ∧ i = .int .i64 (k : Int) ∧ (∀ xs ∈ ls.take k, xs.length ≤ 20) ∧ Turn (fun _ => False) w wr ∧ HAt wr w.heap.size (pvH ls k) ∧ wr.ownsRow (w.heap.size + 1) 25 67 v k (hsC (hsN ls k)) ∧ w.heap.size + 1 ≤ wr.heap.size) (fun _ i _ _ _ _ _ => n - (intOf i).toNat)
  case atStart => exact ⟨0, Nat.zero_le _, rfl, by simp, T1.out, H1.out, ⟨rfl, .inl ⟨rfl, rfl⟩⟩, HS1.out⟩
  case round =>
    obtain ⟨k, hk, rfl, h20, ht, hh, ho, hs⟩ := hrel
    have H20 := Lib.hid h20
    have HT := Lib.hid ht
    have HH := Lib.hid hh
    have HO := Lib.hid ho
    have HS := Lib.hid hs
    clear h20 ht hh ho hs H1 T1 HS1
    by_cases hlt : k < n
    · have t1 : decide ((k : Int) < (n : Int)) = true := by rw [decide_eq_true_eq]; omega
      obtain ⟨x, hx⟩ : ∃ x, ls[k]? = some x := ⟨_, List.getElem?_eq_getElem (by rw [← HN.out]; exact hlt)⟩
      obtain ⟨ad, A1, c1, hA1, cl, hle, hno, hb⟩ := (HL.out wr HT.out) k x hx
      subst hA1
      obtain ⟨xl, hxl⟩ : ∃ xl, xl = x.length := ⟨_, rfl⟩
      rw [← hxl] at cl hle
      by_cases hx20 : 20 < xl
      · have q1 : decide ((20 : Int) < (xl : Int)) = true := by rw [decide_eq_true_eq]; omega
        clear hx hle hno hb hxl
        go_wp2_with (go_at_call 13; refine stop ?_)
        unfold Stop
        refine (AW.out wr (GL.out wr HT.out)).mono ?_
        rintro r w9 ⟨rfl, t⟩
        have T9 := Lib.hid (HT.out.trans t (fun _ _ h => h))
        clear t
        go_wp2
        go_ret
        exact ⟨rfl, T9.out⟩
      · have q1 : decide ((20 : Int) < (xl : Int)) = false := by rw [decide_eq_false_iff_not]; omega
        have H20' := Lib.hid (take_le H20.out hx (by omega))
        have HX := Lib.hid hx
        have HXL := Lib.hid hxl
        have HB := Lib.hid (And.intro hb (And.intro hno hle))
        have hk12 : k ≤ 11 := by omega
        have q2 : decide ((0 : Int) < (k : Int)) = decide (k ≠ 0) := by rw [decide_eq_decide]; omega
        obtain ⟨fi, hfi⟩ : ∃ fi, fi = (k == 0) := ⟨_, rfl⟩
        have q3 : ((k : Int) == 0) = fi := by rw [hfi]; exact beq0 k
        have LV := Lib.hid (hleaves_row A1 c1 xl x hxl k (by omega) wr HB.out.1 hno hle (by omega))
        have NX := Lib.hid (fun (g : Nat) (w' : World) hl hg => hnext_row (pvH ls k) x k fi hfi (by omega) (pvH_nums ls k) (pvH_L ls k) (by omega) g w' hl hg)
        rw [show hdN (pvH ls k) x k = hAt ls k by rw [hAt_eq, row_get ls k x hx]] at NX
        have FW := Lib.hid (fun (w' : World) (h0 : k ≠ 0) hg => hfollows_any (pvH ls k) (hAt ls k) w' (pvH_L ls k) (hAt_L ls k) hg)
        have FR := Lib.hid (fun h0 => fol_row ls k h0 (by omega))
        have HBE := Lib.hid (built_ek (k : Int))
        obtain ⟨EC, hEC⟩ : ∃ EC, EC = (EK k).cells.toArray := ⟨_, rfl⟩
        rw [show (Ent.cells ⟨3, 0, zeros 32, 0, 0, (k : Int)⟩).toArray = EC from hEC.symm] at HBE
        obtain ⟨PC, hPC⟩ : ∃ PC, PC = (pvH ls k).cells.toArray := ⟨_, rfl⟩
        obtain ⟨V, hV⟩ : ∃ V, V = (hAt ls k).cells.toArray := ⟨_, rfl⟩
        rw [← hEC] at LV
        rw [← hPC, ← hV] at NX FW
        have PR := Lib.hid (show ∀ (w' : World), HAt w' w.heap.size (pvH ls k) → rowOf w' w.heap.size 0 67 = some PC from fun w' h => by rw [hPC]; exact h.row (pvH_L ls k))
        have VR := Lib.hid (show ∀ (w' : World) (g : Nat), HAt w' g (hAt ls k) → rowOf w' g 0 67 = some V ∧ (w'.cell? ⟨g, 0, none⟩ = some (.int .i64 5) ∧ w'.cell? ⟨g, 1, none⟩ = some (.int .i64 ((k : Int) + 1))) from fun w' g h => by
          have hc := h.c
          have hn := hAt_nums ls k
          rw [hn.1, hn.2.1] at hc
          rw [hV]
          exact ⟨h.row (hAt_L ls k), hc.1, hc.2.1⟩)
        have HVK := Lib.hid (vk hV (hAt_L ls k))
        have HV := Lib.hid hV
        have HPC := Lib.hid hPC
        clear hx hle hno hb hxl hx20 hfi hEC hPC hV
        go_wp2_with (first
          | (refine wpList_build_eq (o := ⟨some 44, _, _, _, _, _⟩) rfl 42 #[(0, .const (.int .i64 3)), (5, .tmp 43)] rfl EC HBE.out ?_)
          | (go_at_call 18; refine stop ?_))
        unfold Stop
        refine LV.out.mono ?_
        rintro r wa ⟨t, gx, rfl, -, hl⟩
        have TA := Lib.hid t
        have TWA := Lib.hid (HT.out.trans t (fun _ _ h => h))
        have HLA := Lib.hid hl
        have HHA := Lib.hid (HH.out.turn t (fun h => h))
        clear t hl LV
        have rp := PR.out wa HHA.out
        go_wp2_with (go_at_call 20; refine stop ?_)
        unfold Stop
        refine (NX.out gx wa HLA.out (GL.out wa TWA.out)).mono ?_
        rintro r wb ⟨rfl, t⟩
        have TB := Lib.hid (TA.out.trans t (fun _ _ h => h))
        clear t NX HLA HHA rp TA TWA
        have HA4 := Lib.hid (show (wb.alloc (.cells Z67H 25)).heap[wb.heap.size]? = some (.cells Z67H 25 (0, 0)) from heap_alloc_new _ _)
        go_upto_region 12 with (refine wpList_store_row rfl _ _ _ rfl wb.heap.size V rfl rfl 25 Z67H HA4.out HVK.out.1 HVK.out.2.1 HVK.out.2.2.1 ?_)
        obtain ⟨wc, hwc⟩ : ∃ wc, wc = (wb.alloc (.cells Z67H 25)).setRow wb.heap.size V := ⟨_, rfl⟩
        have tc : Turn (fun _ => False) wb wc := by rw [hwc]; exact ((Turn.refl (fun _ => False) wb).alloc _).setRow _ _ (fun h => by omega)
        have TC := Lib.hid (TB.out.trans tc (fun _ _ h => h))
        have HPc := Lib.hid (show HAt wc wb.heap.size (hAt ls k) by unfold HAt; rw [← HV.out, hwc]; exact setRow_heap _ _ _ _ _ _ HA4.out)
        have HPN := Lib.hid (show wr.heap.size ≤ wb.heap.size from TB.out.size)
        change Code.wp _ _ _ _ ((wb.alloc (.cells Z67H 25)).setRow wb.heap.size V)
        rw [← hwc]
        clear hwc HA4 tc TB
        generalize wb.heap.size = p at *
        have HHC := Lib.hid (HH.out.turn TC.out (fun h => h))
        obtain ⟨v1, v2, v3⟩ := VR.out wc p HPc.out
        have rp := PR.out wc HHC.out
        by_cases hk0 : k = 0
        · have q4 : decide ((0 : Int) < (k : Int)) = false := by rw [decide_eq_false_iff_not]; omega
          have q5 : decide (0 < k) = false := by rw [decide_eq_false_iff_not]; omega
          clear q2 FW FR hk0
          go_upto_region 14 with fail
          obtain ⟨wd, hwd⟩ : ∃ wd, wd = wc := ⟨_, rfl⟩
          have TCD := Lib.hid (show Turn (fun _ => False) wc wd by rw [hwd]; exact Turn.refl _ _)
          have TD := Lib.hid (TC.out.trans TCD.out (fun _ _ h => h))
          rw [← hwd]
          clear hwd
          have TWD := Lib.hid (HT.out.trans TD.out (fun _ _ h => h))
          have HPD := Lib.hid (HPc.out.turn TCD.out (fun h => h))
          have HHD := Lib.hid (HHC.out.turn TCD.out (fun h => h))
          clear v1 v2 v3 rp HPc HHC TC TCD
          obtain ⟨v1, v2, v3⟩ := VR.out wd p HPD.out
          have HZD := Lib.hid (show wd.heap[w.heap.size]? = some (.cells PC 25 (0, 0)) by rw [HPC.out]; exact HHD.out)
          have HZS := Lib.hid (show PC.size = V.size by rw [HVK.out.2.2.2]; exact vsize HPC.out (pvH_L ls k))
          go_upto_region 15 with (refine wpList_store_row rfl _ _ _ rfl w.heap.size V rfl rfl 25 PC HZD.out HVK.out.1 HZS.out HVK.out.2.2.1 ?_)
          obtain ⟨we, hwe⟩ : ∃ we, we = wd.setRow w.heap.size V := ⟨_, rfl⟩
          have te : Turn (fun i => i = w.heap.size) wd we := by rw [hwe]; exact (Turn.refl _ _).setRow _ _ (fun _ => rfl)
          have HHE := Lib.hid (show HAt we w.heap.size (hAt ls k) by unfold HAt; rw [← HV.out, hwe]; exact setRow_heap _ _ _ _ _ _ HZD.out)
          have TWE := Lib.hid (show Turn (fun _ => False) w we from TWD.out.trans te (fun i hi h => by omega))
          have HOE := Lib.hid (turn_own67 te (turn_own67 TD.out HO.out (fun _ _ h => h)) (fun g hg h => by have := (HO.out.lt g hg).1; omega))
          have HSE := Lib.hid (show w.heap.size + 1 ≤ we.heap.size by have := HS.out; have := TD.out.size; have := te.size; omega)
          change Code.wp _ _ _ _ (wd.setRow w.heap.size V)
          rw [← hwe]
          clear hwe te HHD HPD HZD HZS v1 v2 v3 TWD TD HH
          have hr := (VR.out we w.heap.size HHE.out).1
          go_step
          iterate 6 go_step
          refine wpList_build_hd (o := ⟨some 90, _, _, _, _, _⟩) rfl (hAt ls k).cells (Hdr.len _ (hAt_L ls k)) V HV.out #[(0, .tmp 89)] rfl rfl ?_
          clear hr
          obtain ⟨wf, hwf⟩ : ∃ wf, wf = we.alloc (.cells V 25) := ⟨_, rfl⟩
          have tf : Turn (fun _ => False) we wf := by rw [hwf]; exact (Turn.refl _ _).alloc _
          have GF := Lib.hid (show wf.heap[we.heap.size]? = some (.cells V 25 (0, 0)) by rw [hwf]; exact heap_alloc_new _ _)
          have HOF := Lib.hid (turn_own67 tf HOE.out (fun _ _ h => h))
          have HHF := Lib.hid (HHE.out.turn tf (fun h => h))
          have TWF := Lib.hid (TWE.out.trans tf (fun _ _ h => h))
          have hsF : w.heap.size + 1 ≤ wf.heap.size := by have := HSE.out; have := tf.size; omega
          rw [← hwf]
          clear hwf tf HOE HHE TWE
          refine wpList_append_own (o := ⟨some 91, _, _, _, _, _⟩) wf rfl _ _ 52 rfl (w.heap.size + 1) 25 j0 (.agg Z67H) 67 88 Tryd.underlying52 hj hy0 hy1 hy2 (by kernel_rfl) (by decide) _ k (hsC (hsN ls k)) rfl HOF.out ⟨we.heap.size, 0, none⟩ 1 1 (hAt ls k).cells rfl (by rw [Hdr.len _ (hAt_L ls k)]) (fun j u hu => ?_) (one67 _) ?_ ?_ hsF ?_
          · have e : (⟨we.heap.size, 0, none⟩ : Addr).add j = ⟨we.heap.size, j, none⟩ := by unfold Addr.add; by_cases hj : j = 0 <;> simp [hj]
            rw [e, cell_of_row _ _ _ _ _ _ GF.out, HV.out, List.getElem?_toArray]; exact hu
          · unfold maxLen; omega
          · omega
          intro v7 w7 q1' q2' _
          have HO7 := Lib.hid (show w7.ownsRow (w.heap.size + 1) 25 67 v7 (k + 1) (hsC (hsN ls (k + 1))) by rw [hsN_succ]; exact q1')
          have tg := Turn.of_grown q2'
          have T7 := Lib.hid (show Turn (fun _ => False) w w7 from TWF.out.trans tg (fun i hi e => by have := (HOF.out.lt i e.symm).1; omega))
          have HH7 := Lib.hid (show HAt w7 w.heap.size (pvH ls (k + 1)) from HHF.out.turn tg (fun e => by have := (HOF.out.lt _ e.symm).1; omega))
          have HS7 := Lib.hid (show w.heap.size + 1 ≤ w7.heap.size by have := tg.size; omega)
          clear q1' q2' tg
          go_wp2_with fail
          go_roundw
          case rel => exact ⟨k + 1, by omega, by go_num, H20'.out, T7.out, HH7.out, HO7.out, HS7.out⟩
          case measure => simp [intOf]; omega
        · have q4 : decide ((0 : Int) < (k : Int)) = true := by rw [decide_eq_true_eq]; omega
          have q5 : decide (0 < k) = true := by rw [decide_eq_true_eq]; omega
          have FW := Lib.hid (fun w' hg => FW.out w' hk0 hg)
          rw [decide_eq_true (FR.out hk0)] at FW
          clear q2 FR
          go_wp2_with (go_at_call 22; refine stop ?_)
          unfold Stop
          refine (FW.out wc (GL.out wc (HT.out.trans TC.out (fun _ _ h => h)))).mono ?_
          rintro r wd ⟨rfl, t⟩
          have TCD := Lib.hid t
          have TD := Lib.hid (TC.out.trans TCD.out (fun _ _ h => h))
          clear t
          have TWD := Lib.hid (HT.out.trans TD.out (fun _ _ h => h))
          have HPD := Lib.hid (HPc.out.turn TCD.out (fun h => h))
          have HHD := Lib.hid (HHC.out.turn TCD.out (fun h => h))
          clear v1 v2 v3 rp HPc HHC TC TCD
          obtain ⟨v1, v2, v3⟩ := VR.out wd p HPD.out
          have HZD := Lib.hid (show wd.heap[w.heap.size]? = some (.cells PC 25 (0, 0)) by rw [HPC.out]; exact HHD.out)
          have HZS := Lib.hid (show PC.size = V.size by rw [HVK.out.2.2.2]; exact vsize HPC.out (pvH_L ls k))
          go_upto_region 15 with (refine wpList_store_row rfl _ _ _ rfl w.heap.size V rfl rfl 25 PC HZD.out HVK.out.1 HZS.out HVK.out.2.2.1 ?_)
          obtain ⟨we, hwe⟩ : ∃ we, we = wd.setRow w.heap.size V := ⟨_, rfl⟩
          have te : Turn (fun i => i = w.heap.size) wd we := by rw [hwe]; exact (Turn.refl _ _).setRow _ _ (fun _ => rfl)
          have HHE := Lib.hid (show HAt we w.heap.size (hAt ls k) by unfold HAt; rw [← HV.out, hwe]; exact setRow_heap _ _ _ _ _ _ HZD.out)
          have TWE := Lib.hid (show Turn (fun _ => False) w we from TWD.out.trans te (fun i hi h => by omega))
          have HOE := Lib.hid (turn_own67 te (turn_own67 TD.out HO.out (fun _ _ h => h)) (fun g hg h => by have := (HO.out.lt g hg).1; omega))
          have HSE := Lib.hid (show w.heap.size + 1 ≤ we.heap.size by have := HS.out; have := TD.out.size; have := te.size; omega)
          change Code.wp _ _ _ _ (wd.setRow w.heap.size V)
          rw [← hwe]
          clear hwe te HHD HPD HZD HZS v1 v2 v3 TWD TD HH
          have hr := (VR.out we w.heap.size HHE.out).1
          go_step
          iterate 6 go_step
          refine wpList_build_hd (o := ⟨some 90, _, _, _, _, _⟩) rfl (hAt ls k).cells (Hdr.len _ (hAt_L ls k)) V HV.out #[(0, .tmp 89)] rfl rfl ?_
          clear hr
          obtain ⟨wf, hwf⟩ : ∃ wf, wf = we.alloc (.cells V 25) := ⟨_, rfl⟩
          have tf : Turn (fun _ => False) we wf := by rw [hwf]; exact (Turn.refl _ _).alloc _
          have GF := Lib.hid (show wf.heap[we.heap.size]? = some (.cells V 25 (0, 0)) by rw [hwf]; exact heap_alloc_new _ _)
          have HOF := Lib.hid (turn_own67 tf HOE.out (fun _ _ h => h))
          have HHF := Lib.hid (HHE.out.turn tf (fun h => h))
          have TWF := Lib.hid (TWE.out.trans tf (fun _ _ h => h))
          have hsF : w.heap.size + 1 ≤ wf.heap.size := by have := HSE.out; have := tf.size; omega
          rw [← hwf]
          clear hwf tf HOE HHE TWE
          refine wpList_append_own (o := ⟨some 91, _, _, _, _, _⟩) wf rfl _ _ 52 rfl (w.heap.size + 1) 25 j0 (.agg Z67H) 67 88 Tryd.underlying52 hj hy0 hy1 hy2 (by kernel_rfl) (by decide) _ k (hsC (hsN ls k)) rfl HOF.out ⟨we.heap.size, 0, none⟩ 1 1 (hAt ls k).cells rfl (by rw [Hdr.len _ (hAt_L ls k)]) (fun j u hu => ?_) (one67 _) ?_ ?_ hsF ?_
          · have e : (⟨we.heap.size, 0, none⟩ : Addr).add j = ⟨we.heap.size, j, none⟩ := by unfold Addr.add; by_cases hj : j = 0 <;> simp [hj]
            rw [e, cell_of_row _ _ _ _ _ _ GF.out, HV.out, List.getElem?_toArray]; exact hu
          · unfold maxLen; omega
          · omega
          intro v7 w7 q1' q2' _
          have HO7 := Lib.hid (show w7.ownsRow (w.heap.size + 1) 25 67 v7 (k + 1) (hsC (hsN ls (k + 1))) by rw [hsN_succ]; exact q1')
          have tg := Turn.of_grown q2'
          have T7 := Lib.hid (show Turn (fun _ => False) w w7 from TWF.out.trans tg (fun i hi e => by have := (HOF.out.lt i e.symm).1; omega))
          have HH7 := Lib.hid (show HAt w7 w.heap.size (pvH ls (k + 1)) from HHF.out.turn tg (fun e => by have := (HOF.out.lt _ e.symm).1; omega))
          have HS7 := Lib.hid (show w.heap.size + 1 ≤ w7.heap.size by have := tg.size; omega)
          clear q1' q2' tg
          go_wp2_with fail
          go_roundw
          case rel => exact ⟨k + 1, by omega, by go_num, H20'.out, T7.out, HH7.out, HO7.out, HS7.out⟩
          case measure => simp [intOf]; omega
    · obtain rfl : k = n := by omega
      have t1 : decide ((k : Int) < (k : Int)) = false := by rw [decide_eq_false_iff_not]; omega
      have H20a := Lib.hid (show ∀ xs ∈ ls, xs.length ≤ 20 by have := H20.out; rwa [List.take_of_length_le (by rw [← HN.out]; exact Nat.le_refl _)] at this)
      clear hlt hk H20
      by_cases h2 : k < 2
      · have q1 : decide ((k : Int) < 2) = true := by rw [decide_eq_true_eq]; omega
        go_wp2_with (go_at_call 13; refine stop ?_)
        unfold Stop
        refine (AW.out wr (GL.out wr HT.out)).mono ?_
        rintro r w9 ⟨rfl, t⟩
        have T9 := Lib.hid (HT.out.trans t (fun _ _ h => h))
        clear t
        go_wp2
        go_ret
        exact ⟨rfl, T9.out⟩
      have q1 : decide ((k : Int) < 2) = false := by rw [decide_eq_false_iff_not]; omega
      have PK := Lib.hid (fun w => pick_any z (k - 1) w (by omega) (by omega))
      rw [show (((k - 1 : Nat)) : Int) = (k : Int) - 1 by omega] at PK
      obtain ⟨gr, cr, rfl, hg1, hg2⟩ := HO.out.form (by omega)
      have HG1 := Lib.hid hg1
      clear hg1 hg2
      go_wp2_with (go_at_call 23; refine stop ?_)
      unfold Stop
      refine (PK.out _).mono ?_
      rintro r w' ⟨⟨kk, hkk, rfl⟩, hw⟩
      rw [hw]
      clear hw w' PK h2 q1 t1
      have hkk1 : kk + 1 < k := by omega
      clear hkk
      have i1 : decide ((kk : Int) < (k : Int)) = true := by rw [decide_eq_true_eq]; omega
      obtain ⟨x, hx⟩ : ∃ x, ls[kk]? = some x := ⟨_, List.getElem?_eq_getElem (by rw [← HN.out]; omega)⟩
      have hx20 := H20a.out x (List.mem_of_getElem? hx)
      obtain ⟨ad, A1, c1, hA1, cl, hle, hno, hb⟩ := (HL.out wr HT.out) kk x hx
      subst hA1
      obtain ⟨xl, hxl⟩ : ∃ xl, xl = x.length := ⟨_, rfl⟩
      rw [← hxl] at cl hle hx20
      have HXL := Lib.hid hxl
      have HB1 := Lib.hid (And.intro hb (And.intro hno hle))
      have HX := Lib.hid hx
      clear hxl hb hno hle hx
      go_upto_region 19 with fail
      go_step
      refine wpList_empty (o := ⟨some 101, _, _, _, _, _⟩) rfl 5 (fun w => by kernel_rfl) ?_
      intro v0 w3 g1 g2
      have HO3 := Lib.hid g1
      have T3 := Lib.hid (show Turn (fun _ => False) wr w3 by rw [g2]; exact (Turn.refl _ _).alloc _)
      have cl3 := T3.out.cell cl (fun h => h)
      clear g1 g2 cl
      go_wp2_with (at_builtin; refine stop ?_)
      unfold Stop
      refine wpList_append_any (o := ⟨some 106, _, _, _, _, _⟩) rfl _ _ 26 rfl wr.heap.size 5 i0 (.int .u8 0) 1 Tryd.underlying26 hi hz0 hz1 hz2 rfl v0 0 [] rfl HO3.out A1 xl c1 (x.map bv) rfl HB1.out.2.1 (by rw [List.length_map, HXL.out]) (bts_turn HB1.out.1 T3.out) (bv_one x) ?_ ?_ ?_ ?_
      · unfold maxLen; omega
      · omega
      · exact T3.out.size
      intro v1 w4 g1 g2
      rw [Nat.zero_add, List.nil_append] at g1
      have HO4 := Lib.hid g1
      have T4 := Lib.hid (T3.out.grown g2 (fun i hi e => by have := (HO3.out.lt i e.symm).1; omega))
      clear g1 g2 HO3 T3 cl3
      go_wp2_with (at_builtin; refine stop ?_)
      unfold Stop
      have T5 := Lib.hid (show Turn (fun _ => False) wr (w4.alloc (.cells #[.int .u8 9] 5)) from T4.out.alloc _)
      have HO5 := Lib.hid (((Turn.refl (fun _ => False) w4).alloc (.cells #[.int .u8 9] 5)).own HO4.out (fun _ _ h => h))
      refine wpList_append_any (o := ⟨some 108, _, _, _, _, _⟩) rfl _ _ 26 rfl wr.heap.size 5 i0 (.int .u8 0) 1 Tryd.underlying26 hi hz0 hz1 hz2 rfl v1 xl (x.map bv) rfl HO5.out (some ⟨w4.heap.size, 0, none⟩) 1 1 [.int .u8 9] rfl (fun h => by cases h) rfl (fun j u hu => by
        refine ⟨_, rfl, ?_⟩
        match j, hu with
        | 0, hu =>
          obtain rfl : Value.int .u8 9 = u := by simpa using hu
          show World.cell? _ ⟨w4.heap.size, 0, none⟩ = _
          rw [cell_of_row _ _ _ _ _ _ (heap_alloc_new w4 _)]; rfl) (fun u hu => by obtain rfl := List.mem_singleton.1 hu; rfl) ?_ ?_ ?_ ?_
      · unfold maxLen; omega
      · omega
      · exact T5.out.size
      intro v2 w6 g1 g2
      have T6 := Lib.hid (T5.out.grown g2 (fun i hi e => by have := (HO5.out.lt i e.symm).1; omega))
      obtain ⟨Ay, cy, rfl, sy, -, hcy, hay⟩ := own_sl g1
      obtain ⟨y, hy⟩ : ∃ y, y = x ++ [(9 : B8)] := ⟨_, rfl⟩
      have hyl : y.length = xl + 1 := by rw [hy, List.length_append, ← HXL.out]; rfl
      have SY := Lib.hid (show Sl w6 w6.heap.size Ay (y.map bv) by rw [hy, List.map_append]; exact sy)
      clear g1 g2 HO4 HO5 T4 T5 sy hy
      have TW6 := Lib.hid (HT.out.trans T6.out (fun _ _ h => h))
      obtain ⟨fi, hfi⟩ : ∃ fi, fi = (kk == 0) := ⟨_, rfl⟩
      have q3 : ((kk : Int) == 0) = fi := by rw [hfi]; exact beq0 kk
      have LV := Lib.hid (hleaves_row Ay cy (xl + 1) y hyl.symm kk (by omega) w6 (Bts.of_sl SY.out) hay hcy (by omega))
      have RV := Lib.hid (fun (w' : World) (hb : Bts w' Ay y) => rleaves_strong Ay cy y (EK kk) kk w' hb hay (by rw [hyl]; exact hcy) (EK_d kk) (by omega) (okL_EK kk (by omega)))
      rw [hyl] at RV
      have HAY := Lib.hid (And.intro hay hcy)
      have NX := Lib.hid (fun (g : Nat) (w' : World) hl hg => hnext_row (pvH ls kk) y kk fi hfi (by omega) (pvH_nums ls kk) (pvH_L ls kk) (by omega) g w' hl hg)
      have NR := Lib.hid (fun (g : Nat) (w' : World) hl => stp_c (rnext_row (pvH ls kk) y kk fi hfi (by omega) (pvH_nums ls kk) (pvH_L ls kk) (by omega) g w' hl))
      have HBE := Lib.hid (built_ek (kk : Int))
      obtain ⟨EC, hEC⟩ : ∃ EC, EC = (EK kk).cells.toArray := ⟨_, rfl⟩
      rw [show (Ent.cells ⟨3, 0, zeros 32, 0, 0, (kk : Int)⟩).toArray = EC from hEC.symm] at HBE
      obtain ⟨o, ho⟩ : ∃ o, o = hdN (pvH ls kk) y kk := ⟨_, rfl⟩
      have oL : o.L := by rw [ho]; exact hdN_L _ _ _
      rw [← ho] at NX NR
      have IDO := Lib.hid (fun w => stp_c (hrid_any o w oL))
      have IV := Lib.hid (fun w => stp_c (hrid_any (hAt ls kk) w (hAt_L ls kk)))
      have FW := Lib.hid (fun w' hg => stp_c (hfollows_any o (hAt ls (kk + 1)) w' oL (hAt_L ls (kk + 1)) hg))
      have hQ := fun w => eql_in_hdr o (hAt ls kk) oL (hAt_L ls kk) w
      have hI := fun w => eq_id (hid o) (hid (hAt ls kk)) (hid_len _) (hid_len _) w
      obtain ⟨sm, hsm⟩ : ∃ sm, sm = decide (hid o = hid (hAt ls kk)) := ⟨_, rfl⟩
      rw [← hsm] at hI
      have FN := Lib.hid (show sm = false → decide (folK o (hAt ls (kk + 1))) = false from fun h => decide_eq_false (fun f => of_decide_eq_false (hsm.symm.trans h) (by have := f.2.2.2.2.2; rw [next_d] at this; exact this.symm)))
      have QN := Lib.hid (show sm = false → decide (o = hAt ls kk) = false from fun h => decide_eq_false (fun f => of_decide_eq_false (hsm.symm.trans h) (by rw [f])))
      have AWS := Lib.hid (fun w' hg => stp_c (hawake_any w' hg))
      obtain ⟨PL, hPL⟩ : ∃ L, L = (pvH ls kk).cells := ⟨_, rfl⟩
      obtain ⟨OL, hOL⟩ : ∃ L, L = o.cells := ⟨_, rfl⟩
      obtain ⟨VL, hVL⟩ : ∃ L, L = (hAt ls kk).cells := ⟨_, rfl⟩
      obtain ⟨WL, hWL⟩ : ∃ L, L = (hAt ls (kk + 1)).cells := ⟨_, rfl⟩
      obtain ⟨DO, hDO⟩ : ∃ D, D = ((hid o).map bv).toArray := ⟨_, rfl⟩
      obtain ⟨DV, hDV⟩ : ∃ D, D = ((hid (hAt ls kk)).map bv).toArray := ⟨_, rfl⟩
      rw [← hEC] at LV RV
      rw [← hPL, ← hOL] at NX NR
      rw [← hOL, ← hDO] at IDO
      rw [← hVL, ← hDV] at IV
      rw [← hOL, ← hWL] at FW
      rw [← hOL, ← hVL] at hQ
      rw [← hDO, ← hDV] at hI
      have HVO := Lib.hid (vk (e := o) (V := OL.toArray) (by rw [hOL]) oL)
      have HVP := Lib.hid (vk (e := pvH ls kk) (V := PL.toArray) (by rw [hPL]) (pvH_L ls kk))
      have ZP := Lib.hid (show (Tryd.prog.info? 25).map (·.size) = some PL.length by rw [hPL, Hdr.len _ (pvH_L ls kk)]; exact hd_info)
      have ZO := Lib.hid (show (Tryd.prog.info? 25).map (·.size) = some OL.length by rw [hOL, Hdr.len _ oL]; exact hd_info)
      have ZV := Lib.hid (show (Tryd.prog.info? 25).map (·.size) = some VL.length by rw [hVL, Hdr.len _ (hAt_L ls kk)]; exact hd_info)
      have ZW := Lib.hid (show (Tryd.prog.info? 25).map (·.size) = some WL.length by rw [hWL, Hdr.len _ (hAt_L ls (kk + 1))]; exact hd_info)
      have RR := Lib.hid (show ∀ w' : World, Turn (fun _ => False) wr w' → w'.rangeAt gr (kk * 67) VL ∧ w'.rangeAt gr ((kk + 1) * 67) WL from fun w' t => by
        have h := turn_own67 t HO.out (fun _ _ h => h)
        rw [hVL, hWL]
        exact ⟨row_range h kk (by omega), row_range h (kk + 1) (by omega)⟩)
      have RP := Lib.hid (show ∀ (w' : World) (j : Nat), j < k → Turn (fun _ => False) wr w' → rowOf w' gr (j * 67) 67 = some (hAt ls j).cells.toArray from fun w' j hj t => rowOf_eq (Hdr.len _ (hAt_L ls j)) (row_range (turn_own67 t HO.out (fun _ _ h => h)) j hj))
      have RO := Lib.hid (show ∀ (w' : World) (g : Nat), w'.heap[g]? = some (.cells OL.toArray 25 (0, 0)) → w'.rangeAt g 0 OL from fun w' g h q v hq => by
        rw [Nat.zero_add, cell_of_row _ _ _ _ _ _ h, List.getElem?_toArray]; exact hq)
      have RPR := Lib.hid (show ∀ (w' : World) (g : Nat), w'.heap[g]? = some (.cells PL.toArray 25 (0, 0)) → w'.rangeAt g 0 PL ∧ rowOf w' g 0 67 = some PL.toArray from fun w' g h => by
        refine ⟨fun q v hq => ?_, ?_⟩
        · rw [Nat.zero_add, cell_of_row _ _ _ _ _ _ h, List.getElem?_toArray]; exact hq
        · have hh : HAt w' g (pvH ls kk) := by unfold HAt; rw [← hPL]; exact h
          rw [hPL]; exact hh.row (pvH_L ls kk))
      have HPL := Lib.hid hPL
      have HHQ := Lib.hid (show kk = 0 → PL.toArray = Z67H by intro h; rw [hPL, h]; exact HZ_eq)
      have HPP := Lib.hid (show ∀ j, kk = j + 1 → PL = (hAt ls j).cells from fun j h => by rw [hPL, h]; rfl)
      have HFI := Lib.hid hfi
      have HYL := Lib.hid hyl
      clear hEC ho oL hPL hOL hVL hWL hDO hDV hfi hyl HX hcy hay hsm
      go_wp2_with (first
        | (refine wpList_build_eq (o := ⟨some 112, _, _, _, _, _⟩) rfl 42 #[(0, .const (.int .i64 3)), (5, .tmp 111)] rfl EC HBE.out ?_)
        | (go_at_call 18; refine stop ?_))
      unfold Stop
      refine LV.out.mono ?_
      rintro r w7 ⟨t, gx, rfl, -, hl⟩
      have T7 := Lib.hid (T6.out.trans t (fun _ _ h => h))
      have HLX := Lib.hid hl
      have SY7 := Lib.hid (t.sl SY.out (fun _ _ h => h))
      clear t hl LV SY T6 TW6
      have HA8 := Lib.hid (show (w7.alloc (.cells Z67H 25)).heap[w7.heap.size]? = some (.cells Z67H 25 (0, 0)) from heap_alloc_new _ _)
      obtain ⟨w8, hw8⟩ : ∃ w8, w8 = w7.alloc (.cells Z67H 25) := ⟨_, rfl⟩
      have t8 : Turn (fun _ => False) w7 w8 := by rw [hw8]; exact (Turn.refl _ _).alloc _
      go_upto_region 22 with fail
      rw [← hw8] at HA8
      change Code.wp _ _ _ _ (w7.alloc (.cells Z67H 25))
      rw [← hw8]
      clear hw8
      have T8 := Lib.hid (T7.out.trans t8 (fun _ _ h => h))
      have T78 := Lib.hid t8
      have HP7 := Lib.hid (show wr.heap.size ≤ w7.heap.size from T7.out.size)
      obtain ⟨p16, hp16⟩ : ∃ p, p = w7.heap.size := ⟨_, rfl⟩
      rw [← hp16] at HA8 HP7 ⊢
      have HP16 := Lib.hid hp16
      clear t8 T7 hp16
      by_cases hk0 : kk = 0
      · have q4 : decide ((0 : Int) < (kk : Int)) = false := by rw [decide_eq_false_iff_not]; omega
        have q5 : decide (0 < kk) = false := by rw [decide_eq_false_iff_not]; omega
        have HA9 := Lib.hid (show w8.heap[p16]? = some (.cells PL.toArray 25 (0, 0)) by rw [HHQ.out hk0]; exact HA8.out)
        clear HA8 hk0 HHQ HPP
        obtain ⟨w9, hw9⟩ : ∃ w9, w9 = w8 := ⟨_, rfl⟩
        have T9 := Lib.hid (show Turn (fun _ => False) wr w9 by rw [hw9]; exact T8.out)
        have T79 := Lib.hid (show Turn (fun _ => False) w7 w9 by rw [hw9]; exact T78.out)
        rw [← hw9] at HA9
        go_upto_region 24 with fail
        rw [← hw9]
        clear hw9 T8 T78
        have HX9 := Lib.hid (T79.out.sl SY7.out (fun _ _ h => h))
        have HLX9 := Lib.hid (lstn_turn HLX.out T79.out)
        clear SY7 HLX T79
        have HWS := Lib.hid (fun (w' : World) (h : Hst w9.heap.size OL.toArray w9.drew w') => show Turn (fun _ => False) w9 w' from Turn.of_below (stp_start (W := w9) (w := w9) (w' := w') h.b (Below.refl _ _)))
        have HB9 := Lib.hid (show w9.heap.size ≤ w9.drew.heap.size from Nat.le_refl _)
        refine wp_region_rel3 179 14 15 12 _ _ _ (.agg OL.toArray) (by rfl) (by rfl) (by rfl) (by kernel_rfl) (by kernel_rfl) (PtrH w9.heap.size OL.toArray) (LkH w9.heap.size OL.toArray) (Hst w9.heap.size OL.toArray) [.one ?_, .one ?_, .one ?_, .one ?_, .one ?_, .one ?_, .one ?_, .one ?_, .rel (LvH w9.heap.size Ay (xl + 1) cy (formE (EK kk)) (numB kk)), .one ?_, .one ?_, .one ?_, .one (.agg OL.toArray), .one ?_, .rel (PtrH w9.heap.size OL.toArray), .rel (fun _ _ => True), .one ?_] (by rfl) (by rfl) (by rfl) rfl rfl LkH.stable ?link (by kernel_rfl) (by kernel_rfl) rfl (by kernel_rfl) (Hst.refl _ _) (fun a b c h k => Hst.trans a b c h k) ⟨fun v w w' h1 h2 => LvH.stable v w w' h1 h2, fun v w w' h1 h2 => PtrH.stable v w w' h1 h2, fun _ _ _ _ _ => trivial, trivial⟩ ?main
        case link =>
          intro a w' hs hp hv
          obtain ⟨g, hgB, e, hg⟩ := hp
          exact does_storeH (B := w9.heap.size) (g := g) (.tmp 17) (.tmp 137) rfl e hv ⟨HVO.out.1, HVO.out.2.1, HVO.out.2.2.1⟩ hg hgB (fun _ _ h1 h2 => ⟨h1, g, hgB, e, h2⟩)
        case main =>
        refine wpR_one (A' := ?_) (Hst.refl _ _) (by rfl) _ rfl 179 (by rfl) (by rfl) ?_ ?_ ?_
        rotate_left 1
        · simp only [Act.put, List.setIfInBounds_toArray, List.set_cons_zero, List.set_cons_succ]; rfl
        · intro w1 hs hf K hK
          refine cls_load 25 (.tmp 16) rfl (p16) (0) rfl (PL) _ (fun w4 h2 => (RPR.out w4 p16 ((HWS.out w4 (Hst.trans _ _ _ hs h2)).heap HA9.out (fun h => h))).1) Tryd.underlying25 rfl ZP.out ?_
          refine hK _ ?_
          simp only [Act.put, List.setIfInBounds_toArray, List.set_cons_zero, List.set_cons_succ]
          rfl
        iterate 4
          refine wpR_one (A' := ?_) (Hst.refl _ _) (by rfl) _ rfl 179 (by rfl) (by rfl) ?_ ?_ ?_
          rotate_left 1
          · simp only [Act.put, List.setIfInBounds_toArray, List.set_cons_zero, List.set_cons_succ]; rfl
          · intro w1 hs hf K hK
            go_big_quiet_op
            first
              | go_big_quiet_on
              | (refine ⟨_, fun _ _ => rfl, ?_⟩; go_big_quiet_on)
            rfl
        refine wpR_one (A' := ?_) (Hst.refl _ _) (by rfl) _ rfl 179 (by rfl) (by rfl) ?_ ?_ ?_
        rotate_left 1
        · simp only [Act.put, List.setIfInBounds_toArray, List.set_cons_zero, List.set_cons_succ]; rfl
        · intro w1 hs hf K hK
          refine cls_build 42 #[(0, .const (.int .i64 3)), (5, .tmp 130)] rfl EC HBE.out ?_
          refine hK _ ?_
          simp only [Act.put, List.setIfInBounds_toArray, List.set_cons_zero, List.set_cons_succ]
          rfl
        iterate 2
          refine wpR_one (A' := ?_) (Hst.refl _ _) (by rfl) _ rfl 179 (by rfl) (by rfl) ?_ ?_ ?_
          rotate_left 1
          · simp only [Act.put, List.setIfInBounds_toArray, List.set_cons_zero, List.set_cons_succ]; rfl
          · intro w1 hs hf K hK
            go_big_quiet_op
            first
              | go_big_quiet_on
              | (refine ⟨_, fun _ _ => rfl, ?_⟩; go_big_quiet_on)
            rfl
        refine wpR_rel (A' := ?_) (by rfl) ?_ ?_ ?_
        · intro w1 hs hf
          refine does_call (w' := w1) (f := 19) (args := #[.slice Ay (xl + 1) cy, .agg EC, .int .u64 (kk : Int)]) (by kernel_rfl) ((RV.out w1 (Bts.of_sl ((HWS.out w1 hs).sl HX9.out (fun _ _ h => h)))).mono ?_)
          rintro e w3 ⟨h3, v, rfl, hl⟩
          exact ⟨_, rfl, hl.more hs.b.size, Hst.of (turn_stp' h3) hs.b.size⟩
        rotate_left 1
        · intro x
          simp only [Act.put, List.setIfInBounds_toArray, List.set_cons_zero, List.set_cons_succ]; rfl
        intro x8
        iterate 1
          refine wpR_one (A' := ?_) (Hst.refl _ _) (by rfl) _ rfl 179 (by rfl) (by rfl) ?_ ?_ ?_
          rotate_left 1
          · simp only [Act.put, List.setIfInBounds_toArray, List.set_cons_zero, List.set_cons_succ]; rfl
          · intro w1 hs hf K hK
            go_big_quiet_op
            first
              | go_big_quiet_on
              | (refine ⟨_, fun _ _ => rfl, ?_⟩; go_big_quiet_on)
            rfl
        refine wpR_one (A' := ?_) (Hst.refl _ _) (by rfl) _ rfl 179 (by rfl) (by rfl) ?_ ?_ ?_
        rotate_left 1
        · simp only [Act.put, List.setIfInBounds_toArray, List.set_cons_zero, List.set_cons_succ]; rfl
        · intro w1 hs hf K hK
          have h8 : LvH w9.heap.size Ay (xl + 1) cy (formE (EK kk)) (numB kk) x8 w1 := AllF_at hf 0 rfl (by kernel_rfl)
          obtain ⟨g, e8, hl⟩ := h8.lst HYL.out.symm (Bts.of_sl ((HWS.out w1 hs).sl HX9.out (fun _ _ h => h))) HAY.out.1 HAY.out.2
          subst e8
          have HL9 := Lib.hid hl
          clear hl h8
          go_big_quiet_op
          apply Exists.intro
          refine ⟨fun w4 h2 => ?_, ?_⟩
          · have h8 : LvH w9.heap.size Ay (xl + 1) cy (formE (EK kk)) (numB kk) _ w4 := LvH.stable _ _ _ (AllF_at hf 0 rfl (by kernel_rfl)) h2
            obtain ⟨g', e8, hl⟩ := h8.lst HYL.out.symm (Bts.of_sl ((HWS.out w4 (Hst.trans _ _ _ hs h2)).sl HX9.out (fun _ _ h => h))) HAY.out.1 HAY.out.2
            injection e8 with e8
            injection e8 with e8
            injection e8 with e8
            subst e8
            refine (NR.out g w4 hl).mono ?_
            rintro e w3 ⟨rfl, h3⟩
            exact ⟨rfl, Hst.step HB9.out hs h2 h3⟩
          · go_big_quiet_on
            rfl
        iterate 3
          refine wpR_one (A' := ?_) (Hst.refl _ _) (by rfl) _ rfl 179 (by rfl) (by rfl) ?_ ?_ ?_
          rotate_left 1
          · simp only [Act.put, List.setIfInBounds_toArray, List.set_cons_zero, List.set_cons_succ]; rfl
          · intro w1 hs hf K hK
            go_big_quiet_op
            first
              | go_big_quiet_on
              | (refine ⟨_, fun _ _ => rfl, ?_⟩; go_big_quiet_on)
            rfl
        refine wpR_rel (A' := ?_) (by rfl) ?_ ?_ ?_
        · intro w1 hs hf
          exact does_ptrH _ rfl hs.b.size (fun w => by kernel_rfl)
        rotate_left 1
        · intro x
          simp only [Act.put, List.setIfInBounds_toArray, List.set_cons_zero, List.set_cons_succ]; rfl
        intro x14
        refine wpR_rel (A' := ?_) (by rfl) ?_ ?_ ?_
        · intro w1 hs hf
          obtain ⟨g, hgB, e, hg⟩ := (show PtrH w9.heap.size OL.toArray x14 w1 from AllF_at hf 0 rfl (by kernel_rfl))
          exact does_storeH (B := w9.heap.size) (g := g) (.tmp 17) (.tmp 137) rfl e rfl ⟨HVO.out.1, HVO.out.2.1, HVO.out.2.2.1⟩ hg hgB (fun _ _ h1 h2 => ⟨trivial, h1⟩)
        rotate_left 1
        · intro x
          simp only [Act.put, List.setIfInBounds_toArray, List.set_cons_zero, List.set_cons_succ]; rfl
        intro x15
        iterate 1
          refine wpR_one (A' := ?_) (Hst.refl _ _) (by rfl) _ rfl 179 (by rfl) (by rfl) ?_ ?_ ?_
          rotate_left 1
          · simp only [Act.put, List.setIfInBounds_toArray, List.set_cons_zero, List.set_cons_succ]; rfl
          · intro w1 hs hf K hK
            go_big_quiet_op
            first
              | go_big_quiet_on
              | (refine ⟨_, fun _ _ => rfl, ?_⟩; go_big_quiet_on)
            rfl
        intro wo hs hf hlk
        obtain ⟨p17, hp17, e17, hgx⟩ := (show LkH w9.heap.size OL.toArray x14 wo from hlk)
        subst e17
        have T9O := Lib.hid (HWS.out wo hs)
        have TO := Lib.hid (T9.out.trans T9O.out (fun _ _ h => h))
        have HGO := Lib.hid hgx
        clear hs hf hlk hgx hp17 HWS
        have HAO := Lib.hid (T9O.out.heap HA9.out (fun h => h))
        have HLO := Lib.hid (lstn_turn HLX9.out T9O.out)
        clear T9O HA9 HLX9 HX9
        go_upto_region 25 with fail
        have HWP := Lib.hid (fun (w' : World) (h : Stp wo.drew w') => show Turn (fun _ => False) wo w' from Turn.of_below (stp_start h (Below.refl _ _)))
        refine wp_region_rel 179 Stp [.one ?_, .one ?_, .one ?_, .one ?_, .one ?_, .one ?_, .one ?_, .one ?_] (by kernel_rfl) (by kernel_rfl) rfl (by kernel_rfl) Stp.refl Stp.trans trivial ?main
        case main =>
        refine wpR_one (A' := ?_) Stp.refl (by rfl) _ rfl 179 (by rfl) (by rfl) ?_ ?_ ?_
        rotate_left 1
        · simp only [Act.put, List.setIfInBounds_toArray, List.set_cons_zero, List.set_cons_succ]; rfl
        · intro w1 hs hf K hK
          refine cls_load 25 (.tmp 17) rfl (p17) (0) rfl (OL) _ (fun w4 h2 => RO.out w4 p17 ((HWP.out w4 (Stp.trans _ _ _ hs h2)).heap HGO.out (fun h => h))) Tryd.underlying25 rfl ZO.out ?_
          refine hK _ ?_
          simp only [Act.put, List.setIfInBounds_toArray, List.set_cons_zero, List.set_cons_succ]
          rfl
        refine wpR_one (A' := ?_) Stp.refl (by rfl) _ rfl 179 (by rfl) (by rfl) ?_ ?_ ?_
        rotate_left 1
        · simp only [Act.put, List.setIfInBounds_toArray, List.set_cons_zero, List.set_cons_succ]; rfl
        · intro w1 hs hf K hK
          go_big_quiet_op
          apply Exists.intro
          refine ⟨fun w4 h2 => ?_, ?_⟩
          · refine (IDO.out w4).mono ?_
            rintro e w3 ⟨rfl, h3⟩
            exact ⟨rfl, Stp.trans _ _ _ h2 h3⟩
          · go_big_quiet_on
            rfl
        iterate 3
          refine wpR_one (A' := ?_) Stp.refl (by rfl) _ rfl 179 (by rfl) (by rfl) ?_ ?_ ?_
          rotate_left 1
          · simp only [Act.put, List.setIfInBounds_toArray, List.set_cons_zero, List.set_cons_succ]; rfl
          · intro w1 hs hf K hK
            go_big_quiet_op
            first
              | go_big_quiet_on
              | (refine ⟨_, fun _ _ => rfl, ?_⟩; go_big_quiet_on)
            rfl
        refine wpR_one (A' := ?_) Stp.refl (by rfl) _ rfl 179 (by rfl) (by rfl) ?_ ?_ ?_
        rotate_left 1
        · simp only [Act.put, List.setIfInBounds_toArray, List.set_cons_zero, List.set_cons_succ]; rfl
        · intro w1 hs hf K hK
          refine cls_load 25 (.tmp 143) rfl (gr) ((kk * 67)) rfl (VL) _ (fun w4 h2 => (RR.out w4 (TO.out.trans (HWP.out w4 (Stp.trans _ _ _ hs h2)) (fun _ _ h => h))).1) Tryd.underlying25 rfl ZV.out ?_
          refine hK _ ?_
          simp only [Act.put, List.setIfInBounds_toArray, List.set_cons_zero, List.set_cons_succ]
          rfl
        refine wpR_one (A' := ?_) Stp.refl (by rfl) _ rfl 179 (by rfl) (by rfl) ?_ ?_ ?_
        rotate_left 1
        · simp only [Act.put, List.setIfInBounds_toArray, List.set_cons_zero, List.set_cons_succ]; rfl
        · intro w1 hs hf K hK
          go_big_quiet_op
          apply Exists.intro
          refine ⟨fun w4 h2 => ?_, ?_⟩
          · refine (IV.out w4).mono ?_
            rintro e w3 ⟨rfl, h3⟩
            exact ⟨rfl, Stp.trans _ _ _ h2 h3⟩
          · go_big_quiet_on
            rfl
        iterate 1
          refine wpR_one (A' := ?_) Stp.refl (by rfl) _ rfl 179 (by rfl) (by rfl) ?_ ?_ ?_
          rotate_left 1
          · simp only [Act.put, List.setIfInBounds_toArray, List.set_cons_zero, List.set_cons_succ]; rfl
          · intro w1 hs hf K hK
            go_big_quiet_op
            first
              | go_big_quiet_on
              | (refine ⟨_, fun _ _ => rfl, ?_⟩; go_big_quiet_on)
            rfl
        intro wp hs hf
        have TP := Lib.hid (HWP.out wp hs)
        clear hs hf HWP
        have TWP := Lib.hid (HT.out.trans (TO.out.trans TP.out (fun _ _ h => h)) (fun _ _ h => h))
        cases sm
        · rw [FN.out rfl] at FW
          rw [QN.out rfl] at hQ
          obtain ⟨-, rp⟩ := RPR.out wp p16 (TP.out.heap HAO.out (fun h => h))
          go_wp2_with (go_at_call 20; refine stop ?_)
          unfold Stop
          refine (NX.out gx wp (lstn_turn HLO.out TP.out) (GL.out wp TWP.out)).mono ?_
          rintro r wq ⟨rfl, t⟩
          have TQ := Lib.hid (TO.out.trans (TP.out.trans t (fun _ _ h => h)) (fun _ _ h => h))
          clear t rp
          have HAQ := Lib.hid (show (wq.alloc (.cells Z67H 25)).heap[wq.heap.size]? = some (.cells Z67H 25 (0, 0)) from heap_alloc_new _ _)
          go_upto_region 28 with (refine wpList_store_row rfl _ _ _ rfl wq.heap.size OL.toArray rfl rfl 25 Z67H HAQ.out HVO.out.1 HVO.out.2.1 HVO.out.2.2.1 ?_)
          obtain ⟨wz, hwz⟩ : ∃ wz, wz = (wq.alloc (.cells Z67H 25)).setRow wq.heap.size OL.toArray := ⟨_, rfl⟩
          have tz : Turn (fun _ => False) wq wz := by rw [hwz]; exact ((Turn.refl (fun _ => False) wq).alloc _).setRow _ _ (fun h => by omega)
          have TZ := Lib.hid (TQ.out.trans tz (fun _ _ h => h))
          have HGZ := Lib.hid (show wz.heap[wq.heap.size]? = some (.cells OL.toArray 25 (0, 0)) by rw [hwz]; exact setRow_heap _ _ _ _ _ _ HAQ.out)
          change Code.wp _ _ _ _ ((wq.alloc (.cells Z67H 25)).setRow wq.heap.size OL.toArray)
          rw [← hwz]
          clear hwz tz HAQ TQ
          generalize wq.heap.size = p19 at *
          have TWZ := Lib.hid (HT.out.trans TZ.out (fun _ _ h => h))
          have HWZ := Lib.hid (fun (w' : World) (h : Stp wz.drew w') => show Turn (fun _ => False) wz w' from Turn.of_below (stp_start h (Below.refl _ _)))
          refine wp_region_rel 179 Stp [.one ?_, .one ?_, .one ?_, .one ?_, .one ?_, .one ?_, .one ?_, .one ?_, .one ?_, .one ?_, .one ?_, .one ?_, .one ?_, .one ?_, .one ?_, .one ?_, .one ?_, .one ?_, .one ?_, .one ?_, .one ?_, .one ?_, .one ?_] (by kernel_rfl) (by kernel_rfl) rfl (by kernel_rfl) Stp.refl Stp.trans trivial ?main
          case main =>
          iterate 2
            refine wpR_one (A' := ?_) Stp.refl (by rfl) _ rfl 179 (by rfl) (by rfl) ?_ ?_ ?_
            rotate_left 1
            · simp only [Act.put, List.setIfInBounds_toArray, List.set_cons_zero, List.set_cons_succ]; rfl
            · intro w1 hs hf K hK
              go_big_quiet_op
              first
                | go_big_quiet_on
                | (refine ⟨_, fun _ _ => rfl, ?_⟩; go_big_quiet_on)
              rfl
          refine wpR_one (A' := ?_) Stp.refl (by rfl) _ rfl 179 (by rfl) (by rfl) ?_ ?_ ?_
          rotate_left 1
          · simp only [Act.put, List.setIfInBounds_toArray, List.set_cons_zero, List.set_cons_succ]; rfl
          · intro w1 hs hf K hK
            refine cls_load 25 (.tmp 19) rfl (p19) (0) rfl (OL) _ (fun w4 h2 => RO.out w4 p19 ((HWZ.out w4 (Stp.trans _ _ _ hs h2)).heap HGZ.out (fun h => h))) Tryd.underlying25 rfl ZO.out ?_
            refine hK _ ?_
            simp only [Act.put, List.setIfInBounds_toArray, List.set_cons_zero, List.set_cons_succ]
            rfl
          iterate 3
            refine wpR_one (A' := ?_) Stp.refl (by rfl) _ rfl 179 (by rfl) (by rfl) ?_ ?_ ?_
            rotate_left 1
            · simp only [Act.put, List.setIfInBounds_toArray, List.set_cons_zero, List.set_cons_succ]; rfl
            · intro w1 hs hf K hK
              go_big_quiet_op
              first
                | go_big_quiet_on
                | (refine ⟨_, fun _ _ => rfl, ?_⟩; go_big_quiet_on)
              rfl
          refine wpR_one (A' := ?_) Stp.refl (by rfl) _ rfl 179 (by rfl) (by rfl) ?_ ?_ ?_
          rotate_left 1
          · simp only [Act.put, List.setIfInBounds_toArray, List.set_cons_zero, List.set_cons_succ]; rfl
          · intro w1 hs hf K hK
            refine cls_load 25 (.tmp 162) rfl (gr) ((kk * 67)) rfl (VL) _ (fun w4 h2 => (RR.out w4 (TZ.out.trans (HWZ.out w4 (Stp.trans _ _ _ hs h2)) (fun _ _ h => h))).1) Tryd.underlying25 rfl ZV.out ?_
            refine hK _ ?_
            simp only [Act.put, List.setIfInBounds_toArray, List.set_cons_zero, List.set_cons_succ]
            rfl
          iterate 3
            refine wpR_one (A' := ?_) Stp.refl (by rfl) _ rfl 179 (by rfl) (by rfl) ?_ ?_ ?_
            rotate_left 1
            · simp only [Act.put, List.setIfInBounds_toArray, List.set_cons_zero, List.set_cons_succ]; rfl
            · intro w1 hs hf K hK
              go_big_quiet_op
              first
                | go_big_quiet_on
                | (refine ⟨_, fun _ _ => rfl, ?_⟩; go_big_quiet_on)
              rfl
          refine wpR_one (A' := ?_) Stp.refl (by rfl) _ rfl 179 (by rfl) (by rfl) ?_ ?_ ?_
          rotate_left 1
          · simp only [Act.put, List.setIfInBounds_toArray, List.set_cons_zero, List.set_cons_succ]; rfl
          · intro w1 hs hf K hK
            refine cls_load 25 (.tmp 19) rfl (p19) (0) rfl (OL) _ (fun w4 h2 => RO.out w4 p19 ((HWZ.out w4 (Stp.trans _ _ _ hs h2)).heap HGZ.out (fun h => h))) Tryd.underlying25 rfl ZO.out ?_
            refine hK _ ?_
            simp only [Act.put, List.setIfInBounds_toArray, List.set_cons_zero, List.set_cons_succ]
            rfl
          iterate 4
            refine wpR_one (A' := ?_) Stp.refl (by rfl) _ rfl 179 (by rfl) (by rfl) ?_ ?_ ?_
            rotate_left 1
            · simp only [Act.put, List.setIfInBounds_toArray, List.set_cons_zero, List.set_cons_succ]; rfl
            · intro w1 hs hf K hK
              go_big_quiet_op
              first
                | go_big_quiet_on
                | (refine ⟨_, fun _ _ => rfl, ?_⟩; go_big_quiet_on)
              rfl
          refine wpR_one (A' := ?_) Stp.refl (by rfl) _ rfl 179 (by rfl) (by rfl) ?_ ?_ ?_
          rotate_left 1
          · simp only [Act.put, List.setIfInBounds_toArray, List.set_cons_zero, List.set_cons_succ]; rfl
          · intro w1 hs hf K hK
            refine cls_load 25 (.tmp 171) rfl (gr) (((kk + 1) * 67)) rfl (WL) _ (fun w4 h2 => (RR.out w4 (TZ.out.trans (HWZ.out w4 (Stp.trans _ _ _ hs h2)) (fun _ _ h => h))).2) Tryd.underlying25 rfl ZW.out ?_
            refine hK _ ?_
            simp only [Act.put, List.setIfInBounds_toArray, List.set_cons_zero, List.set_cons_succ]
            rfl
          refine wpR_one (A' := ?_) Stp.refl (by rfl) _ rfl 179 (by rfl) (by rfl) ?_ ?_ ?_
          rotate_left 1
          · simp only [Act.put, List.setIfInBounds_toArray, List.set_cons_zero, List.set_cons_succ]; rfl
          · intro w1 hs hf K hK
            go_big_quiet_op
            apply Exists.intro
            refine ⟨fun w4 h2 => ?_, ?_⟩
            · refine (FW.out w4 (GL.out w4 (TWZ.out.trans (HWZ.out w4 (Stp.trans _ _ _ hs h2)) (fun _ _ h => h)))).mono ?_
              rintro e w3 ⟨rfl, h3⟩
              exact ⟨rfl, Stp.trans _ _ _ h2 h3⟩
            · go_big_quiet_on
              rfl
          iterate 3
            refine wpR_one (A' := ?_) Stp.refl (by rfl) _ rfl 179 (by rfl) (by rfl) ?_ ?_ ?_
            rotate_left 1
            · simp only [Act.put, List.setIfInBounds_toArray, List.set_cons_zero, List.set_cons_succ]; rfl
            · intro w1 hs hf K hK
              go_big_quiet_op
              first
                | go_big_quiet_on
                | (refine ⟨_, fun _ _ => rfl, ?_⟩; go_big_quiet_on)
              rfl
          refine wpR_one (A' := ?_) Stp.refl (by rfl) _ rfl 179 (by rfl) (by rfl) ?_ ?_ ?_
          rotate_left 1
          · simp only [Act.put, List.setIfInBounds_toArray, List.set_cons_zero, List.set_cons_succ]; rfl
          · intro w1 hs hf K hK
            go_big_quiet_op
            apply Exists.intro
            refine ⟨fun w4 h2 => ?_, ?_⟩
            · refine (AWS.out w4 (GL.out w4 (TWZ.out.trans (HWZ.out w4 (Stp.trans _ _ _ hs h2)) (fun _ _ h => h)))).mono ?_
              rintro e w3 ⟨rfl, h3⟩
              exact ⟨rfl, Stp.trans _ _ _ h2 h3⟩
            · go_big_quiet_on
              rfl
          iterate 2
            refine wpR_one (A' := ?_) Stp.refl (by rfl) _ rfl 179 (by rfl) (by rfl) ?_ ?_ ?_
            rotate_left 1
            · simp only [Act.put, List.setIfInBounds_toArray, List.set_cons_zero, List.set_cons_succ]; rfl
            · intro w1 hs hf K hK
              go_big_quiet_op
              first
                | go_big_quiet_on
                | (refine ⟨_, fun _ _ => rfl, ?_⟩; go_big_quiet_on)
              rfl
          intro wf hs hf
          have TF := Lib.hid (HWZ.out wf hs)
          clear hs hf HWZ
          go_wp2
          go_ret
          exact ⟨rfl, TWZ.out.trans TF.out (fun _ _ h => h)⟩
        · go_wp2_with (go_at_call 13; refine stop ?_)
          unfold Stop
          refine (AW.out wp (GL.out wp TWP.out)).mono ?_
          rintro r wq ⟨rfl, t⟩
          have TQ := Lib.hid (TWP.out.trans t (fun _ _ h => h))
          clear t
          go_wp2
          go_ret
          exact ⟨rfl, TQ.out⟩
      · have q4 : decide ((0 : Int) < (kk : Int)) = true := by rw [decide_eq_true_eq]; omega
        have q5 : decide (0 < kk) = true := by rw [decide_eq_true_eq]; omega
        have i3 : decide ((kk : Int) - 1 < (k : Int)) = true := by rw [decide_eq_true_eq]; omega
        have i4 : (kk : Int) - 1 < (k : Int) := by omega
        have i5 : (0 : Int) ≤ (kk : Int) - 1 := by omega
        have i6 : (1 : Int) ≤ (kk : Int) := by omega
        have i7 : 1 ≤ kk := by omega
        have i8 : 0 < kk := by omega
        have rk := RP.out w8 (kk - 1) (by omega) T8.out
        rw [← HPP.out (kk - 1) (by omega)] at rk
        clear hk0 HHQ HPP
        go_upto_region 24 with (refine wpList_store_row rfl _ _ _ rfl p16 PL.toArray rfl rfl 25 Z67H HA8.out HVP.out.1 HVP.out.2.1 HVP.out.2.2.1 ?_)
        obtain ⟨w9, hw9⟩ : ∃ w9, w9 = w8.setRow p16 PL.toArray := ⟨_, rfl⟩
        have t9 : Turn (fun i => i = p16) w8 w9 := by rw [hw9]; exact (Turn.refl _ _).setRow _ _ (fun _ => rfl)
        have T9 := Lib.hid (show Turn (fun _ => False) wr w9 from T8.out.trans t9 (fun i hi h => by have := HP7.out; omega))
        have T79 := Lib.hid (show Turn (fun _ => False) w7 w9 from T78.out.trans t9 (fun i hi h => by have := HP16.out; omega))
        have HA9 := Lib.hid (show w9.heap[p16]? = some (.cells PL.toArray 25 (0, 0)) by rw [hw9]; exact setRow_heap _ _ _ _ _ _ HA8.out)
        change Code.wp _ _ _ _ (w8.setRow p16 PL.toArray)
        rw [← hw9]
        clear hw9 t9 HA8 T8 T78 rk i3 i4 i5 i6 i7 i8
        have HX9 := Lib.hid (T79.out.sl SY7.out (fun _ _ h => h))
        have HLX9 := Lib.hid (lstn_turn HLX.out T79.out)
        clear SY7 HLX T79
        have HWS := Lib.hid (fun (w' : World) (h : Hst w9.heap.size OL.toArray w9.drew w') => show Turn (fun _ => False) w9 w' from Turn.of_below (stp_start (W := w9) (w := w9) (w' := w') h.b (Below.refl _ _)))
        have HB9 := Lib.hid (show w9.heap.size ≤ w9.drew.heap.size from Nat.le_refl _)
        refine wp_region_rel3 179 14 15 12 _ _ _ (.agg OL.toArray) (by rfl) (by rfl) (by rfl) (by kernel_rfl) (by kernel_rfl) (PtrH w9.heap.size OL.toArray) (LkH w9.heap.size OL.toArray) (Hst w9.heap.size OL.toArray) [.one ?_, .one ?_, .one ?_, .one ?_, .one ?_, .one ?_, .one ?_, .one ?_, .rel (LvH w9.heap.size Ay (xl + 1) cy (formE (EK kk)) (numB kk)), .one ?_, .one ?_, .one ?_, .one (.agg OL.toArray), .one ?_, .rel (PtrH w9.heap.size OL.toArray), .rel (fun _ _ => True), .one ?_] (by rfl) (by rfl) (by rfl) rfl rfl LkH.stable ?link (by kernel_rfl) (by kernel_rfl) rfl (by kernel_rfl) (Hst.refl _ _) (fun a b c h k => Hst.trans a b c h k) ⟨fun v w w' h1 h2 => LvH.stable v w w' h1 h2, fun v w w' h1 h2 => PtrH.stable v w w' h1 h2, fun _ _ _ _ _ => trivial, trivial⟩ ?main
        case link =>
          intro a w' hs hp hv
          obtain ⟨g, hgB, e, hg⟩ := hp
          exact does_storeH (B := w9.heap.size) (g := g) (.tmp 17) (.tmp 137) rfl e hv ⟨HVO.out.1, HVO.out.2.1, HVO.out.2.2.1⟩ hg hgB (fun _ _ h1 h2 => ⟨h1, g, hgB, e, h2⟩)
        case main =>
        refine wpR_one (A' := ?_) (Hst.refl _ _) (by rfl) _ rfl 179 (by rfl) (by rfl) ?_ ?_ ?_
        rotate_left 1
        · simp only [Act.put, List.setIfInBounds_toArray, List.set_cons_zero, List.set_cons_succ]; rfl
        · intro w1 hs hf K hK
          refine cls_load 25 (.tmp 16) rfl (p16) (0) rfl (PL) _ (fun w4 h2 => (RPR.out w4 p16 ((HWS.out w4 (Hst.trans _ _ _ hs h2)).heap HA9.out (fun h => h))).1) Tryd.underlying25 rfl ZP.out ?_
          refine hK _ ?_
          simp only [Act.put, List.setIfInBounds_toArray, List.set_cons_zero, List.set_cons_succ]
          rfl
        iterate 4
          refine wpR_one (A' := ?_) (Hst.refl _ _) (by rfl) _ rfl 179 (by rfl) (by rfl) ?_ ?_ ?_
          rotate_left 1
          · simp only [Act.put, List.setIfInBounds_toArray, List.set_cons_zero, List.set_cons_succ]; rfl
          · intro w1 hs hf K hK
            go_big_quiet_op
            first
              | go_big_quiet_on
              | (refine ⟨_, fun _ _ => rfl, ?_⟩; go_big_quiet_on)
            rfl
        refine wpR_one (A' := ?_) (Hst.refl _ _) (by rfl) _ rfl 179 (by rfl) (by rfl) ?_ ?_ ?_
        rotate_left 1
        · simp only [Act.put, List.setIfInBounds_toArray, List.set_cons_zero, List.set_cons_succ]; rfl
        · intro w1 hs hf K hK
          refine cls_build 42 #[(0, .const (.int .i64 3)), (5, .tmp 130)] rfl EC HBE.out ?_
          refine hK _ ?_
          simp only [Act.put, List.setIfInBounds_toArray, List.set_cons_zero, List.set_cons_succ]
          rfl
        iterate 2
          refine wpR_one (A' := ?_) (Hst.refl _ _) (by rfl) _ rfl 179 (by rfl) (by rfl) ?_ ?_ ?_
          rotate_left 1
          · simp only [Act.put, List.setIfInBounds_toArray, List.set_cons_zero, List.set_cons_succ]; rfl
          · intro w1 hs hf K hK
            go_big_quiet_op
            first
              | go_big_quiet_on
              | (refine ⟨_, fun _ _ => rfl, ?_⟩; go_big_quiet_on)
            rfl
        refine wpR_rel (A' := ?_) (by rfl) ?_ ?_ ?_
        · intro w1 hs hf
          refine does_call (w' := w1) (f := 19) (args := #[.slice Ay (xl + 1) cy, .agg EC, .int .u64 (kk : Int)]) (by kernel_rfl) ((RV.out w1 (Bts.of_sl ((HWS.out w1 hs).sl HX9.out (fun _ _ h => h)))).mono ?_)
          rintro e w3 ⟨h3, v, rfl, hl⟩
          exact ⟨_, rfl, hl.more hs.b.size, Hst.of (turn_stp' h3) hs.b.size⟩
        rotate_left 1
        · intro x
          simp only [Act.put, List.setIfInBounds_toArray, List.set_cons_zero, List.set_cons_succ]; rfl
        intro x8
        iterate 1
          refine wpR_one (A' := ?_) (Hst.refl _ _) (by rfl) _ rfl 179 (by rfl) (by rfl) ?_ ?_ ?_
          rotate_left 1
          · simp only [Act.put, List.setIfInBounds_toArray, List.set_cons_zero, List.set_cons_succ]; rfl
          · intro w1 hs hf K hK
            go_big_quiet_op
            first
              | go_big_quiet_on
              | (refine ⟨_, fun _ _ => rfl, ?_⟩; go_big_quiet_on)
            rfl
        refine wpR_one (A' := ?_) (Hst.refl _ _) (by rfl) _ rfl 179 (by rfl) (by rfl) ?_ ?_ ?_
        rotate_left 1
        · simp only [Act.put, List.setIfInBounds_toArray, List.set_cons_zero, List.set_cons_succ]; rfl
        · intro w1 hs hf K hK
          have h8 : LvH w9.heap.size Ay (xl + 1) cy (formE (EK kk)) (numB kk) x8 w1 := AllF_at hf 0 rfl (by kernel_rfl)
          obtain ⟨g, e8, hl⟩ := h8.lst HYL.out.symm (Bts.of_sl ((HWS.out w1 hs).sl HX9.out (fun _ _ h => h))) HAY.out.1 HAY.out.2
          subst e8
          have HL9 := Lib.hid hl
          clear hl h8
          go_big_quiet_op
          apply Exists.intro
          refine ⟨fun w4 h2 => ?_, ?_⟩
          · have h8 : LvH w9.heap.size Ay (xl + 1) cy (formE (EK kk)) (numB kk) _ w4 := LvH.stable _ _ _ (AllF_at hf 0 rfl (by kernel_rfl)) h2
            obtain ⟨g', e8, hl⟩ := h8.lst HYL.out.symm (Bts.of_sl ((HWS.out w4 (Hst.trans _ _ _ hs h2)).sl HX9.out (fun _ _ h => h))) HAY.out.1 HAY.out.2
            injection e8 with e8
            injection e8 with e8
            injection e8 with e8
            subst e8
            refine (NR.out g w4 hl).mono ?_
            rintro e w3 ⟨rfl, h3⟩
            exact ⟨rfl, Hst.step HB9.out hs h2 h3⟩
          · go_big_quiet_on
            rfl
        iterate 3
          refine wpR_one (A' := ?_) (Hst.refl _ _) (by rfl) _ rfl 179 (by rfl) (by rfl) ?_ ?_ ?_
          rotate_left 1
          · simp only [Act.put, List.setIfInBounds_toArray, List.set_cons_zero, List.set_cons_succ]; rfl
          · intro w1 hs hf K hK
            go_big_quiet_op
            first
              | go_big_quiet_on
              | (refine ⟨_, fun _ _ => rfl, ?_⟩; go_big_quiet_on)
            rfl
        refine wpR_rel (A' := ?_) (by rfl) ?_ ?_ ?_
        · intro w1 hs hf
          exact does_ptrH _ rfl hs.b.size (fun w => by kernel_rfl)
        rotate_left 1
        · intro x
          simp only [Act.put, List.setIfInBounds_toArray, List.set_cons_zero, List.set_cons_succ]; rfl
        intro x14
        refine wpR_rel (A' := ?_) (by rfl) ?_ ?_ ?_
        · intro w1 hs hf
          obtain ⟨g, hgB, e, hg⟩ := (show PtrH w9.heap.size OL.toArray x14 w1 from AllF_at hf 0 rfl (by kernel_rfl))
          exact does_storeH (B := w9.heap.size) (g := g) (.tmp 17) (.tmp 137) rfl e rfl ⟨HVO.out.1, HVO.out.2.1, HVO.out.2.2.1⟩ hg hgB (fun _ _ h1 h2 => ⟨trivial, h1⟩)
        rotate_left 1
        · intro x
          simp only [Act.put, List.setIfInBounds_toArray, List.set_cons_zero, List.set_cons_succ]; rfl
        intro x15
        iterate 1
          refine wpR_one (A' := ?_) (Hst.refl _ _) (by rfl) _ rfl 179 (by rfl) (by rfl) ?_ ?_ ?_
          rotate_left 1
          · simp only [Act.put, List.setIfInBounds_toArray, List.set_cons_zero, List.set_cons_succ]; rfl
          · intro w1 hs hf K hK
            go_big_quiet_op
            first
              | go_big_quiet_on
              | (refine ⟨_, fun _ _ => rfl, ?_⟩; go_big_quiet_on)
            rfl
        intro wo hs hf hlk
        obtain ⟨p17, hp17, e17, hgx⟩ := (show LkH w9.heap.size OL.toArray x14 wo from hlk)
        subst e17
        have T9O := Lib.hid (HWS.out wo hs)
        have TO := Lib.hid (T9.out.trans T9O.out (fun _ _ h => h))
        have HGO := Lib.hid hgx
        clear hs hf hlk hgx hp17 HWS
        have HAO := Lib.hid (T9O.out.heap HA9.out (fun h => h))
        have HLO := Lib.hid (lstn_turn HLX9.out T9O.out)
        clear T9O HA9 HLX9 HX9
        go_upto_region 25 with fail
        have HWP := Lib.hid (fun (w' : World) (h : Stp wo.drew w') => show Turn (fun _ => False) wo w' from Turn.of_below (stp_start h (Below.refl _ _)))
        refine wp_region_rel 179 Stp [.one ?_, .one ?_, .one ?_, .one ?_, .one ?_, .one ?_, .one ?_, .one ?_] (by kernel_rfl) (by kernel_rfl) rfl (by kernel_rfl) Stp.refl Stp.trans trivial ?main
        case main =>
        refine wpR_one (A' := ?_) Stp.refl (by rfl) _ rfl 179 (by rfl) (by rfl) ?_ ?_ ?_
        rotate_left 1
        · simp only [Act.put, List.setIfInBounds_toArray, List.set_cons_zero, List.set_cons_succ]; rfl
        · intro w1 hs hf K hK
          refine cls_load 25 (.tmp 17) rfl (p17) (0) rfl (OL) _ (fun w4 h2 => RO.out w4 p17 ((HWP.out w4 (Stp.trans _ _ _ hs h2)).heap HGO.out (fun h => h))) Tryd.underlying25 rfl ZO.out ?_
          refine hK _ ?_
          simp only [Act.put, List.setIfInBounds_toArray, List.set_cons_zero, List.set_cons_succ]
          rfl
        refine wpR_one (A' := ?_) Stp.refl (by rfl) _ rfl 179 (by rfl) (by rfl) ?_ ?_ ?_
        rotate_left 1
        · simp only [Act.put, List.setIfInBounds_toArray, List.set_cons_zero, List.set_cons_succ]; rfl
        · intro w1 hs hf K hK
          go_big_quiet_op
          apply Exists.intro
          refine ⟨fun w4 h2 => ?_, ?_⟩
          · refine (IDO.out w4).mono ?_
            rintro e w3 ⟨rfl, h3⟩
            exact ⟨rfl, Stp.trans _ _ _ h2 h3⟩
          · go_big_quiet_on
            rfl
        iterate 3
          refine wpR_one (A' := ?_) Stp.refl (by rfl) _ rfl 179 (by rfl) (by rfl) ?_ ?_ ?_
          rotate_left 1
          · simp only [Act.put, List.setIfInBounds_toArray, List.set_cons_zero, List.set_cons_succ]; rfl
          · intro w1 hs hf K hK
            go_big_quiet_op
            first
              | go_big_quiet_on
              | (refine ⟨_, fun _ _ => rfl, ?_⟩; go_big_quiet_on)
            rfl
        refine wpR_one (A' := ?_) Stp.refl (by rfl) _ rfl 179 (by rfl) (by rfl) ?_ ?_ ?_
        rotate_left 1
        · simp only [Act.put, List.setIfInBounds_toArray, List.set_cons_zero, List.set_cons_succ]; rfl
        · intro w1 hs hf K hK
          refine cls_load 25 (.tmp 143) rfl (gr) ((kk * 67)) rfl (VL) _ (fun w4 h2 => (RR.out w4 (TO.out.trans (HWP.out w4 (Stp.trans _ _ _ hs h2)) (fun _ _ h => h))).1) Tryd.underlying25 rfl ZV.out ?_
          refine hK _ ?_
          simp only [Act.put, List.setIfInBounds_toArray, List.set_cons_zero, List.set_cons_succ]
          rfl
        refine wpR_one (A' := ?_) Stp.refl (by rfl) _ rfl 179 (by rfl) (by rfl) ?_ ?_ ?_
        rotate_left 1
        · simp only [Act.put, List.setIfInBounds_toArray, List.set_cons_zero, List.set_cons_succ]; rfl
        · intro w1 hs hf K hK
          go_big_quiet_op
          apply Exists.intro
          refine ⟨fun w4 h2 => ?_, ?_⟩
          · refine (IV.out w4).mono ?_
            rintro e w3 ⟨rfl, h3⟩
            exact ⟨rfl, Stp.trans _ _ _ h2 h3⟩
          · go_big_quiet_on
            rfl
        iterate 1
          refine wpR_one (A' := ?_) Stp.refl (by rfl) _ rfl 179 (by rfl) (by rfl) ?_ ?_ ?_
          rotate_left 1
          · simp only [Act.put, List.setIfInBounds_toArray, List.set_cons_zero, List.set_cons_succ]; rfl
          · intro w1 hs hf K hK
            go_big_quiet_op
            first
              | go_big_quiet_on
              | (refine ⟨_, fun _ _ => rfl, ?_⟩; go_big_quiet_on)
            rfl
        intro wp hs hf
        have TP := Lib.hid (HWP.out wp hs)
        clear hs hf HWP
        have TWP := Lib.hid (HT.out.trans (TO.out.trans TP.out (fun _ _ h => h)) (fun _ _ h => h))
        cases sm
        · rw [FN.out rfl] at FW
          rw [QN.out rfl] at hQ
          obtain ⟨-, rp⟩ := RPR.out wp p16 (TP.out.heap HAO.out (fun h => h))
          go_wp2_with (go_at_call 20; refine stop ?_)
          unfold Stop
          refine (NX.out gx wp (lstn_turn HLO.out TP.out) (GL.out wp TWP.out)).mono ?_
          rintro r wq ⟨rfl, t⟩
          have TQ := Lib.hid (TO.out.trans (TP.out.trans t (fun _ _ h => h)) (fun _ _ h => h))
          clear t rp
          have HAQ := Lib.hid (show (wq.alloc (.cells Z67H 25)).heap[wq.heap.size]? = some (.cells Z67H 25 (0, 0)) from heap_alloc_new _ _)
          go_upto_region 28 with (refine wpList_store_row rfl _ _ _ rfl wq.heap.size OL.toArray rfl rfl 25 Z67H HAQ.out HVO.out.1 HVO.out.2.1 HVO.out.2.2.1 ?_)
          obtain ⟨wz, hwz⟩ : ∃ wz, wz = (wq.alloc (.cells Z67H 25)).setRow wq.heap.size OL.toArray := ⟨_, rfl⟩
          have tz : Turn (fun _ => False) wq wz := by rw [hwz]; exact ((Turn.refl (fun _ => False) wq).alloc _).setRow _ _ (fun h => by omega)
          have TZ := Lib.hid (TQ.out.trans tz (fun _ _ h => h))
          have HGZ := Lib.hid (show wz.heap[wq.heap.size]? = some (.cells OL.toArray 25 (0, 0)) by rw [hwz]; exact setRow_heap _ _ _ _ _ _ HAQ.out)
          change Code.wp _ _ _ _ ((wq.alloc (.cells Z67H 25)).setRow wq.heap.size OL.toArray)
          rw [← hwz]
          clear hwz tz HAQ TQ
          generalize wq.heap.size = p19 at *
          have TWZ := Lib.hid (HT.out.trans TZ.out (fun _ _ h => h))
          have HWZ := Lib.hid (fun (w' : World) (h : Stp wz.drew w') => show Turn (fun _ => False) wz w' from Turn.of_below (stp_start h (Below.refl _ _)))
          refine wp_region_rel 179 Stp [.one ?_, .one ?_, .one ?_, .one ?_, .one ?_, .one ?_, .one ?_, .one ?_, .one ?_, .one ?_, .one ?_, .one ?_, .one ?_, .one ?_, .one ?_, .one ?_, .one ?_, .one ?_, .one ?_, .one ?_, .one ?_, .one ?_, .one ?_] (by kernel_rfl) (by kernel_rfl) rfl (by kernel_rfl) Stp.refl Stp.trans trivial ?main
          case main =>
          iterate 2
            refine wpR_one (A' := ?_) Stp.refl (by rfl) _ rfl 179 (by rfl) (by rfl) ?_ ?_ ?_
            rotate_left 1
            · simp only [Act.put, List.setIfInBounds_toArray, List.set_cons_zero, List.set_cons_succ]; rfl
            · intro w1 hs hf K hK
              go_big_quiet_op
              first
                | go_big_quiet_on
                | (refine ⟨_, fun _ _ => rfl, ?_⟩; go_big_quiet_on)
              rfl
          refine wpR_one (A' := ?_) Stp.refl (by rfl) _ rfl 179 (by rfl) (by rfl) ?_ ?_ ?_
          rotate_left 1
          · simp only [Act.put, List.setIfInBounds_toArray, List.set_cons_zero, List.set_cons_succ]; rfl
          · intro w1 hs hf K hK
            refine cls_load 25 (.tmp 19) rfl (p19) (0) rfl (OL) _ (fun w4 h2 => RO.out w4 p19 ((HWZ.out w4 (Stp.trans _ _ _ hs h2)).heap HGZ.out (fun h => h))) Tryd.underlying25 rfl ZO.out ?_
            refine hK _ ?_
            simp only [Act.put, List.setIfInBounds_toArray, List.set_cons_zero, List.set_cons_succ]
            rfl
          iterate 3
            refine wpR_one (A' := ?_) Stp.refl (by rfl) _ rfl 179 (by rfl) (by rfl) ?_ ?_ ?_
            rotate_left 1
            · simp only [Act.put, List.setIfInBounds_toArray, List.set_cons_zero, List.set_cons_succ]; rfl
            · intro w1 hs hf K hK
              go_big_quiet_op
              first
                | go_big_quiet_on
                | (refine ⟨_, fun _ _ => rfl, ?_⟩; go_big_quiet_on)
              rfl
          refine wpR_one (A' := ?_) Stp.refl (by rfl) _ rfl 179 (by rfl) (by rfl) ?_ ?_ ?_
          rotate_left 1
          · simp only [Act.put, List.setIfInBounds_toArray, List.set_cons_zero, List.set_cons_succ]; rfl
          · intro w1 hs hf K hK
            refine cls_load 25 (.tmp 162) rfl (gr) ((kk * 67)) rfl (VL) _ (fun w4 h2 => (RR.out w4 (TZ.out.trans (HWZ.out w4 (Stp.trans _ _ _ hs h2)) (fun _ _ h => h))).1) Tryd.underlying25 rfl ZV.out ?_
            refine hK _ ?_
            simp only [Act.put, List.setIfInBounds_toArray, List.set_cons_zero, List.set_cons_succ]
            rfl
          iterate 3
            refine wpR_one (A' := ?_) Stp.refl (by rfl) _ rfl 179 (by rfl) (by rfl) ?_ ?_ ?_
            rotate_left 1
            · simp only [Act.put, List.setIfInBounds_toArray, List.set_cons_zero, List.set_cons_succ]; rfl
            · intro w1 hs hf K hK
              go_big_quiet_op
              first
                | go_big_quiet_on
                | (refine ⟨_, fun _ _ => rfl, ?_⟩; go_big_quiet_on)
              rfl
          refine wpR_one (A' := ?_) Stp.refl (by rfl) _ rfl 179 (by rfl) (by rfl) ?_ ?_ ?_
          rotate_left 1
          · simp only [Act.put, List.setIfInBounds_toArray, List.set_cons_zero, List.set_cons_succ]; rfl
          · intro w1 hs hf K hK
            refine cls_load 25 (.tmp 19) rfl (p19) (0) rfl (OL) _ (fun w4 h2 => RO.out w4 p19 ((HWZ.out w4 (Stp.trans _ _ _ hs h2)).heap HGZ.out (fun h => h))) Tryd.underlying25 rfl ZO.out ?_
            refine hK _ ?_
            simp only [Act.put, List.setIfInBounds_toArray, List.set_cons_zero, List.set_cons_succ]
            rfl
          iterate 4
            refine wpR_one (A' := ?_) Stp.refl (by rfl) _ rfl 179 (by rfl) (by rfl) ?_ ?_ ?_
            rotate_left 1
            · simp only [Act.put, List.setIfInBounds_toArray, List.set_cons_zero, List.set_cons_succ]; rfl
            · intro w1 hs hf K hK
              go_big_quiet_op
              first
                | go_big_quiet_on
                | (refine ⟨_, fun _ _ => rfl, ?_⟩; go_big_quiet_on)
              rfl
          refine wpR_one (A' := ?_) Stp.refl (by rfl) _ rfl 179 (by rfl) (by rfl) ?_ ?_ ?_
          rotate_left 1
          · simp only [Act.put, List.setIfInBounds_toArray, List.set_cons_zero, List.set_cons_succ]; rfl
          · intro w1 hs hf K hK
            refine cls_load 25 (.tmp 171) rfl (gr) (((kk + 1) * 67)) rfl (WL) _ (fun w4 h2 => (RR.out w4 (TZ.out.trans (HWZ.out w4 (Stp.trans _ _ _ hs h2)) (fun _ _ h => h))).2) Tryd.underlying25 rfl ZW.out ?_
            refine hK _ ?_
            simp only [Act.put, List.setIfInBounds_toArray, List.set_cons_zero, List.set_cons_succ]
            rfl
          refine wpR_one (A' := ?_) Stp.refl (by rfl) _ rfl 179 (by rfl) (by rfl) ?_ ?_ ?_
          rotate_left 1
          · simp only [Act.put, List.setIfInBounds_toArray, List.set_cons_zero, List.set_cons_succ]; rfl
          · intro w1 hs hf K hK
            go_big_quiet_op
            apply Exists.intro
            refine ⟨fun w4 h2 => ?_, ?_⟩
            · refine (FW.out w4 (GL.out w4 (TWZ.out.trans (HWZ.out w4 (Stp.trans _ _ _ hs h2)) (fun _ _ h => h)))).mono ?_
              rintro e w3 ⟨rfl, h3⟩
              exact ⟨rfl, Stp.trans _ _ _ h2 h3⟩
            · go_big_quiet_on
              rfl
          iterate 3
            refine wpR_one (A' := ?_) Stp.refl (by rfl) _ rfl 179 (by rfl) (by rfl) ?_ ?_ ?_
            rotate_left 1
            · simp only [Act.put, List.setIfInBounds_toArray, List.set_cons_zero, List.set_cons_succ]; rfl
            · intro w1 hs hf K hK
              go_big_quiet_op
              first
                | go_big_quiet_on
                | (refine ⟨_, fun _ _ => rfl, ?_⟩; go_big_quiet_on)
              rfl
          refine wpR_one (A' := ?_) Stp.refl (by rfl) _ rfl 179 (by rfl) (by rfl) ?_ ?_ ?_
          rotate_left 1
          · simp only [Act.put, List.setIfInBounds_toArray, List.set_cons_zero, List.set_cons_succ]; rfl
          · intro w1 hs hf K hK
            go_big_quiet_op
            apply Exists.intro
            refine ⟨fun w4 h2 => ?_, ?_⟩
            · refine (AWS.out w4 (GL.out w4 (TWZ.out.trans (HWZ.out w4 (Stp.trans _ _ _ hs h2)) (fun _ _ h => h)))).mono ?_
              rintro e w3 ⟨rfl, h3⟩
              exact ⟨rfl, Stp.trans _ _ _ h2 h3⟩
            · go_big_quiet_on
              rfl
          iterate 2
            refine wpR_one (A' := ?_) Stp.refl (by rfl) _ rfl 179 (by rfl) (by rfl) ?_ ?_ ?_
            rotate_left 1
            · simp only [Act.put, List.setIfInBounds_toArray, List.set_cons_zero, List.set_cons_succ]; rfl
            · intro w1 hs hf K hK
              go_big_quiet_op
              first
                | go_big_quiet_on
                | (refine ⟨_, fun _ _ => rfl, ?_⟩; go_big_quiet_on)
              rfl
          intro wf hs hf
          have TF := Lib.hid (HWZ.out wf hs)
          clear hs hf HWZ
          go_wp2
          go_ret
          exact ⟨rfl, TWZ.out.trans TF.out (fun _ _ h => h)⟩
        · go_wp2_with (go_at_call 13; refine stop ?_)
          unfold Stop
          refine (AW.out wp (GL.out wp TWP.out)).mono ?_
          rintro r wq ⟨rfl, t⟩
          have TQ := Lib.hid (TWP.out.trans t (fun _ _ h => h))
          clear t
          go_wp2
          go_ret
          exact ⟨rfl, TQ.out⟩
theorem row_walk (A : Option Addr) (c : Nat) (ls : List (List B8)) (z : Int) (w : World) (hL : LstN w A ls) (hm : ls.length ≤ maxLen) (hA : A = none → c = 0) (hc : ls.length ≤ c) {p : Prop} (_ : p) (hG : Glob w) : Calls Tryd.prog 7 #[.slice A ls.length c, .int .i64 z] w fun r w' => r = .returned (.bool true) ∧ Below w.heap.size w w' := to_below (headerRow_any A c ls.length ls z w rfl hL hA hc hm hG)
end Go.Proofs.YtoagneibaincpaaDoor
