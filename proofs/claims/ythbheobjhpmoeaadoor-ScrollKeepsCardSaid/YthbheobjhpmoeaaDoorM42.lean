/- Merged: ScrollKeeps (under way). -/
import Derived.Test.YthbheobjhpmoeaaDoorM35
import Derived.Test.YthbheobjhpmoeaaDoorM41
namespace Go.Proofs.YthbheobjhpmoeaaDoor
section
set_option linter.unusedVariables false
set_option linter.unusedSimpArgs false
open Go.RowKit
set_option maxRecDepth 100000
theorem wpList_unguard {P : Program} {ops : Array Oper} {Q : Exit → Act → World → Prop} {a : Act} {w : World} {rest : List Oper} {o : Oper} (hw : Region.wanted o (yielded ops a.tmps) = true) (h : wpList P ops Q ({ o with guard := none } :: rest) a w) : wpList P ops Q (o :: rest) a w := by
  unfold wpList at h ⊢
  rw [if_pos (show Region.wanted { o with guard := none } (yielded ops a.tmps) = true from rfl)] at h
  rw [if_pos hw]
  cases o
  exact h
theorem start_same {d : Dr} {n : Nat} (on : OnD d n) (hW : d.W = []) (M : List B8) : d.start M = d := by
  obtain ⟨ok, h1, h2⟩ := on
  cases d
  simp only at hW h1 h2
  subst hW h1 h2
  simp [Dr.start, Dr.land, landL]
/-- A list of texts as the slices that it holds. -/
theorem LstQ.vals {w : World} {N : Nat → Prop} {A : Option Addr} {ls : List (List B8)} (h : LstQ w N A ls) : ∃ vs, TxtV w N ls vs ∧ SlN w N A vs := by
  have each : ∀ i : Nat, ∃ v : Value, ∀ x, ls[i]? = some x → ∃ Ai ci, v = .slice Ai x.length ci ∧ x.length ≤ ci ∧ (Ai = none → ci = 0) ∧ SlN w N Ai (x.map bv) ∧ ∃ ad, A = some ad ∧ ¬ N ad.block ∧ w.cell? (ad.add i) = some v := fun i => by
    cases hi : ls[i]? with
    | none => exact ⟨.bool true, fun x hx => by cases hx⟩
    | some y =>
      obtain ⟨ad, Ai, ci, e, hb, hc, h1, h2, h3⟩ := h i y hi
      exact ⟨.slice Ai y.length ci, fun x hx => by
        injection hx with hx
        subst hx
        exact ⟨Ai, ci, rfl, h1, h2, h3, ad, e, hb, hc⟩⟩
  obtain ⟨f, hf⟩ : ∃ f : Nat → Value, ∀ (i : Nat) x, ls[i]? = some x → ∃ Ai ci, f i = .slice Ai x.length ci ∧ x.length ≤ ci ∧ (Ai = none → ci = 0) ∧ SlN w N Ai (x.map bv) ∧ ∃ ad, A = some ad ∧ ¬ N ad.block ∧ w.cell? (ad.add i) = some (f i) := ⟨fun i => (each i).choose, fun i => (each i).choose_spec⟩
  refine ⟨(List.range ls.length).map f, ⟨by simp, fun i x hi => ?_⟩, fun j u hu => ?_⟩
  · have hlt := (List.getElem?_eq_some_iff.1 hi).1
    obtain ⟨Ai, ci, e, h1, h2, h3, -⟩ := hf i x hi
    exact ⟨Ai, ci, by simp [hlt, e], h1, h2, h3⟩
  · have hj : j < ls.length := by
      have := (List.getElem?_eq_some_iff.1 hu).1
      simpa using this
    obtain ⟨Ai, ci, e, -, -, -, ad, e1, e2, e3⟩ := hf j ls[j] (List.getElem?_eq_getElem hj)
    simp [hj] at hu
    exact ⟨ad, e1, e2, by rw [e3, hu]⟩
set_option maxHeartbeats 16000000 in
theorem scrollKeeps_of {SB : World → Nat → Nat → Scr → (Nat → Prop) → Prop} (S13 : SC SB) (A : Option Addr) (c : Nat) (ls : List (List B8)) (As : Option Addr) (cs : Nat) (sy : List Bool) (Am : Option Addr) (cm : Nat) (ms : List B8) (t : Nat) (ht : t < 65536) (w : World) (hG : Glob w) (hl : LstN w A ls) (hA : A = none → c = 0) (hc : ls.length ≤ c) (hm : ls.length ≤ maxLen)
    (hbm : ∀ x ∈ ls, x.length ≤ maxLen) (hsy : Sl w w.heap.size As (sy.map Value.bool)) (hsl : sy.length ≤ maxLen) (hms : Sl w w.heap.size Am (ms.map bv)) (hAm : Am = none → cm = 0) (hcm : ms.length ≤ cm) (hmm : ms.length ≤ maxLen) :
    Calls Tryd.prog 6 #[.slice A ls.length c, .slice As sy.length cs, .slice Am ms.length cm, .int .u16 (t : Int)] w fun r w' => r = .returned (.bool true) ∧ Turn (fun _ => False) w w' := by
  obtain ⟨i0, hi, hz0, hz1, hz2⟩ := info_parts info_sl
  have AW := Lib.hid (fun (w' : World) (t : Turn (fun _ => False) w w') => awake13 S13 w' (glob_turn hG t))
  have HGL := Lib.hid hG
  have HQ := Lib.hid hl.q
  have HBM := Lib.hid hbm
  have HSY := Lib.hid (SlN.of hsy (N := fun k => w.heap.size ≤ k) (fun i hi => by omega))
  have HMS := Lib.hid (SlN.of hms (N := fun k => w.heap.size ≤ k) (fun i hi => by omega))
  clear hl hbm hsy hms
  obtain ⟨n, hn⟩ : ∃ n, n = ls.length := ⟨_, rfl⟩
  rw [← hn] at hc hm ⊢
  have HNL := Lib.hid hn
  obtain ⟨ns, hns⟩ : ∃ n, n = sy.length := ⟨_, rfl⟩
  rw [← hns] at hsl ⊢
  have HNS := Lib.hid hns
  obtain ⟨nm, hnm⟩ : ∃ n, n = ms.length := ⟨_, rfl⟩
  rw [← hnm] at hcm hmm ⊢
  have HNM := Lib.hid hnm
  clear hn hns hnm
  unfold maxLen at hm hsl hmm
  by_cases hout : 12 < n ∨ 100 < nm
  · have q : (decide ((12 : Int) < (n : Int)) || decide ((100 : Int) < (nm : Int))) = true := by
      rcases hout with h | h
      · rw [decide_eq_true (show (12 : Int) < (n : Int) by omega)]; rfl
      · rw [decide_eq_true (show (100 : Int) < (nm : Int) by omega)]; simp
    clear hout
    go_enter Tryd.func6, Tryd.ntmps6
    go_upto_region 2 with fail
    all_goals
      go_wp2_with (go_at_call 9; refine stop ?_)
      unfold Stop
      refine (AW.out w (Turn.refl _ _)).mono ?_
      rintro r w1 ⟨rfl, t1⟩
      have T1 := Lib.hid t1
      clear t1
      go_wp2
      go_ret
      exact ⟨rfl, T1.out⟩
  have hn12 : n ≤ 12 := by omega
  have hm100 : nm ≤ 100 := by omega
  have d1 : decide ((12 : Int) < (n : Int)) = false := decide_eq_false (by omega)
  have d2 : decide ((100 : Int) < (nm : Int)) = false := decide_eq_false (by omega)
  have HN := Lib.hid (LD.new 40 (by omega) (by omega) w hG)
  clear hout
  go_enter Tryd.func6, Tryd.ntmps6
  go_wp2_with (go_at_call 13; refine stop ?_)
  unfold Stop
  refine HN.out.mono ?_
  rintro r w1 ⟨g, rfl, ld1, t1⟩
  have HB := Lib.hid (gd_new S13 w1 g 40 0 40 t (Since w w1) ld1 (by omega) (by omega) (by unfold mostS; omega))
  have T1 := Lib.hid t1
  clear HN ld1 t1
  go_wp2_with (go_at_call 21; refine stop ?_)
  unfold Stop
  refine HB.out.mono ?_
  rintro r w2 ⟨s, D2, E, rfl, gd2, hD2, hE2, t2⟩
  have G2 := Lib.hid gd2
  have F2 := Lib.hid (frm_new T1.out hD2 hE2 t2)
  clear HB T1 gd2 hD2 hE2 t2 d1 d2
  go_wp2
  go_loopw [12, 13, 14] (fun pv sv iv wr => ∃ (i sure : Nat) (put : List (List B8)) (d : Dr) (D : Nat → Prop) (vs : List Value), i ≤ n ∧ iv = .int .i64 (i : Int) ∧ sv = .int .i64 (sure : Int) ∧ Kp SB w wr g s t i d put put sure D E pv vs) (fun _ _ iv _ => n - (intOf iv).toNat)
  case atStart => exact ⟨0, 0, [], _, D2, [], by omega, rfl, rfl, ⟨G2.out, F2.out, World.ownsRow_nil _ _ _ _, ⟨rfl, fun i x h => by simp at h⟩, fun k hk => by simp [Value.ownBlock] at hk, by simp [Dr.new], by simp⟩⟩
  case round =>
    clear G2 F2
    obtain ⟨i, sure, put, d, D, vs, hin, rfl, rfl, kp⟩ := hrel
    obtain ⟨W3, eW3⟩ : ∃ W3, W3 = wr := ⟨_, rfl⟩
    subst eW3
    obtain ⟨Av, cv, rfl, -, -, hcv, hav⟩ := own_sl (show W3.ownsRow _ _ _ _ _ _ from kp.row)
    have K3 := Lib.hid kp
    clear kp
    by_cases hkn : i < n
    · have hkl : i < ls.length := by rw [← HNL.out]; exact hkn
      have hq := (HQ.out.turn (N' := fun k => w.heap.size ≤ k) K3.out.fr.t (fun _ h => h.elim) (fun _ _ h => h)).at hkl
      obtain ⟨ad, Ai, ci, rfl, hcell, hci, hai, si⟩ := hq
      obtain ⟨ad', A'', c'', e0, hc0, -⟩ := HQ.out.at hkl
      injection e0 with e0
      subst e0
      have hadb : ad.block < w.heap.size := by have h := World.block_lt_of_cell? w _ hc0; rw [add_block] at h; exact h
      have HAD := Lib.hid hadb
      clear hc0 hadb
      have hk8 : (i : Int) < (n : Int) := by omega
      have hxm := HBM.out _ (List.getElem_mem hkl)
      obtain ⟨x, hx⟩ : ∃ x, x = ls[i] := ⟨_, rfl⟩
      rw [← hx] at hcell hci si hxm
      obtain ⟨lx, hlx⟩ : ∃ y, y = x.length := ⟨_, rfl⟩
      rw [← hlx] at hcell hci hxm
      unfold maxLen at hxm
      have HLX := Lib.hid hlx
      have HAI := Lib.hid (And.intro hai hci)
      have SI := Lib.hid si
      clear hx hlx si hai
      by_cases hbig : 300 < lx
      · have db : decide ((300 : Int) < (lx : Int)) = true := decide_eq_true (by omega)
        clear hbig
        go_wp2_with (go_at_call 9; refine stop ?_)
        unfold Stop
        refine (AW.out W3 K3.out.fr.t).mono ?_
        rintro r w4 ⟨rfl, t4⟩
        have T4 := Lib.hid (K3.out.fr.t.trans t4 (fun _ _ h => h))
        clear t4
        go_wp2
        go_ret
        exact ⟨rfl, T4.out⟩
      have db : decide ((300 : Int) < (lx : Int)) = false := decide_eq_false (by omega)
      have hx300 : lx ≤ 300 := by omega
      obtain ⟨np, hnp⟩ : ∃ y, y = put.length := ⟨_, rfl⟩
      have hnpi : np ≤ i := by rw [hnp]; exact K3.out.le
      obtain ⟨r1, r2⟩ := rec_six (t := t) (n := np) (b := x) ht (by omega) (by rw [← HLX.out]; omega)
      have he : formE13 (t : Int) (np : Int) x = 0 := formE_ok (by unfold mostS; omega) (by unfold mostS; omega) (by omega)
      have hv : formV13 (t : Int) (np : Int) x = formS t np x := (formV_ok he).1
      have RF := rform_any (t : Int) (np : Int) Ai ci x W3 (Bts.of_sl SI.out.sl) HAI.out.1 (by rw [← HLX.out]; omega)
      rw [he, hv, ← HLX.out] at RF
      obtain ⟨z, hz⟩ : ∃ z, z = (formS t np x).length / 64 := ⟨_, rfl⟩
      have hlz : (formS t np x).length = 64 * z := by rw [hz, formS_div]
      rw [hlz] at RF
      have RF := Lib.hid RF
      obtain ⟨lf, hlf⟩ : ∃ y, y = 40 - secsS t 0 put := ⟨_, rfl⟩
      have LE := Lib.hid (fun (w4 : World) (t4 : Turn (fun _ => False) W3 w4) => (K3.out.quiet S13 t4).gd.leftOk S13 (by omega))
      rw [← hlf] at LE
      have hroom := K3.out.gd.inv.room
      have HNP := Lib.hid hnp
      have HZ := Lib.hid hz
      have HLF := Lib.hid hlf
      have HR1 := Lib.hid r1
      have hz5 : z ≤ 5 := by rw [hz]; exact r2
      have hl40 : lf ≤ 40 := by omega
      have HROOM := Lib.hid hroom
      have hzi : ((64 * z : Nat) : Int) / 64 = (z : Int) := by omega
      clear hbig hnp r1 r2 he hv hz hlz hlf hroom hkl
      rw [show put.length = np from HNP.out.symm]
      go_wp2_with (go_at_call 11; refine stop ?_)
      unfold Stop
      refine RF.out.mono ?_
      rintro r w4 ⟨A4, c4, rfl, -, -, -, b4⟩
      have LE4 := Lib.hid (LE.out w4 (of_turn b4))
      have K4 := Lib.hid (K3.out.quiet S13 (of_turn b4))
      have SI4 := Lib.hid (SI.out.turn (N' := fun k => w.heap.size ≤ k) (of_turn b4) (fun _ h => h.elim) (fun _ _ h => h))
      have T34 := of_turn b4
      clear RF LE K3 SI b4
      go_wp2_with (go_at_call 22; refine stop ?_)
      unfold Stop
      refine LE4.out.mono ?_
      rintro r w4' ⟨rfl, hw⟩
      rw [hw]
      clear LE4 hw w4'
      have hcell4 := T34.cell hcell (fun h => h)
      by_cases hfull : lf < z
      · have dl : decide ((lf : Int) < (z : Int)) = true := decide_eq_true (by omega)
        have dl' : decide (lf < z) = true := decide_eq_true hfull
        have P5 := K4.out.gd.putFull S13 (by omega) Ai ci x (SI4.out.apart K4.out.fr) HAI.out.1 (by rw [← HLX.out]; exact HAI.out.2) (by rw [← HNP.out]; have := HR1.out; omega) (by rw [← HNP.out]; unfold mostS; omega) (by have := K4.out.few; omega) (by rw [← HNP.out, ← HZ.out]; have := HLF.out; have := HROOM.out; omega)
        rw [← HLX.out] at P5
        have P5 := Lib.hid P5
        clear hfull
        go_wp2_with (go_at_call 23; refine stop ?_)
        unfold Stop
        refine P5.out.mono ?_
        rintro r w5 ⟨D5, rfl, gd5, hD5, t5⟩
        have k7 := (K4.out.step (j := i) gd5 hD5 t5 K4.out.few K4.out.le).next
        rw [← HNP.out] at k7
        have K7 := Lib.hid k7
        have HN9 := Lib.hid HNP.out
        clear k7
        clear P5 K4 gd5 hD5 SI4 hcell4 t5
        go_upto_region 21 with fail
        have T07 := K7.out.fr.t
        by_cases hsi : i < ns
        · have hso : (i : Int) < (ns : Int) := by omega
          have hsi' : i < sy.length := by rw [← HNS.out]; exact hsi
          obtain ⟨ads, hAs, -, hcs⟩ := (HSY.out.turn (N' := fun _ => False) T07 (fun _ h => h.elim) (fun _ _ h => h.elim)) i (.bool sy[i]) (by rw [List.getElem?_map, List.getElem?_eq_getElem hsi']; rfl)
          subst hAs
          obtain ⟨bs, hbs⟩ : ∃ b, b = sy[i] := ⟨_, rfl⟩
          rw [← hbs] at hcs
          clear hbs
          cases bs with
          | false =>
            clear T07
            go_wp2
            go_roundw
            case rel => exact ⟨i + 1, sure, _, _, _, _, by omega, by go_num, rfl, K7.out⟩
            case measure => simp [intOf]; omega
          | true =>
            have SY := Lib.hid (K7.out.gd.syncOk S13)
            clear T07
            go_wp2_with (go_at_call 24; refine stop ?_)
            unfold Stop
            refine SY.out.mono ?_
            rintro r w8 ⟨D8, rfl, gd8, hD8, t8⟩
            have k8 := K7.out.step (j := i + 1) gd8 hD8 t8 (by rw [(K7.out.gd.inv.on.sync).2.2]; simp) K7.out.le
            rw [← HN9.out] at k8
            have K8 := Lib.hid k8
            clear SY gd8 hD8 t8 K7 k8
            go_wp2
            go_roundw
            case rel => exact ⟨i + 1, _, _, _, _, _, by omega, by go_num, by first | rfl | go_num, K8.out⟩
            case measure => simp [intOf]; omega
        · have hso : decide ((i : Int) < (ns : Int)) = false := decide_eq_false (by omega)
          clear T07
          go_wp2
          go_roundw
          case rel => exact ⟨i + 1, sure, _, _, _, _, by omega, by go_num, rfl, K7.out⟩
          case measure => simp [intOf]; omega
      · have dl : decide ((lf : Int) < (z : Int)) = false := decide_eq_false (by omega)
        have dl' : decide (lf < z) = false := decide_eq_false hfull
        have P5 := K4.out.gd.putOk S13 (by omega) Ai ci x (SI4.out.apart K4.out.fr) HAI.out.1 (by rw [← HLX.out]; exact HAI.out.2) (by rw [← HNP.out]; have := HR1.out; omega) (by rw [← HNP.out]; unfold mostS; omega) (by have := K4.out.few; omega) (by rw [← HNP.out, ← HZ.out]; have := HLF.out; have := HROOM.out; omega)
        rw [← HLX.out, ← HNP.out, ← HZ.out] at P5
        have P5 := Lib.hid P5
        clear hfull
        go_wp2_with (go_at_call 23; refine stop ?_)
        unfold Stop
        refine P5.out.mono ?_
        rintro r w5 ⟨D5, d5, rfl, gd5, hW5, hD5, t5⟩
        have K5 := Lib.hid (K4.out.step (j := i + 1) gd5 hD5 t5 (by have := K4.out.few; omega) (by rw [List.length_append, ← HNP.out]; simp; omega))
        have SI5 := Lib.hid (SI4.out.turn (N' := fun k => w.heap.size ≤ k) t5 (fun k h => h.elim (K4.out.fr.d k) (K4.out.fr.e k)) (fun _ _ h => h))
        have hcell5 := t5.cell hcell4 (fun h => by have := HAD.out; rw [add_block] at h; exact h.elim (fun h => by have := K4.out.fr.d _ h; omega) (fun h => by have := K4.out.fr.e _ h; omega))
        clear P5 K4 gd5 hD5 SI4 hcell4 t5
        go_upto_region 20 with fail
        go_step
        iterate 18 go_step
        refine wpList_append_any_at (o := ⟨some 106, _, _, _, _, _⟩) rfl _ _ 36 rfl w.heap.size 22 i0 (.slice none 0 0) 24 Tryd.underlying36 hi hz0 hz1 hz2 rfl (.slice Av np cv) np vs rfl ((show w5.ownsRow w.heap.size 22 1 (.slice Av np cv) np vs by rw [HNP.out]; exact K5.out.row).alloc _) (some ⟨w5.heap.size, 0, none⟩) 1 1 [.slice Ai lx ci] rfl (fun h => by cases h) rfl ?_ (one_slice Ai lx ci) ?_ ?_ ?_ ?_
        · intro j u hu
          exact ⟨_, rfl, World.news_of_block (heap_alloc_new w5 (.cells #[.slice Ai lx ci] 22)) j u hu⟩
        · unfold maxLen; omega
        · omega
        · have := K5.out.fr.t.size; simp; omega
        intro v9 w9 own9 gr9 at9
        have k7 := K5.out.append S13 HGL.out.1 (x := x) (A := Ai) (c := ci) (by rw [← HLX.out]; exact HAI.out.2) HAI.out.1 SI5.out (o := .cells #[.slice Ai lx ci] 22) (pv' := v9) (w' := w9) (by rw [← HLX.out, ← HNP.out]; exact own9) (by rw [← HNP.out]; exact gr9) (by rw [← HNP.out]; exact at9)
        obtain ⟨p9, hp9⟩ : ∃ p, p = put ++ [x] := ⟨_, rfl⟩
        rw [← hp9] at k7
        obtain ⟨A9, c9, rfl, -, -, -, -⟩ := own_sl (show w9.ownsRow _ _ _ _ _ _ from k7.row)
        obtain ⟨n9, hn9⟩ : ∃ n, n = p9.length := ⟨_, rfl⟩
        rw [← hn9] at k7 ⊢
        have K7 := Lib.hid k7
        have HN9 := Lib.hid hn9
        clear k7 own9 gr9 at9 K5 SI5 hcell5 hp9 hn9
        go_upto_region 21 with fail
        have T07 := K7.out.fr.t
        by_cases hsi : i < ns
        · have hso : (i : Int) < (ns : Int) := by omega
          have hsi' : i < sy.length := by rw [← HNS.out]; exact hsi
          obtain ⟨ads, hAs, -, hcs⟩ := (HSY.out.turn (N' := fun _ => False) T07 (fun _ h => h.elim) (fun _ _ h => h.elim)) i (.bool sy[i]) (by rw [List.getElem?_map, List.getElem?_eq_getElem hsi']; rfl)
          subst hAs
          obtain ⟨bs, hbs⟩ : ∃ b, b = sy[i] := ⟨_, rfl⟩
          rw [← hbs] at hcs
          clear hbs
          cases bs with
          | false =>
            clear T07
            go_wp2
            go_roundw
            case rel => exact ⟨i + 1, sure, _, _, _, _, by omega, by go_num, rfl, K7.out⟩
            case measure => simp [intOf]; omega
          | true =>
            have SY := Lib.hid (K7.out.gd.syncOk S13)
            clear T07
            go_wp2_with (go_at_call 24; refine stop ?_)
            unfold Stop
            refine SY.out.mono ?_
            rintro r w8 ⟨D8, rfl, gd8, hD8, t8⟩
            have k8 := K7.out.step (j := i + 1) gd8 hD8 t8 (by rw [(K7.out.gd.inv.on.sync).2.2]; simp) K7.out.le
            rw [← HN9.out] at k8
            have K8 := Lib.hid k8
            clear SY gd8 hD8 t8 K7 k8
            go_wp2
            go_roundw
            case rel => exact ⟨i + 1, _, _, _, _, _, by omega, by go_num, by first | rfl | go_num, K8.out⟩
            case measure => simp [intOf]; omega
        · have hso : decide ((i : Int) < (ns : Int)) = false := decide_eq_false (by omega)
          clear T07
          go_wp2
          go_roundw
          case rel => exact ⟨i + 1, sure, _, _, _, _, by omega, by go_num, rfl, K7.out⟩
          case measure => simp [intOf]; omega
    · obtain rfl : i = n := by omega
      obtain ⟨np, hnp⟩ : ∃ y, y = put.length := ⟨_, rfl⟩
      have hnpi : np ≤ i := by rw [hnp]; exact K3.out.le
      have LS := K3.out.gd.ats.ld.start Am cm ms (HMS.out.turn (N' := D) K3.out.fr.t (fun _ h => h.elim) (fun k _ h => K3.out.fr.d k h)) (by rw [← HNM.out]; unfold maxLen; omega)
      rw [← HNM.out] at LS
      have told := K3.out.gd.inv.told ms
      have hon : OnD (d.start ms) 40 := .start K3.out.gd.inv.on.ok ms
      obtain ⟨ds, hds⟩ : ∃ x, x = d.start ms := ⟨_, rfl⟩
      rw [← hds] at LS told hon
      have LS := Lib.hid LS
      have TOLD := Lib.hid told
      have ON := Lib.hid hon
      have WN := Lib.hid (show ds.W = [] by rw [hds]; rfl)
      have HNP := Lib.hid hnp
      have HSU := Lib.hid (show sure ≤ np by rw [hnp]; exact K3.out.gd.inv.le)
      have LENS := Lib.hid K3.out.gd.inv.lens
      have HDW := Lib.hid K3.out.fr.d
      have HAP := Lib.hid (show ∀ k, (Value.slice Av np cv).ownBlock = some k → ¬ D k from fun k hk => (K3.out.apart k (by rw [← hnp]; exact hk)).1)
      have ROW := Lib.hid (show Srow W3 w.heap.size (.slice Av np cv) np vs by rw [hnp]; exact K3.out.row)
      have TXT := Lib.hid K3.out.txt
      have T3 := Lib.hid K3.out.fr.t
      rw [show put.length = np from hnp.symm]
      clear told hon hds hnp K3
      go_wp2_with (go_at_call 25; refine stop ?_)
      unfold Stop
      refine LS.out.mono ?_
      rintro r w4 ⟨⟨v, rfl⟩, l4, t4⟩
      have ROW4 := Lib.hid (show Srow w4 w.heap.size (.slice Av np cv) np vs from own_turn t4 ROW.out HAP.out)
      have TXT4 := Lib.hid (TXT.out.turn (N' := fun k => w.heap.size ≤ k) t4 HDW.out (fun _ _ h => h))
      have T4 := Lib.hid (show Turn (fun _ => False) w w4 from T3.out.trans t4 (fun k hk h => by have := HDW.out k h; omega))
      have L4 := Lib.hid l4
      have LB := lbytes_any g 40 0 40 ds D w4 l4 ON.out (by omega) (by omega)
      rw [show 64 * 40 = 2560 from rfl] at LB
      have hcl := cutD_len ON.out.ok 0 40 (by omega)
      rw [show 64 * 40 = 2560 from rfl] at hcl
      obtain ⟨l, hl⟩ : ∃ l, l = cutD ds 0 40 := ⟨_, rfl⟩
      rw [← hl] at LB hcl
      have LB := Lib.hid (show Calls Tryd.prog 26 #[.pointer (some ⟨g, 0, none⟩), .int .i64 0, .int .i64 40] w4 _ from LB)
      have HL := Lib.hid hl
      have HCL := Lib.hid hcl
      clear LS l4 t4 ROW TXT T3 hl hcl
      go_wp2_with (go_at_call 26; refine stop ?_)
      unfold Stop
      refine LB.out.mono ?_
      rintro r w5 ⟨A5, c5, rfl, o5, t5⟩
      have hsl := own_sln (N := D) o5 (fun k hk => L4.out.lt k hk)
      obtain ⟨A5', c5', e1, -, -, k5, a5⟩ := own_sl o5
      injection e1 with e1 e2 e3
      subst e1 e3
      have RS := rscan13_any D A5 c5 l (t : Int) w5 (fun k hk => Nat.lt_of_lt_of_le (L4.out.lt k hk) t5.size) hsl a5 (by rw [HCL.out]; exact k5) (by rw [HCL.out]; omega)
      rw [show scanI l (t : Int) 0 = scanN l t 0 by unfold scanI; rw [if_neg (by omega), Int.toNat_natCast], HCL.out] at RS
      have hle := scanN_le t l.length l 0 (Nat.le_refl _)
      have hback := scan_back t l.length l 0 (Nat.le_refl _)
      obtain ⟨R, hR⟩ : ∃ R, R = scanN l t 0 := ⟨_, rfl⟩
      rw [← hR] at RS hle hback
      rw [HCL.out] at hle
      have hge := secsS_ge t R.1 0
      have hu40 : R.2 ≤ 40 := by omega
      have hw40 : R.1.length ≤ 40 := by have := hback.2.1; omega
      have RS := Lib.hid RS
      have HR := Lib.hid hR
      have TOLD2 := Lib.hid (show ∃ w', R.1 = put.take sure ++ w' by rw [hR, HL.out]; exact TOLD.out)
      have WLEN := Lib.hid (show ∀ x ∈ R.1, x.length ≤ maxLen from fun x hx => by
        obtain ⟨k, hk, e⟩ := List.mem_iff_getElem.1 hx
        have h := (hback.2.2.1 k hk).1
        rw [e] at h
        have h2 : x.length ≤ (fldS t (0 + k) x).length := by simp [fldS]; omega
        unfold maxLen; omega)
      have ROW5 := Lib.hid (show Srow w5 w.heap.size (.slice Av np cv) np vs from own_turn t5 ROW4.out (fun _ _ h => h))
      have TXT5 := Lib.hid (TXT4.out.turn (N' := fun k => w.heap.size ≤ k) t5 (fun _ h => h.elim) (fun _ _ h => h))
      have T5 := Lib.hid (T4.out.trans t5 (fun _ _ h => h))
      have L5 := Lib.hid (L4.out.quiet t5)
      clear LB o5 t5 hsl k5 a5 e2 hle hback hR hge TOLD ROW4 TXT4 T4 L4
      go_wp2_with (go_at_call 18; refine stop ?_)
      unfold Stop
      refine RS.out.mono ?_
      rintro r w6 ⟨A6, c6, rfl, q6, a6, k6, t6⟩
      have Q6 := Lib.hid q6
      have A6C := Lib.hid (And.intro a6 k6)
      have ROW6 := Lib.hid (show Srow w6 w.heap.size (.slice Av np cv) np vs from own_turn t6 ROW5.out (fun _ _ h => h))
      have TXT6 := Lib.hid (TXT5.out.turn (N' := fun k => w.heap.size ≤ k) t6 (fun _ h => h.elim) (fun _ _ h => h))
      have T6 := Lib.hid (T5.out.trans t6 (fun _ _ h => h))
      have L6 := Lib.hid (L5.out.quiet t6)
      obtain ⟨nw, hnw⟩ : ∃ y, y = R.1.length := ⟨_, rfl⟩
      rw [← hnw] at hw40 ⊢
      have HNW := Lib.hid hnw
      clear RS q6 a6 k6 t6 ROW5 TXT5 T5 L5 hnw
      go_wp2
      go_loopw [21] (fun iv wr => ∃ j : Nat, j ≤ nw ∧ iv = .int .i64 (j : Int) ∧ (∀ k (hk : k < R.1.length), k < j → k < np ∧ (sure ≤ k → ∃ h : k < put.length, R.1[k] = put[k])) ∧ Turn (fun _ => False) w6 wr) (fun iv _ => nw - (intOf iv).toNat)
      case atStart => exact ⟨0, by omega, rfl, fun k _ hk => by omega, Turn.refl _ _⟩
      case round =>
        obtain ⟨j, hjw, rfl, hall, htj⟩ := hrel
        obtain ⟨W6, eW6⟩ : ∃ W, W = wr := ⟨_, rfl⟩
        subst eW6
        by_cases hj : j < nw
        · have hjR : j < R.1.length := by rw [← HNW.out]; exact hj
          have TJ := Lib.hid (T6.out.trans htj (fun _ _ h => h))
          have hjj : (j : Int) < (nw : Int) := by omega
          by_cases hpj : np ≤ j
          · have dpj : decide ((np : Int) ≤ (j : Int)) = true := decide_eq_true (by omega)
            have dpj' : decide (np ≤ j) = true := decide_eq_true hpj
            clear hpj hall
            go_upto_region 30 with fail
            go_quiet (fail)
            obtain ⟨W7, hW7⟩ : ∃ W, W = W6.drewN nq := ⟨_, rfl⟩
            have T7 := Lib.hid (show Turn (fun _ => False) w W7 by rw [hW7]; exact TJ.out.drewN nq)
            have TL7 := Lib.hid (show Turn (fun _ => False) w6 W7 by rw [hW7]; exact htj.drewN nq)
            rw [← hW7]
            clear hW7
            go_wp2_with (go_at_call 9; refine stop ?_)
            unfold Stop
            refine (AW.out W7 T7.out).mono ?_
            rintro r wz ⟨rfl, tz⟩
            have TZ := Lib.hid (T7.out.trans tz (fun _ _ h => h))
            clear tz
            go_wp2
            go_ret
            exact ⟨rfl, TZ.out⟩
          · have dpj : decide ((np : Int) ≤ (j : Int)) = false := decide_eq_false (by omega)
            have dpj' : decide (np ≤ j) = false := decide_eq_false hpj
            by_cases hsj : sure ≤ j
            · have dsj : decide ((sure : Int) ≤ (j : Int)) = true := decide_eq_true (by omega)
              have dsj' : decide (sure ≤ j) = true := decide_eq_true hsj
              have hjP : j < put.length := by rw [← HNP.out]; omega
              have hjn : (j : Int) < (np : Int) := by omega
              obtain ⟨ad6, Ai, ci, hA6, hc6, hci, hai, si⟩ := Q6.out.at hjR
              subst hA6
              obtain ⟨Ap, cp, hv, hcp, hap, sp⟩ := TXT6.out.2 j put[j] (List.getElem?_eq_getElem hjP)
              obtain ⟨AvX, cvX, eX, sX, -, -, -⟩ := own_sl (show w6.ownsRow _ _ _ _ _ _ from ROW6.out)
              injection eX with eX1 eX2 eX3
              subst eX1 eX3
              obtain ⟨adp, hAp, -, hcpv⟩ := sX j _ hv
              subst hAp
              have hcell6 := htj.cell hc6 (fun h => h)
              have hcellp := htj.cell hcpv (fun h => h)
              have hlw := WLEN.out _ (List.getElem_mem hjR)
              have hlp : put[j].length ≤ maxLen := by
                have h := LENS.out j hjP
                have h2 : put[j].length ≤ (fldS t j put[j]).length := by simp [fldS]; omega
                unfold maxLen; omega
              have HBY := fun N => rbytes_any Ai Ap ci cp _ _ R.1[j] put[j] (W6.drewN N) ((si.turn (N' := fun _ => False) (htj.drewN N) (fun _ h => h.elim) (fun _ _ h => h.elim)).sl) ((sp.turn (N' := fun _ => False) (htj.drewN N) (fun _ h => h.elim) (fun _ _ h => h.elim)).sl) hlw hlp
              obtain ⟨xw, hxw⟩ : ∃ x, x = R.1[j] := ⟨_, rfl⟩
              obtain ⟨xp, hxp⟩ : ∃ x, x = put[j] := ⟨_, rfl⟩
              rw [← hxw, ← hxp] at HBY
              rw [← hxw] at hcell6
              rw [← hxp] at hcellp
              obtain ⟨lw, hlw'⟩ : ∃ y, y = xw.length := ⟨_, rfl⟩
              obtain ⟨lp, hlp'⟩ : ∃ y, y = xp.length := ⟨_, rfl⟩
              rw [← hlw'] at hcell6
              rw [← hlp'] at hcellp
              rw [← hlw', ← hlp'] at HBY
              by_cases hxx : xw = xp
              · rw [decide_eq_true hxx] at HBY
                have HBY := Lib.hid HBY
                have ALL := Lib.hid (show ∀ k (hk : k < R.1.length), k < j + 1 → k < np ∧ (sure ≤ k → ∃ h : k < put.length, R.1[k] = put[k]) from fun k hk hkj => by
                  by_cases e : k = j
                  · subst e; exact ⟨by omega, fun _ => ⟨hjP, by rw [← hxw, ← hxp]; exact hxx⟩⟩
                  · exact hall k hk (by omega))
                clear hpj hsj hall hlw hlp hxw hxp hlw' hlp' hxx si sp sX hv hcpv hc6
                go_upto_region 30 with fail
                go_quiet (first | (go_at_call 12; exact Calls.quiet_of (HBY.out _)))
                obtain ⟨W7, hW7⟩ : ∃ W, W = W6.drewN nq := ⟨_, rfl⟩
                have T7 := Lib.hid (show Turn (fun _ => False) w W7 by rw [hW7]; exact TJ.out.drewN nq)
                have TL7 := Lib.hid (show Turn (fun _ => False) w6 W7 by rw [hW7]; exact htj.drewN nq)
                rw [← hW7]
                clear hW7
                go_wp2
                go_roundw
                case rel => exact ⟨j + 1, by omega, by go_num, ALL.out, TL7.out⟩
                case measure => simp [intOf]; omega
              · rw [decide_eq_false hxx] at HBY
                have HBY := Lib.hid HBY
                clear hpj hsj hall hlw hlp hxw hxp hlw' hlp' hxx si sp sX hv hcpv hc6
                go_upto_region 30 with fail
                go_quiet (first | (go_at_call 12; exact Calls.quiet_of (HBY.out _)))
                obtain ⟨W7, hW7⟩ : ∃ W, W = W6.drewN nq := ⟨_, rfl⟩
                have T7 := Lib.hid (show Turn (fun _ => False) w W7 by rw [hW7]; exact TJ.out.drewN nq)
                have TL7 := Lib.hid (show Turn (fun _ => False) w6 W7 by rw [hW7]; exact htj.drewN nq)
                rw [← hW7]
                clear hW7
                go_wp2_with (go_at_call 9; refine stop ?_)
                unfold Stop
                refine (AW.out W7 T7.out).mono ?_
                rintro r wz ⟨rfl, tz⟩
                have TZ := Lib.hid (T7.out.trans tz (fun _ _ h => h))
                clear tz
                go_wp2
                go_ret
                exact ⟨rfl, TZ.out⟩
            · have dsj : decide ((sure : Int) ≤ (j : Int)) = false := decide_eq_false (by omega)
              have dsj' : decide (sure ≤ j) = false := decide_eq_false hsj
              have ALL := Lib.hid (show ∀ k (hk : k < R.1.length), k < j + 1 → k < np ∧ (sure ≤ k → ∃ h : k < put.length, R.1[k] = put[k]) from fun k hk hkj => by
                by_cases e : k = j
                · subst e; exact ⟨by omega, fun h => absurd h hsj⟩
                · exact hall k hk (by omega))
              clear hpj hsj hall
              go_upto_region 30 with fail
              go_quiet (fail)
              obtain ⟨W7, hW7⟩ : ∃ W, W = W6.drewN nq := ⟨_, rfl⟩
              have T7 := Lib.hid (show Turn (fun _ => False) w W7 by rw [hW7]; exact TJ.out.drewN nq)
              have TL7 := Lib.hid (show Turn (fun _ => False) w6 W7 by rw [hW7]; exact htj.drewN nq)
              rw [← hW7]
              clear hW7
              go_wp2
              go_roundw
              case rel => exact ⟨j + 1, by omega, by go_num, ALL.out, TL7.out⟩
              case measure => simp [intOf]; omega
        · obtain rfl : j = nw := by omega
          have hallF : ∀ k (hk : k < R.1.length), k < np ∧ (sure ≤ k → ∃ h : k < put.length, R.1[k] = put[k]) := fun k hk => hall k hk (by rw [HNW.out]; exact hk)
          have hjp : j ≤ np := by
            by_cases h0 : j = 0
            · omega
            · have := (hallF (j - 1) (by rw [← HNW.out]; omega)).1; omega
          obtain ⟨wr', hwr'⟩ := TOLD2.out
          obtain ⟨hf1, hf2⟩ := Inv.front (by rw [← HNP.out]; exact HSU.out) wr' hwr' (by rw [← HNW.out, ← HNP.out]; exact hjp) (fun k hk h => (hallF k hk).2 h)
          have FRO := Lib.hid hf1
          have hsj : sure ≤ j := by rw [HNW.out]; exact hf2
          have TL := Lib.hid (T6.out.trans htj (fun _ _ h => h))
          have L7 := L6.out.quiet htj
          have OP := S13.opn W6 g 40 0 40 t ds D L7 ON.out (by omega) (by omega) (by unfold mostS; omega) WN.out
          rw [← HL.out, ← HR.out, ← HNW.out] at OP
          have OP := Lib.hid (show Calls Tryd.prog 27 #[.pointer (some ⟨g, 0, none⟩), .int .i64 0, .int .i64 40, .int .i64 (t : Int)] W6 _ from OP)
          have SBQ := Lib.hid (show secsS t 0 R.1 = R.2 by
            have h := (scan_back t l.length l 0 (Nat.le_refl _)).2.1
            rw [← HR.out] at h; exact h)
          have Q6' := Lib.hid (Q6.out.turn (N' := D) htj (fun _ h => h.elim) (fun _ _ h => h))
          have ROW7 := Lib.hid (show Srow W6 w.heap.size (.slice Av np cv) np vs from own_turn htj ROW6.out (fun _ _ h => h))
          have TXT7 := Lib.hid (TXT6.out.turn (N' := fun k => w.heap.size ≤ k) htj (fun _ h => h.elim) (fun _ _ h => h))
          clear hall hallF hwr' hf1 hf2 htj L7 L6 Q6 ROW6 TXT6 T6
          go_wp2_with (go_at_call 27; refine stop ?_)
          unfold Stop
          refine OP.out.mono ?_
          rintro r w7 ⟨s7, A7, c7, d7, D7, E7, rfl, at7, q7, a7, k7, hD7, hE7, on7, wn7, now1, now2, t7⟩
          have inv7 : Inv d7 40 0 40 t R.1 R.1.length := by
            refine Inv.opened l on7 (by omega) (by unfold mostS; omega) (by omega) wn7 (by rw [← HR.out]) (by rw [HCL.out]) ?_ now2
            rw [HL.out, cutD_take ON.out.ok 0 40 R.2 (by omega) hu40]
            exact cutD_congr 0 R.2 fun k _ hk => by
              have h := now1 k (by omega)
              rw [Nat.zero_add] at h; exact h
          have g7 : Gd SB w7 g s7 40 0 40 t d7 R.1 R.1.length D7 E7 := ⟨by rw [SBQ.out, ← HNW.out]; exact at7, inv7⟩
          have TW7 := Lib.hid (show Turn (fun _ => False) w w7 from TL.out.trans t7 (fun k hk h => by have := HDW.out k h; omega))
          have HDW7 := Lib.hid (show ∀ k, D7 k → w.heap.size ≤ k from fun k hk => (hD7 k hk).elim (HDW.out k) (fun h => by have := h.1; have := TL.out.size; omega))
          have HEW7 := Lib.hid (show ∀ k, E7 k → w.heap.size ≤ k from fun k hk => by have := hE7 k hk; have := TL.out.size; omega)
          have G7 := Lib.hid g7
          have QX := Lib.hid (show LstQ w7 (fun k => k < w.heap.size ∨ D7 k ∨ E7 k) A7 R.1 from q7.turn (Turn.refl (fun _ => False) _) (fun _ h => h.elim) (fun k _ h => h.elim (fun h => .inl (by have := TL.out.size; omega)) .inr))
          have QW := Lib.hid (show LstQ w7 D A6 R.1 from Q6'.out.turn (N' := D) t7 (fun _ h => h) (fun _ _ h => h))
          have ROWZ := Lib.hid (show Srow w7 w.heap.size (.slice Av np cv) np vs from own_turn t7 ROW7.out HAP.out)
          have TXTZ := Lib.hid ((TXT7.out.turn (N' := fun k => w.heap.size ≤ k) t7 HDW.out (fun _ _ h => h)).turn (N' := fun _ => False) (Turn.refl (fun _ => False) _) (fun _ h => h.elim) (fun _ _ h => h.elim))
          have LP := Lib.hid (show LstQ w7 (fun _ => False) Av R.1 from by
            have h := TXTZ.out.lst (own_sln (N := fun _ => False) ROWZ.out (fun _ h => h.elim))
            rw [FRO.out]
            exact fun i x hi => by
              rw [List.getElem?_take] at hi
              split at hi
              · exact h i x hi
              · cases hi)
          have hcvj : np ≤ cv := own_cap ROWZ.out
          have SM1 := rsame13_any A7 A6 c7 c6 R.1 R.1 w7 QX.out.lstN.lst QW.out.lstN.lst (by rw [← HNW.out]; omega) (by rw [← HNW.out]; omega) WLEN.out WLEN.out
          have SM2 := fun N => rsame13_any A7 Av c7 cv R.1 R.1 (w7.drewN N) (QX.out.turn (N' := fun _ => False) ((Turn.refl (fun _ => False) w7).drewN N) (fun _ h => h.elim) (fun _ _ h => h.elim)).lstN.lst (LP.out.turn (N' := fun _ => False) ((Turn.refl (fun _ => False) w7).drewN N) (fun _ h => h.elim) (fun _ _ h => h.elim)).lstN.lst (by rw [← HNW.out]; omega) (by rw [← HNW.out]; omega) WLEN.out WLEN.out
          rw [decide_eq_true rfl, ← HNW.out] at SM1
          simp only [decide_true, ← HNW.out] at SM2
          have SM1 := Lib.hid SM1
          have SM2 := Lib.hid SM2
          have SLP : ∀ w, (Instr.slice 36 (.slice Av np cv) none (some (.int .i64 (j : Int))) none).run Tryd.prog w = .ok (.slice Av j cv) w := fun w => by
            rw [run_slice_h (P := Tryd.prog) w 36 Av np cv (by kernel_rfl) .i64 (j : Int) (by omega) (by omega)]
            rw [show Tryd.prog.elem 36 = 22 by kernel_rfl]
            rw [show (Go.sizeOf 22).run Tryd.prog w = .ok 1 w by kernel_rfl]
            simp only [Result.andThen, sliced, Int.toNat_natCast, Nat.zero_mul, Nat.sub_zero]
            cases Av with
            | none => simp
            | some a => simp [Addr.add]
          have dss : decide ((j : Int) < (sure : Int)) = false := decide_eq_false (by omega)
          have dss' : decide (j < sure) = false := decide_eq_false (by omega)
          have LE7 := Lib.hid (fun (wx : World) (tx : Turn (fun _ => False) w7 wx) => (G7.out.quiet S13 tx).leftOk S13 (by omega))
          obtain ⟨lf7, hlf7⟩ : ∃ y, y = 40 - secsS t 0 R.1 := ⟨_, rfl⟩
          rw [← hlf7] at LE7
          have HLF7 := Lib.hid hlf7
          have hl740 : lf7 ≤ 40 := by omega
          have HA7 := Lib.hid (And.intro a7 k7)
          have WN7 := Lib.hid wn7
          clear OP at7 q7 a7 k7 hD7 hE7 on7 wn7 now1 now2 t7 inv7 g7 Q6' ROW7 TXT7 hlf7 TL
          go_wp2_with (go_at_call 20; refine stop ?_)
          unfold Stop
          refine SM1.out.mono ?_
          rintro r w8 ⟨rfl, n8, hw8⟩
          rw [hw8]
          clear SM1 hw8 w8
          go_wp2_with (go_at_call 20; refine stop ?_)
          unfold Stop
          refine (SM2.out n8).mono ?_
          rintro r w8 ⟨rfl, n9, hw8⟩
          have t8 : Turn (fun _ => False) w7 w8 := by rw [hw8]; exact ((Turn.refl _ _).drewN n8).drewN n9
          have T8 := Lib.hid t8
          have LE8 := Lib.hid (LE7.out w8 t8)
          clear SM2 hw8 t8 LE7 SLP
          go_wp2_with (go_at_call 22; refine stop ?_)
          unfold Stop
          refine LE8.out.mono ?_
          rintro r w9 ⟨rfl, hw9⟩
          rw [hw9]
          clear LE8 hw9 w9
          have TW8 := Lib.hid (TW7.out.trans T8.out (fun _ _ h => h))
          by_cases hl2 : lf7 < 2
          · have dl2 : decide ((lf7 : Int) < 2) = true := decide_eq_true (by omega)
            have dl2' : decide (lf7 < 2) = true := decide_eq_true hl2
            clear hl2
            go_wp2_with (go_at_call 9; refine stop ?_)
            unfold Stop
            refine (AW.out w8 TW8.out).mono ?_
            rintro r wz ⟨rfl, tz⟩
            have TZ := Lib.hid (TW8.out.trans tz (fun _ _ h => h))
            clear tz
            go_wp2
            go_ret
            exact ⟨rfl, TZ.out⟩
          have dl2 : decide ((lf7 : Int) < 2) = false := decide_eq_false (by omega)
          have dl2' : decide (lf7 < 2) = false := decide_eq_false hl2
          have G8 := Lib.hid (G7.out.quiet S13 T8.out)
          have QX8 := Lib.hid (QX.out.turn (N' := fun k => k < w.heap.size ∨ D7 k ∨ E7 k) T8.out (fun _ h => h.elim) (fun _ _ h => h))
          clear QX QW ROWZ TXTZ LP G7
          have F8 := Lib.hid (show Frm w w8 D7 E7 from ⟨TW8.out, HDW7.out, HEW7.out⟩)
          go_wp2_with (go_at_call 23; refine stop ?_)
          unfold Stop
          obtain ⟨w9, hw9⟩ : ∃ x, x = w8.alloc (.cells #[.int .u8 1, .int .u8 2] 5) := ⟨_, rfl⟩
          have t9 : Turn (fun _ => False) w8 w9 := by rw [hw9]; exact (Turn.refl _ _).alloc _
          have hs9 : SlN w9 (fun k => D7 k ∨ E7 k) (some ⟨w8.heap.size, 0, none⟩) (([1, 2] : List B8).map bv) := by
            have h := bts_new w8 [1, 2] _ rfl
            refine (show SlN w9 (fun k => k < w8.heap.size) (some ⟨w8.heap.size, 0, none⟩) (([1, 2] : List B8).map bv) by rw [hw9]; exact h).turn (Turn.refl (fun _ => False) _) (fun _ h => h.elim) (fun k _ hk => ?_)
            exact hk.elim (fun hk => G8.out.ats.ld.lt k hk) (fun hk => G8.out.ats.lt k hk)
          obtain ⟨r1, r2⟩ := rec_two (t := t) (n := R.1.length) (b := [1, 2]) ht (by rw [← HNW.out]; omega) (by simp)
          have P9 := Lib.hid (show Calls Tryd.prog 23 #[.pointer (some ⟨s7, 0, none⟩), .slice (some ⟨w8.heap.size, 0, none⟩) 2 2] w9 _ from (G8.out.quiet S13 t9).putOk S13 (by omega) (some ⟨w8.heap.size, 0, none⟩) 2 [1, 2] hs9 (fun h => by cases h) (by simp) (by omega) (by rw [← HNW.out]; unfold mostS; omega) (by rw [WN7.out]; simp) (by have := HLF7.out; omega))
          have F9 := Lib.hid (F8.out.quiet t9)
          have QX9 := Lib.hid (QX8.out.turn (N' := fun k => k < w.heap.size ∨ D7 k ∨ E7 k) t9 (fun _ h => h.elim) (fun _ _ h => h))
          rw [← hw9]
          clear hw9 t9 hs9 r1 r2 F8 QX8 G8 hl2
          refine P9.out.mono ?_
          rintro r w10 ⟨D10, d10, rfl, gd10, -, hD10, t10⟩
          have F10 := Lib.hid (F9.out.step hD10 t10)
          have QX10 := Lib.hid (QX9.out.turn (N' := fun k => k < w.heap.size ∨ D10 k ∨ E7 k) t10 (fun _ h => .inr h) (fun k hk h => h.elim .inl (fun h => .inr (h.elim (fun h => (hD10 k h).elim .inl (fun h => by have := h.1; omega)) .inr))))
          have SY := Lib.hid (gd10.syncOk S13)
          have I10 := Lib.hid (gd10.inv.on.sync).2.2
          clear P9 F9 QX9 gd10 hD10 t10
          go_wp2_with (go_at_call 24; refine stop ?_)
          unfold Stop
          refine SY.out.mono ?_
          rintro r w11 ⟨D11, rfl, gd11, hD11, t11⟩
          have F11 := Lib.hid (F10.out.step hD11 t11)
          have QX11 := Lib.hid (QX10.out.turn (N' := fun k => k < w.heap.size ∨ D11 k) t11 (fun _ h => .inr h) (fun k hk h => h.elim .inl (fun h => .inr ((hD11 k h).elim .inl (fun h => by have := h.1; omega)))))
          have ST := gd11.ats.ld.start none 0 [] (fun j u hu => by simp at hu) (by unfold maxLen; simp)
          rw [start_same gd11.inv.on I10.out] at ST
          have ST := Lib.hid (show Calls Tryd.prog 25 #[.pointer (some ⟨g, 0, none⟩), .slice none 0 0] w11 _ from ST)
          have I11 := Lib.hid gd11.inv
          clear SY F10 QX10 gd11 hD11 t11
          go_wp2_with (go_at_call 25; refine stop ?_)
          unfold Stop
          refine ST.out.mono ?_
          rintro r w12 ⟨⟨v12, rfl⟩, l12, t12⟩
          have F12 := Lib.hid (F11.out.drum t12)
          have QX12 := Lib.hid (QX11.out.turn (N' := fun _ => False) t12 (fun _ h => .inr h) (fun _ _ h => h.elim))
          obtain ⟨e1, e2⟩ := scan_same I11.out
          have SC12 := S13.scan w12 g 40 d10.sync D11 0 40 (t : Int) l12 (by omega) (by omega)
          rw [show scanE 40 d10.sync (0 : Int) (40 : Int) (t : Int) = 0 from e1, show scanV 40 d10.sync (0 : Int) (40 : Int) (t : Int) = _ from e2] at SC12
          obtain ⟨R2, hR2⟩ : ∃ x, x = R.1 ++ [[1, 2]] := ⟨_, rfl⟩
          rw [← hR2] at SC12
          have HR2 := Lib.hid hR2
          have hr2 : R2.length = j + 1 := by rw [hR2, List.length_append, ← HNW.out]; rfl
          simp only [hr2] at SC12
          have SC12 := Lib.hid SC12
          have HL2 := Lib.hid hr2
          clear ST F11 QX11 l12 t12 e1 e2 hR2 hr2
          go_wp2_with (go_at_call 15; refine stop ?_)
          unfold Stop
          refine SC12.out.mono ?_
          rintro r w13 ⟨A13, c13, rfl, q13, a13, k13, t13⟩
          have Q13 := Lib.hid (q13.turn (N' := fun _ => False) (Turn.refl (fun _ => False) _) (fun _ h => h.elim) (fun _ _ h => h.elim))
          have QX13 := Lib.hid (QX12.out.turn (N' := fun _ => False) t13 (fun _ h => h.elim) (fun _ _ h => h.elim))
          have T13 := Lib.hid (F12.out.t.trans t13 (fun _ _ h => h))
          have HA13 := Lib.hid (And.intro a13 k13)
          have H13 := T13.out.size
          clear SC12 F12 QX12 q13 a13 k13 t13
          obtain ⟨xs, tx, sx⟩ := QX13.out.vals
          have TX := Lib.hid tx
          have SX := Lib.hid sx
          clear tx sx QX13
          go_upto_region 41 with fail
          have one : ∀ u ∈ xs, u.oneCell' = true := fun u hu => by
            obtain ⟨k, hk, e⟩ := List.mem_iff_getElem.1 hu
            have hk2 : k < R.1.length := by have := TX.out.1; omega
            obtain ⟨Ai, ci, h1, -⟩ := TX.out.2 k R.1[k] (List.getElem?_eq_getElem hk2)
            rw [List.getElem?_eq_getElem hk] at h1
            injection h1 with h1
            rw [← e, h1]; rfl
          have xsl : xs.length = j := by rw [TX.out.1, ← HNW.out]
          have ho14 := own_new w13 w13.heap.size 22 [] 0 rfl (Nat.le_refl _) (by unfold maxLen; omega)
          obtain ⟨w14, hw14⟩ : ∃ x, x = w13.alloc (.cells #[] 22) := ⟨_, rfl⟩
          have t14 : Turn (fun _ => False) w13 w14 := by rw [hw14]; exact (Turn.refl _ _).alloc _
          have O14 := Lib.hid (show w14.ownsRow w13.heap.size 22 1 (.slice (some ⟨w13.heap.size, 0, none⟩) 0 0) 0 [] by rw [hw14]; exact ho14)
          have SX14 := Lib.hid (SX.out.turn (N' := fun _ => False) t14 (fun _ h => h.elim) (fun _ _ h => h.elim))
          have S14 := t14.size
          have T14 := Lib.hid t14
          have ONE := Lib.hid one
          have XSL := Lib.hid xsl
          clear ho14 t14 one xsl SX
          go_wp2_with (at_builtin; refine stop ?_)
          unfold Stop
          rw [← hw14]
          clear hw14
          refine wpList_unguard rfl ?_
          refine wpList_append_any_at (o := ⟨some 225, _, _, _, _, _⟩) rfl _ _ 36 rfl w13.heap.size 22 i0 (.slice none 0 0) 24 Tryd.underlying36 hi hz0 hz1 hz2 rfl (.slice (some ⟨w13.heap.size, 0, none⟩) 0 0) 0 [] rfl O14.out A7 j c7 xs rfl HA7.out.1 XSL.out (fun k u hu => ?_) ONE.out (by unfold maxLen; omega) (by omega) S14 ?_
          · obtain ⟨ad, e, -, hc⟩ := SX14.out k u hu
            exact ⟨ad, e, hc⟩
          intro v15 w15 own15 gr15 at15
          rw [List.nil_append, Nat.zero_add] at own15
          obtain ⟨A15, c15, rfl, -, -, k15, a15⟩ := own_sl own15
          have t15 : Turn (fun k => w13.heap.size ≤ k) w14 w15 := (Turn.refl _ w14).grown gr15 (fun k _ e => (O14.out.lt k e.symm).1)
          have O15 := Lib.hid own15
          have T15 := Lib.hid ((T13.out.trans T14.out (fun _ _ h => h)).trans t15 (fun k hk h => by have h' : w13.heap.size ≤ k := h; have := T13.out.size; omega))
          have TX15 := Lib.hid (((TX.out.turn (N' := fun k => w13.heap.size ≤ k) T14.out (fun _ h => h.elim) (fun k hk h => by omega)).turn (N' := fun k => w13.heap.size ≤ k) t15 (fun _ h => h) (fun _ _ h => h)))
          have Q15 := Lib.hid ((Q13.out.turn (N' := fun k => w13.heap.size ≤ k) T14.out (fun _ h => h.elim) (fun k hk h => by omega)).turn (N' := fun k => w13.heap.size ≤ k) t15 (fun _ h => h) (fun _ _ h => h))
          have S15 := Nat.le_trans S14 t15.size
          clear own15 gr15 at15 t15 O14 SX14 TX Q13 T13 T14 S14
          go_wp2_with (at_builtin; refine stop ?_)
          unfold Stop
          obtain ⟨w16, hw16⟩ : ∃ x, x = (w15.alloc (.cells #[.int .u8 1, .int .u8 2] 5)).alloc (.cells #[.slice (some ⟨w15.heap.size, 0, none⟩) 2 2] 22) := ⟨_, rfl⟩
          have t16 : Turn (fun _ => False) w15 w16 := by rw [hw16]; exact ((Turn.refl _ _).alloc _).alloc _
          have n1 : w16.heap[w15.heap.size]? = some (.cells #[.int .u8 1, .int .u8 2] 5 (0, 0)) := by rw [hw16]; exact heap_alloc2_old _ _ _
          have n2 : w16.heap[w15.heap.size + 1]? = some (.cells #[.slice (some ⟨w15.heap.size, 0, none⟩) 2 2] 22 (0, 0)) := by rw [hw16]; exact heap_alloc2_new _ _ _
          have O16 := Lib.hid (own_turn t16 O15.out (fun _ _ h => h))
          have hs12 : SlN w16 (fun k => (Value.slice A15 j c15).ownBlock = some k) (some ⟨w15.heap.size, 0, none⟩) (([1, 2] : List B8).map bv) := fun k u hu => ⟨_, rfl, fun h => by have := (O15.out.lt _ h).2; simp at this, by
            rw [add_row, cell_of_row _ _ _ _ _ _ n1]
            match k, hu with
            | 0, hu => exact hu
            | 1, hu => exact hu⟩
          have TX16 := (TX15.out.turn (N' := fun k => (Value.slice A15 j c15).ownBlock = some k) t16 (fun _ h => h.elim) (fun k _ h => (O15.out.lt k h).1)).add (x := [1, 2]) (A := some ⟨w15.heap.size, 0, none⟩) (c := 2) (by simp) (fun h => by cases h) hs12
          have Q16 := Lib.hid (Q15.out.turn (N' := fun k => w13.heap.size ≤ k) t16 (fun _ h => h.elim) (fun _ _ h => h))
          have T16 := Lib.hid (T15.out.trans t16 (fun _ _ h => h))
          have S16 := Nat.le_trans S15 t16.size
          have TX16 := Lib.hid TX16
          have N2 := Lib.hid n2
          rw [← hw16]
          clear hw16 t16 n1 n2 hs12 O15 TX15 Q15 T15 S15
          refine wpList_unguard rfl ?_
          refine wpList_append_any_at (o := ⟨some 228, _, _, _, _, _⟩) rfl _ _ 36 rfl w13.heap.size 22 i0 (.slice none 0 0) 24 Tryd.underlying36 hi hz0 hz1 hz2 rfl (.slice A15 j c15) j xs rfl O16.out (some ⟨w15.heap.size + 1, 0, none⟩) 1 1 [.slice (some ⟨w15.heap.size, 0, none⟩) 2 2] rfl (fun h => by cases h) rfl (fun k u hu => ⟨_, rfl, World.news_of_block (cs := #[.slice (some ⟨w15.heap.size, 0, none⟩) 2 2]) N2.out k u hu⟩) (one_slice _ 2 2) (by unfold maxLen; omega) (by omega) S16 ?_
          intro v18 w18 own18 gr18 at18
          have t18 : Turn (fun k => (Value.slice A15 j c15).ownBlock = some k) w16 w18 := (Turn.refl _ w16).grown gr18 (fun k _ e => e.symm)
          have hlo : ∀ k, (Value.slice A15 j c15).ownBlock = some k → w13.heap.size ≤ k := fun k h => (O16.out.lt k h).1
          obtain ⟨A18, c18, rfl, -, -, k18, a18⟩ := own_sl own18
          have Q18 := Lib.hid (show LstQ w18 (fun _ => False) A18 R2 from by
            rw [HR2.out]
            exact (TX16.out.turn (N' := fun _ => False) t18 (fun _ h => h) (fun _ _ h => h.elim)).lst (own_sln (N := fun _ => False) own18 (fun _ h => h.elim)))
          have QY18 := Lib.hid (show LstQ w18 (fun _ => False) A13 R2 from Q16.out.turn (N' := fun _ => False) t18 hlo (fun _ _ h => h.elim))
          have T18 := Lib.hid (T16.out.trans t18 (fun k hk h => by have := hlo k h; omega))
          have wl2 : ∀ x ∈ R2, x.length ≤ maxLen := fun x hx => by
            rw [HR2.out, List.mem_append] at hx
            rcases hx with hx | hx
            · exact WLEN.out x hx
            · rw [List.mem_singleton] at hx; subst hx; unfold maxLen; simp
          have SM := rsame13_any A13 A18 c13 c18 R2 R2 w18 QY18.out.lstN.lst Q18.out.lstN.lst (by rw [HL2.out]; omega) (by rw [HL2.out]; omega) wl2 wl2
          rw [decide_eq_true rfl, HL2.out] at SM
          have SM := Lib.hid SM
          clear own18 gr18 at18 t18 hlo wl2 Q18 QY18 TX16 Q16 T16 O16 N2 S16
          go_wp2_with (go_at_call 20; refine stop ?_)
          unfold Stop
          refine SM.out.mono ?_
          rintro r w19 ⟨rfl, n19, hw19⟩
          have T19 := Lib.hid (show Turn (fun _ => False) w w19 by rw [hw19]; exact T18.out.drewN n19)
          clear SM hw19 T18
          go_wp2_with (go_at_call 9; refine stop ?_)
          unfold Stop
          refine (AW.out w19 T19.out).mono ?_
          rintro r wz ⟨rfl, tz⟩
          have TZ := Lib.hid (T19.out.trans tz (fun _ _ h => h))
          clear tz
          go_wp2
          go_ret
          exact ⟨rfl, TZ.out⟩
end
end Go.Proofs.YthbheobjhpmoeaaDoor
