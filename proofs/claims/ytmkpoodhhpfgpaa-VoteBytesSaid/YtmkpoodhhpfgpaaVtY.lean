/- The document's Read of a ballot. -/
import Derived.Test.YtmkpoodhhpfgpaaVtX
import Derived.Test.YtmkpoodhhpfgpaaFrE
import Derived.Test.YtmkpoodhhpfgpaaTxE1
import Derived.BigRegion
import Derived.RegionTactic
set_option linter.unusedVariables false
set_option linter.unusedSimpArgs false
namespace Go.Proofs.Ytmkpoodhhpfgpaa
open Go.RowKit
theorem got_infoB : (Try.prog.info? 76).map (·.size) = some 37 := by kernel_rfl
theorem FL_eqB (m : Nat) : (Fd.cells ⟨0, m, none, 0, [], zeros 32⟩).toArray = FL 0 m := rfl
theorem rd_e1 {b : List B8} (h : eNum MX b ≠ 0) : rdE b = eNum MX b ∧ rdT b = 0 ∧ rdF b = 0 := by
  have h1 : ((s0 b).num MX).e = eNum MX b := num_at MX rfl
  have h2 : (rf (s0 b)).e = eNum MX b := by unfold rf; rw [(num_err (by rw [h1]; exact h)).1, h1]
  have h3 : rdE b = eNum MX b := by unfold rdE; rw [h2, if_pos h]
  exact ⟨h3, by unfold rdT; rw [h3, if_pos h], by unfold rdF; rw [h3, if_pos h]⟩
theorem rd_e2 {b : List B8} (h0 : eNum MX b = 0) : (rf (s0 b)).e = eNum 7 (numR b) ∧ (rf (s0 b)).l = numR (numR b) ∧ rT (s0 b) = ((numV b : Nat) : Int) := by
  have h1 : ((s0 b).num MX).e = 0 := by rw [num_at MX rfl]; exact h0
  refine ⟨num_at (s := (s0 b).num MX) 7 h1, rfl, ?_⟩
  unfold rT; rw [nv_at h1]; rfl
theorem rd_e3 {b : List B8} (h0 : eNum MX b = 0) (h : eNum 7 (numR b) = 0) : rF (s0 b) = ((numV (numR b) : Nat) : Int) - 1 := by
  have h2 : ((((s0 b).num MX)).num 7).e = 0 := by have := (rd_e2 h0).1; unfold rf at this; rw [this]; exact h
  unfold rF; rw [nv_at h2]; rfl
set_option maxRecDepth 100000 in
set_option maxHeartbeats 16000000 in
theorem rread16_any (A : Option Addr) (c : Nat) (b : List B8) (w : World) (hs : Sl w w.heap.size A (b.map bv)) (hA : A = none → c = 0) (hc : b.length ≤ c) (hlen : b.length ≤ 1099511627776) :
    Calls Try.prog 25 #[.slice A b.length c] w (BPost b w) := by
  unfold BPost
  obtain ⟨W, hW⟩ : ∃ W, W = w.heap.size := ⟨_, rfl⟩
  obtain ⟨w0, hw0⟩ : ∃ w0, w0 = w.alloc (.cells (blC 0 0) 23) := ⟨_, rfl⟩
  have t0 : Turn (fun _ => False) w w0 := by rw [hw0]; exact (Turn.refl _ _).alloc _
  have g0 : BBx w0 W 0 0 := by rw [hw0, hW]; exact BBx.new _ _ _
  have sl0 : SlN w0 (fun _ => False) A (b.map bv) := (SlN.of hs (N := fun _ => False) (fun _ _ h => h)).turn t0 (fun _ h => h) (fun _ _ h => h)
  have T1 := take_any A c b.length b rfl ⟨0, 1099511627776, none, 0, [], zeros 32⟩ w0 rfl (.inl rfl) (by decide) sl0 hA hc hlen
  rw [FL_eqB] at T1
  have e1 : sE ⟨0, 1099511627776, none, 0, [], zeros 32⟩ b = eNum MX b := by simp [sE, MX]
  rw [e1] at T1
  have R1 := Lib.hid (@rd_e1 b)
  have R2 := Lib.hid (@rd_e2 b)
  have R3 := Lib.hid (@rd_e3 b)
  have RE := Lib.hid (show rdE b = if (rf (s0 b)).e ≠ 0 then (rf (s0 b)).e else if (rf (s0 b)).l = [] then 0 else 3 from rfl)
  have RT := Lib.hid (show rdT b = if rdE b ≠ 0 then 0 else rT (s0 b) from rfl)
  have RF := Lib.hid (show rdF b = if rdE b ≠ 0 then 0 else rF (s0 b) from rfl)
  have HLN := Lib.hid (numR_le b)
  generalize rdE b = ex at *
  generalize rdT b = tx at *
  generalize rdF b = fx at *
  obtain ⟨E1, hE1⟩ : ∃ E, E = eNum MX b := ⟨_, rfl⟩
  rw [← hE1] at T1
  have HE1 := Lib.hid hE1
  have HG0 := Lib.hid g0
  have T0 := Lib.hid t0
  have T1 := Lib.hid T1
  have HL := Lib.hid hlen
  have HWW := Lib.hid hW
  have hzd := zero_got
  change ∀ w, _ = Result.ok (Value.agg Z37) w at hzd
  clear hs hA hc e1 sl0 t0 g0 hE1 hlen
  go_enter Try.func25, Try.ntmps25
  go_upto_region 1 with fail
  change Code.wp _ _ _ _ (w.alloc (.cells (blC 0 0) 23))
  rw [← hw0, ← hW]
  clear hw0 hW
  go_wp2_with fail
  refine T1.out.mono ?_
  rintro r v1 ⟨g1, rfl, hd1, hge1, hgx1, t1⟩
  obtain ⟨C1, hC1⟩ : ∃ C, C = g1.cells.toArray := ⟨_, rfl⟩
  obtain ⟨sC, oC, a1, -, a35, a36⟩ := g1.at C1 hC1 hd1
  rw [← hC1]
  have HA := Lib.hid (show (v1.alloc (.cells Z37 76)).heap[v1.heap.size]? = some (.cells Z37 76 (0, 0)) from heap_alloc_new _ _)
  have H1 := Lib.hid (show (Try.prog.info? 76).map (·.size) = some C1.size by rw [sC]; exact got_infoB)
  have H2 := Lib.hid (show Z37.size = C1.size by rw [sC]; rfl)
  have H3 := Lib.hid oC
  have HA1 := Lib.hid (And.intro a1 (And.intro a35 a36))
  have HGX1 := Lib.hid (And.intro hge1 hgx1)
  have TV := Lib.hid t1
  clear hC1 sC oC a1 a35 a36 hge1 hgx1 hd1 t1
  go_upto_region 2 with (refine wpList_store_row rfl _ _ _ rfl v1.heap.size C1 rfl rfl 76 Z37 HA.out H1.out H2.out H3.out ?_)
  obtain ⟨w2, hw⟩ : ∃ z, z = (v1.alloc (.cells Z37 76)).setRow v1.heap.size C1 := ⟨_, rfl⟩
  have tt : Turn (fun _ => False) v1 w2 := by rw [hw]; exact ((Turn.refl (fun _ => False) v1).alloc _).setRow _ _ (fun h => by omega)
  have hh : w2.heap[v1.heap.size]? = some (.cells C1 76 (0, 0)) := by rw [hw]; exact setRow_heap _ _ _ _ _ _ HA.out
  change Code.wp _ _ _ _ ((v1.alloc (.cells Z37 76)).setRow v1.heap.size C1)
  rw [← hw]
  clear hw HA H1 H2 H3
  have TO1 := Lib.hid (TV.out.trans tt (fun _ _ h => h))
  have HC1 := Lib.hid (fun (w' : World) (k : Turn (fun _ => False) w2 w') => show w'.cell? ⟨v1.heap.size, 1, none⟩ = some (.int .u64 (g1.f.n : Int)) ∧ w'.cell? ⟨v1.heap.size, 35, none⟩ = some (.int .i64 (g1.e : Int)) ∧ w'.cell? ⟨v1.heap.size, 36, none⟩ = some (.slice g1.A g1.l.length g1.c) from by
    have h2 := k.heap hh (fun h => h)
    refine ⟨?_, ?_, ?_⟩ <;> rw [cell_of_row _ _ _ _ _ _ h2]
    · exact HA1.out.1
    · exact HA1.out.2.1
    · exact HA1.out.2.2)
  clear tt hh HA1
  have HPW1 := Lib.hid (show W < v1.heap.size from by have := lt_of_block HG0.out; have := TV.out.size; omega)
  clear TV
  generalize v1.heap.size = p1 at *
  have HG2 := Lib.hid (HG0.out.turn TO1.out (fun h => h))
  have T2 := Lib.hid (T0.out.trans TO1.out (fun _ _ h => h))
  rw [HGX1.out.1] at HC1
  by_cases hz : E1 = 0
  rotate_left
  · have hez : ((E1 : Int) == 0) = false := by simp; omega
    have hen : ((E1 : Int) != 0) = true := by simp; omega
    obtain ⟨y1, y2, y3⟩ := HC1.out w2 (Turn.refl _ _)
    obtain ⟨⟨d0, d1⟩, d2, d3⟩ := HG2.out.cells
    have HR := Lib.hid (R1.out (by rw [← HE1.out]; exact hz))
    clear hz
    have hpw := HPW1.out
    have hne : W ≠ p1 := by omega
    have hne2 : p1 ≠ W := by omega
    go_wp2_with fail
    go_region
    go_wp2
    have h9 := HG2.out.set 0 0
    refine bodyPost_ret (v := .tuple #[blV 0 0, .int .i64 (E1 : Int)]) ?_ rfl ⟨?_, ?_⟩
    · exact results_bl Try.results25 _ _ W _ _ rfl rfl h9.1 rfl
    · rw [HR.out.2.1, HR.out.2.2, HR.out.1, ← HE1.out]
    · exact T2.out.trans h9.2.drew (fun i hi e => by have e : i = W := e; have := HWW.out; omega)
  obtain ⟨ok, at1⟩ := HGX1.out.2 hz
  have okn : g1.f.n = numV b := by rw [ok.n]; simp [sN]
  have okl : g1.l = numR b := by rw [ok.l]; simp [sL]
  have hlr := HLN.out
  have T3 := take_any g1.A g1.c g1.l.length g1.l rfl ⟨0, 7, none, 0, [], zeros 32⟩ w2 rfl (.inl rfl) (by decide) (at1.s.turn TO1.out (fun _ h => h) (fun _ _ h => h)) at1.a at1.c (by rw [okl]; have := HL.out; omega)
  rw [FL_eqB] at T3
  have e3 : sE ⟨0, 7, none, 0, [], zeros 32⟩ g1.l = eNum 7 (numR b) := by rw [okl]; simp [sE]
  rw [e3] at T3
  have T3 := Lib.hid T3
  have hE0 : eNum MX b = 0 := by rw [← HE1.out]; exact hz
  have HR2 := Lib.hid (R2.out hE0)
  have HR3 := Lib.hid (R3.out hE0)
  have HN1 := Lib.hid okn
  have HL1 := Lib.hid okl
  obtain ⟨E2, hE2⟩ : ∃ E, E = eNum 7 (numR b) := ⟨_, rfl⟩
  rw [← hE2] at T3 HR2 HR3
  have HE2 := Lib.hid hE2
  subst hz
  clear ok at1 okn okl hlr e3 hE0 hE2 R1 R2 R3 T1 HGX1
  obtain ⟨y1, y2, y3⟩ := HC1.out w2 (Turn.refl _ _)
  go_wp2_with (go_at_call 36; refine stop ?_)
  unfold Stop
  refine T3.out.mono ?_
  rintro r v2 ⟨g2, rfl, hd2, hge2, hgx2, t2⟩
  obtain ⟨C2, hC2⟩ : ∃ C, C = g2.cells.toArray := ⟨_, rfl⟩
  obtain ⟨sC, oC, a1, -, a35, a36⟩ := g2.at C2 hC2 hd2
  rw [← hC2]
  have HA := Lib.hid (show (v2.alloc (.cells Z37 76)).heap[v2.heap.size]? = some (.cells Z37 76 (0, 0)) from heap_alloc_new _ _)
  have H1 := Lib.hid (show (Try.prog.info? 76).map (·.size) = some C2.size by rw [sC]; exact got_infoB)
  have H2 := Lib.hid (show Z37.size = C2.size by rw [sC]; rfl)
  have H3 := Lib.hid oC
  have HA1 := Lib.hid (And.intro a1 (And.intro a35 a36))
  have HGX2 := Lib.hid (And.intro hge2 hgx2)
  have TV := Lib.hid t2
  clear hC2 sC oC a1 a35 a36 hge2 hgx2 hd2 t2
  go_upto_region 5 with (refine wpList_store_row rfl _ _ _ rfl v2.heap.size C2 rfl rfl 76 Z37 HA.out H1.out H2.out H3.out ?_)
  obtain ⟨w4, hw⟩ : ∃ z, z = (v2.alloc (.cells Z37 76)).setRow v2.heap.size C2 := ⟨_, rfl⟩
  have tt : Turn (fun _ => False) v2 w4 := by rw [hw]; exact ((Turn.refl (fun _ => False) v2).alloc _).setRow _ _ (fun h => by omega)
  have hh : w4.heap[v2.heap.size]? = some (.cells C2 76 (0, 0)) := by rw [hw]; exact setRow_heap _ _ _ _ _ _ HA.out
  change Code.wp _ _ _ _ ((v2.alloc (.cells Z37 76)).setRow v2.heap.size C2)
  rw [← hw]
  clear hw HA H1 H2 H3
  have TO2 := Lib.hid (TV.out.trans tt (fun _ _ h => h))
  have HC2 := Lib.hid (fun (w' : World) (k : Turn (fun _ => False) w4 w') => show w'.cell? ⟨v2.heap.size, 1, none⟩ = some (.int .u64 (g2.f.n : Int)) ∧ w'.cell? ⟨v2.heap.size, 35, none⟩ = some (.int .i64 (g2.e : Int)) ∧ w'.cell? ⟨v2.heap.size, 36, none⟩ = some (.slice g2.A g2.l.length g2.c) from by
    have h2 := k.heap hh (fun h => h)
    refine ⟨?_, ?_, ?_⟩ <;> rw [cell_of_row _ _ _ _ _ _ h2]
    · exact HA1.out.1
    · exact HA1.out.2.1
    · exact HA1.out.2.2)
  clear tt hh HA1
  have HPW2 := Lib.hid (show W < v2.heap.size from by have := lt_of_block HG2.out; have := TV.out.size; omega)
  clear TV
  generalize v2.heap.size = p2 at *
  have HG4 := Lib.hid (HG2.out.turn TO2.out (fun h => h))
  have T4 := Lib.hid (T2.out.trans TO2.out (fun _ _ h => h))
  have HC1b := Lib.hid (HC1.out w4 TO2.out)
  rw [HGX2.out.1] at HC2
  clear y1 y2 y3 HC1
  have hpw := HPW1.out
  have hpw2 := HPW2.out
  have hne : W ≠ p1 := by omega
  have hne2 : p1 ≠ W := by omega
  have hne3 : W ≠ p2 := by omega
  have hne4 : p2 ≠ W := by omega
  obtain ⟨y1, y2, y3⟩ := HC1b.out
  obtain ⟨z1, z2, z3⟩ := HC2.out w4 (Turn.refl _ _)
  obtain ⟨⟨d0, d1⟩, d2, d3⟩ := HG4.out.cells
  by_cases hz : E2 = 0
  rotate_left
  · have hez : ((E2 : Int) == 0) = false := by simp; omega
    have hen : ((E2 : Int) != 0) = true := by simp; omega
    have HX := Lib.hid (show ex = E2 by rw [RE.out, HR2.out.1, if_pos hz])
    have HY := Lib.hid (show tx = 0 ∧ fx = 0 from ⟨by rw [RT.out, if_pos (by rw [HX.out]; exact hz)], by rw [RF.out, if_pos (by rw [HX.out]; exact hz)]⟩)
    clear hz y1 y2 y3
    go_wp2_with fail
    go_region
    go_wp2
    have h9 := HG4.out.set 0 0
    refine bodyPost_ret (v := .tuple #[blV 0 0, .int .i64 (E2 : Int)]) ?_ rfl ⟨?_, ?_⟩
    · exact results_bl Try.results25 _ _ W _ _ rfl rfl h9.1 rfl
    · rw [HY.out.1, HY.out.2, HX.out]
    · exact T4.out.trans h9.2.drew (fun i hi e => by have e : i = W := e; have := HWW.out; omega)
  obtain ⟨ok, at2⟩ := HGX2.out.2 hz
  have okn : g2.f.n = numV (numR b) := by rw [ok.n, HL1.out]; simp [sN]
  have okl : g2.l = numR (numR b) := by rw [ok.l, HL1.out]; simp [sL]
  have hb1 := HL.out
  have hlr2 := numR_le (numR b)
  have hlr1 := HLN.out
  rw [okn] at z1
  rw [okl] at z3
  rw [HN1.out] at y1
  subst hz
  have HR3b := Lib.hid (HR3.out rfl)
  have bv1 : numV b ≤ 1099511627776 := nE_val (e := 0) (m := 1099511627776) (by unfold nE; rw [if_neg (by simp)]; exact HE1.out.symm)
  have bv2 : numV (numR b) ≤ 7 := nE_val (e := 0) (m := 7) (by unfold nE; rw [if_neg (by simp)]; exact HE2.out.symm)
  clear ok at2 okn okl
  by_cases hl : numR (numR b) = []
  · have HX := Lib.hid (show ex = 0 by rw [RE.out, HR2.out.1, if_neg (by simp), HR2.out.2.1, if_pos hl])
    have HY := Lib.hid (show tx = ((numV b : Nat) : Int) ∧ fx = ((numV (numR b) : Nat) : Int) - 1 from ⟨by rw [RT.out, if_neg (by rw [HX.out]; simp), HR2.out.2.2], by rw [RF.out, if_neg (by rw [HX.out]; simp), HR3b.out]⟩)
    rw [hl] at z3
    generalize numV b = n1 at *
    generalize numV (numR b) = n2 at *
    clear hl hlr1 hlr2
    go_wp2_with fail
    have h9 := HG4.out.set (n1 : Int) ((n2 : Int) - 1)
    refine bodyPost_ret (v := .tuple #[blV (n1 : Int) ((n2 : Int) - 1), .int .i64 0]) ?_ rfl ⟨?_, ?_⟩
    · exact results_bl Try.results25 _ _ W _ _ rfl rfl h9.1 rfl
    · rw [HY.out.1, HY.out.2, HX.out]; rfl
    · exact T4.out.trans h9.2 (fun i hi e => by have e : i = W := e; have := HWW.out; omega)
  · have HX := Lib.hid (show ex = 3 by rw [RE.out, HR2.out.1, if_neg (by simp), HR2.out.2.1, if_neg hl])
    have HY := Lib.hid (show tx = 0 ∧ fx = 0 from ⟨by rw [RT.out, if_pos (by rw [HX.out]; simp)], by rw [RF.out, if_pos (by rw [HX.out]; simp)]⟩)
    have hpos : 0 < (numR (numR b)).length := Nat.pos_of_ne_zero (fun h => hl (List.eq_nil_of_length_eq_zero h))
    generalize (numR (numR b)).length = m at *
    have dm : decide ((0 : Int) < (m : Int)) = true := decide_eq_true (by omega)
    have dm' : decide (0 < m) = true := decide_eq_true hpos
    clear hl
    go_wp2_with fail
    have h9 := HG4.out.set 0 0
    refine bodyPost_ret (v := .tuple #[blV 0 0, .int .i64 3]) ?_ rfl ⟨?_, ?_⟩
    · exact results_bl Try.results25 _ _ W _ _ rfl rfl h9.1 rfl
    · rw [HY.out.1, HY.out.2, HX.out]; rfl
    · exact T4.out.trans h9.2 (fun i hi e => by have e : i = W := e; have := HWW.out; omega)
end Go.Proofs.Ytmkpoodhhpfgpaa
