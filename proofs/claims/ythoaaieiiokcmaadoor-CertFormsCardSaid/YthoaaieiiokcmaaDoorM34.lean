/- Merged: What is read of a certificate's form. 'CertForms''s walk, over what the landed 'Read', 'Put' and 'awake' come to. Merged: The contracts of what is below the pen and the eye: a number's bits, bytes as a number, bytes copied, bytes compared. The contracts of bytes compared (the document's) and of bytes copied (the library's). The contracts of the eye's small methods: an error told, an error there, what is left, bytes taken. The contract of the eye's 'number'. The contracts of the eye's 'Num' and 'Text'. The contract of the eye's 'Id'. The contracts of the pen. The contracts of the pen's 'Text', 'Id' and 'Bytes'. The contracts of 'look' and 'Read': what is done with an eye, and how its panic is caught. The contract of 'Read'. The contracts of the statements' own small reader 'one', and of the document's example. -/
import Derived.Test.YthoaaieiiokcmaaDoorM29
import Derived.Test.YthoaaieiiokcmaaDoorM33
import Derived.Test.YthoaaieiiokcmaaDoorM30
import Derived.Test.YthoaaieiiokcmaaDoorM26
import Derived.Test.YthoaaieiiokcmaaDoorM03
import Derived.Deep.Cut
import Derived.Lib.Strings
import Derived.Lib.Slices
import Derived.Lib.Small
import Derived.Lib.Walk
import Derived.Lib.BitFns
import Derived.Deep.RegionLaw
import Derived.Laws.CopyOwn
import Derived.Maps.AppendAt
import Derived.Deep.AppendLies
import Derived.Defers
import Derived.Recover
import Derived.LaidEqlPtr
namespace Go.Proofs.YthoaaieiiokcmaaDoor
section
set_option linter.unusedVariables false
set_option linter.unusedSimpArgs false
theorem pE_le (e : Ent) (hd : e.d.length = 32) : (pE e).length ≤ 100 := by
  unfold pE; split
  · exact ent_le e hd (by assumption)
  · simp
theorem read_text (F R : List B8) (h : F.length < 18446744073709551616) : sL (tF 1 100) (numB F.length ++ (F ++ R)) = R ∧ sB (tF 1 100) (numB F.length ++ (F ++ R)) = F := by
  obtain ⟨-, h2, h3⟩ := read_numB F.length (F ++ R) h
  constructor
  · show (numR _).drop (numV _) = R
    rw [h2, h3]; exact List.drop_left' rfl
  · show (numR _).take (numV _) = F
    rw [h2, h3]; exact List.take_left' rfl
theorem ids_flat (ids : List (List B8)) (R : List B8) (h : ∀ d ∈ ids, d.length = 32) : ((List.range ids.length).map fun i => ((ids.flatten ++ R).drop (32 * i)).take 32) = ids ∧ (ids.flatten ++ R).drop (32 * ids.length) = R := by
  induction ids with
  | nil => simp
  | cons d l ih =>
    have hd := h d (List.mem_cons_self ..)
    obtain ⟨i1, i2⟩ := ih (fun x hx => h x (List.mem_cons_of_mem _ hx))
    have step : ∀ i, ((d :: l).flatten ++ R).drop (32 * (i + 1)) = (l.flatten ++ R).drop (32 * i) := fun i => by
      rw [List.flatten_cons, List.append_assoc, show 32 * (i + 1) = d.length + 32 * i by omega, ← List.drop_drop, List.drop_left' rfl]
    constructor
    · rw [List.length_cons, List.range_succ_eq_map, List.map_cons, List.map_map]
      congr 1
      · rw [List.flatten_cons, List.append_assoc, Nat.mul_zero, List.drop_zero]; exact List.take_left' hd
      · refine Eq.trans ?_ i1
        apply List.map_congr_left
        intro i _
        show (((d :: l).flatten ++ R).drop (32 * (i + 1))).take 32 = _
        rw [step]
    · rw [List.length_cons, step]; exact i2
theorem cform_parts (x : Crt) (hx : x.L) (hm : x.ids.length < 18446744073709551616) : rrE (formC x) = pE x.e ∧ rrH (formC x) = pH x.h ∧ (rr4 (formC x)).take 32 = x.t ∧ rrI (formC x) (rrN (formC x)) = x.ids := by
  have hE := pE_le x.e hx.1
  have hH := pH_le x.h hx.2.1
  obtain ⟨a1, a2⟩ := read_text (pE x.e) (numB x.ids.length ++ (x.ids.flatten ++ (numB (pH x.h).length ++ (pH x.h ++ x.t)))) (by omega)
  obtain ⟨-, b2, b3⟩ := read_numB x.ids.length (x.ids.flatten ++ (numB (pH x.h).length ++ (pH x.h ++ x.t))) hm
  obtain ⟨c1, c2⟩ := ids_flat x.ids (numB (pH x.h).length ++ (pH x.h ++ x.t)) hx.2.2.2
  obtain ⟨d1, d2⟩ := read_text (pH x.h) x.t (by omega)
  have r1 : rr1 (formC x) = numB x.ids.length ++ (x.ids.flatten ++ (numB (pH x.h).length ++ (pH x.h ++ x.t))) := a1
  have rN : rrN (formC x) = x.ids.length := by unfold rrN; rw [r1]; exact b2
  have r2 : rr2 (formC x) = x.ids.flatten ++ (numB (pH x.h).length ++ (pH x.h ++ x.t)) := by unfold rr2; rw [r1]; exact b3
  have r3 : rr3 (formC x) = numB (pH x.h).length ++ (pH x.h ++ x.t) := by unfold rr3; rw [r2, rN]; exact c2
  have r4 : rr4 (formC x) = x.t := by unfold rr4; rw [r3]; exact d1
  refine ⟨a2, ?_, ?_, ?_⟩
  · unfold rrH; rw [r3]; exact d2
  · rw [r4]; exact List.take_of_length_le (by rw [hx.2.2.1]; omega)
  · unfold rrI; rw [r2, rN]; exact c1
theorem readE_nil : readE [] ≠ 0 := by decide
theorem hreadE_nil : hreadE [] ≠ 0 := by decide
theorem readCE_zero {b : List B8} (h : readCE b = 0) : readE (rrE b) = 0 ∧ hreadE (rrH b) = 0 ∧ readCV b = ⟨readV (rrE b), hreadV (rrH b), (rr4 b).take 32, rrI b (rrN b)⟩ := by
  have hv : readCV b = ⟨readV (rrE b), hreadV (rrH b), (rr4 b).take 32, rrI b (rrN b)⟩ := by unfold readCV; rw [if_neg (fun k => k h)]
  unfold readCE at h
  by_cases c1 : sE (tF 1 100) b ≠ 0
  · rw [if_pos c1] at h; exact absurd h c1
  rw [if_neg c1] at h
  by_cases c2 : sE (tF 0 32) (rr1 b) ≠ 0
  · rw [if_pos c2] at h; exact absurd h c2
  rw [if_neg c2] at h
  by_cases c3 : (rr2 b).length < 32 * rrN b
  · rw [if_pos c3] at h; cases h
  rw [if_neg c3] at h
  by_cases c4 : sE (tF 1 100) (rr3 b) ≠ 0
  · rw [if_pos c4] at h; exact absurd h c4
  rw [if_neg c4] at h
  by_cases c5 : (rr4 b).length < 32
  · rw [if_pos c5] at h; cases h
  rw [if_neg c5] at h
  by_cases c6 : rr5 b ≠ []
  · rw [if_pos c6] at h; cases h
  rw [if_neg c6] at h
  by_cases c7 : readE (rrE b) ≠ 0
  · rw [if_pos c7] at h; exact absurd h c7
  rw [if_neg c7] at h
  exact ⟨Decidable.byContradiction c7, h, hv⟩
/-- What is read of a certificate's form is that certificate. -/
theorem cform_read (x : Crt) (hx : x.L) (hm : x.ids.length < 18446744073709551616) (h : readCE (formC x) = 0) : readCV (formC x) = x ∧ okB x.e ∧ okH x.h := by
  obtain ⟨p1, p2, p3, p4⟩ := cform_parts x hx hm
  obtain ⟨h1, h2, hv⟩ := readCE_zero h
  clear h
  generalize formC x = b at *
  rw [p1] at h1
  rw [p2] at h2
  have oe : okB x.e := by
    refine Decidable.byContradiction fun hn => ?_
    rw [show pE x.e = [] from if_neg hn] at h1; exact readE_nil h1
  have oh : okH x.h := by
    refine Decidable.byContradiction fun hn => ?_
    rw [show pH x.h = [] from if_neg hn] at h2; exact hreadE_nil h2
  refine ⟨?_, oe, oh⟩
  rw [hv, p1, p2, p3, p4, show pE x.e = formE x.e from if_pos oe, show pH x.h = formH x.h from if_pos oh, (form_read x.e hx.1 oe).2, (hform_read x.h hx.2.1 oh).2]
theorem rrI_each (b : List B8) (k : Nat) (h : 32 * k ≤ (rr2 b).length) : ∀ d ∈ rrI b k, d.length = 32 := by
  generalize hl : rr2 b = l at h
  intro d hd
  unfold rrI at hd
  rw [hl] at hd
  simp only [List.mem_map, List.mem_range] at hd
  obtain ⟨i, hi, rfl⟩ := hd
  rw [List.length_take, List.length_drop]
  omega
theorem rrN_le {b : List B8} (h : sE (tF 0 32) (rr1 b) = 0) : rrN b ≤ 32 := by
  unfold rrN
  generalize rr1 b = l at *
  exact (eNum_le (m := 32) (l := l) h).1
theorem readCV_L (b : List B8) : (readCV b).L ∧ (readCV b).ids.length ≤ 32 := by
  by_cases h : readCE b = 0
  · obtain ⟨-, -, hv⟩ := readCE_zero h
    unfold readCE at h
    by_cases c1 : sE (tF 1 100) b ≠ 0
    · rw [if_pos c1] at h; exact absurd h c1
    rw [if_neg c1] at h
    by_cases c2 : sE (tF 0 32) (rr1 b) ≠ 0
    · rw [if_pos c2] at h; exact absurd h c2
    rw [if_neg c2] at h
    by_cases c3 : (rr2 b).length < 32 * rrN b
    · rw [if_pos c3] at h; cases h
    rw [if_neg c3] at h
    by_cases c4 : sE (tF 1 100) (rr3 b) ≠ 0
    · rw [if_pos c4] at h; exact absurd h c4
    rw [if_neg c4] at h
    by_cases c5 : (rr4 b).length < 32
    · rw [if_pos c5] at h; cases h
    have h2 : sE (tF 0 32) (rr1 b) = 0 := Decidable.byContradiction c2
    have hn := rrN_le h2
    rw [hv]
    have h4 : ((rr4 b).take 32).length = 32 := by rw [List.length_take]; exact Nat.min_eq_left (Nat.le_of_not_lt c5)
    have h3 : 32 * rrN b ≤ (rr2 b).length := Nat.le_of_not_lt c3
    clear hv h h2 c1 c2 c3 c4 c5
    have hh : (hreadV (rrH b)).L := hreadV_L _
    have he : (readV (rrE b)).d.length = 32 := readV_d _
    have hi := rrI_each b (rrN b) h3
    have hl : (rrI b (rrN b)).length ≤ 32 := by rw [rrI_len]; exact hn
    clear h3 hn
    generalize hreadV (rrH b) = H at *
    generalize readV (rrE b) = E at *
    generalize rrI b (rrN b) = I at *
    generalize (rr4 b).take 32 = T at *
    exact ⟨⟨he, hh, h4, hi⟩, hl⟩
  · have hv : readCV b = CZ := by unfold readCV; rw [if_pos h]
    rw [hv]
    exact ⟨CZ_L, by simp [CZ]⟩
theorem formC_le (x : Crt) (hx : x.L) (hm : x.ids.length ≤ 40) : (formC x).length ≤ 10000 := by
  have hE := pE_le x.e hx.1
  have hH := pH_le x.h hx.2.1
  have hf : x.ids.flatten.length = x.ids.length * 32 := by
    have := flat32_len x.ids hx.2.2.2 x.ids.length (Nat.le_refl _)
    rwa [List.take_of_length_le (Nat.le_refl _)] at this
  have n1 := numB_le (n := (pE x.e).length) (by omega)
  have n2 := numB_le (n := x.ids.length) (by omega)
  have n3 := numB_le (n := (pH x.h).length) (by omega)
  have := hx.2.2.1
  unfold formC
  simp only [List.length_append]
  omega
theorem cr_keep (x : Crt) (A : Option Addr) (c : Nat) (hx : x.L) : (Tryd.prog.info? 32).map (·.size) = some (x.cells A c).toArray.size ∧ (CZ.cells none 0).toArray.size = (x.cells A c).toArray.size ∧ (x.cells A c).toArray.all (·.oneCell') = true := by
  have h : (x.cells A c).toArray.size = 137 := by rw [List.size_toArray, Crt.len _ _ _ hx]
  refine ⟨by rw [h]; exact cr_info, ?_, Crt.one _ _ _⟩
  rw [h, List.size_toArray, Crt.len _ _ _ CZ_L]
/-- Read of a form, the errors and the values: what comes back is the same, if it is read. -/
theorem cform_back (x : Crt) (hx : x.L) (hm : x.ids.length ≤ 40) : readCE (formC x) = 0 → decide ((readCV (formC x)).same x) = true := fun h => by
  rw [(cform_read x hx (by omega) h).1]; exact decide_eq_true ⟨rfl, rfl, rfl, rfl⟩
end
section
set_option linter.unusedVariables false
set_option linter.unusedSimpArgs false
open Go.RowKit
attribute [local go_sem ↓] loadAt_cr loadAt_hd loadAt_en loadAt_id
attribute [local go_sem] run_crLoad run_hdLoad run_enLoad run_idLoad rowOf_drew rowOf_drewN
theorem blk_row {w w' : World} {b : Nat} {L : List Value} {t : TypeId} (h : w.heap[b]? = some (.cells L.toArray t (0, 0))) (hL : (Tryd.prog.info? 32).map (·.size) = some L.length) (k : Turn (fun _ => False) w w') : rowOf w' b 0 137 = some L.toArray := by
  have e : L.length = 137 := by rw [cr_info] at hL; injection hL with hL; exact hL.symm
  have := rowOf_block (k.heap h (fun h => h)) 0 137 (by omega)
  rwa [List.drop_zero, List.take_of_length_le (by omega)] at this
/-- What 'Read' is to come to. -/
def CRead : Prop := ∀ (A : Option Addr) (c : Nat) (b : List B8) (w : World), Sl w w.heap.size A (b.map bv) → (A = none → c = 0) → b.length ≤ c → b.length ≤ 1000000 → Calls Tryd.prog 18 #[.slice A b.length c] w (CPost b w)
/-- What 'Put' is to come to. -/
def CPut : Prop := ∀ (x : Crt) (A : Option Addr) (c : Nat) (w : World), x.L → CPath w x A c → x.ids.length ≤ 1000 → Calls Tryd.prog 20 #[.agg (x.cells A c).toArray] w fun r w' => ∃ u, r = .returned u ∧ w'.ownsRow w.heap.size 5 1 u (formC x).length ((formC x).map bv) ∧ Turn (fun _ => False) w w'
set_option maxRecDepth 100000 in
set_option maxHeartbeats 4000000 in
theorem certForms_of (AW : ∀ w, Glob w → Calls Tryd.prog 8 #[] w fun r w' => r = .returned (.bool true) ∧ Turn (fun _ => False) w w') (CR : CRead) (CP : CPut) (x : Crt) (A : Option Addr) (c : Nat) (A1 : Option Addr) (c1 : Nat) (b : List B8) (w : World) (hx : x.L) (px : CPath w x A c) (mx : x.ids.length ≤ maxLen) (hs : Sl w w.heap.size A1 (b.map bv)) (hm : b.length ≤ maxLen) (hA : A1 = none → c1 = 0) (hc : b.length ≤ c1) (hG : Glob w) :
    Calls Tryd.prog 5 #[.agg (x.cells A c).toArray, .slice A1 b.length c1] w fun r w' => r = .returned (.bool true) ∧ Turn (fun _ => False) w w' := by
  have AW := Lib.hid AW
  have G1 := Lib.hid (fun w px => great_any x A c w hx px)
  have rx := fun w b h => cr_row (w := w) (b := b) (x := x) (A := A) (c := c) h hx
  have ZX := Lib.hid (show (Tryd.prog.info? 32).map (·.size) = some (x.cells A c).length by rw [Crt.len _ _ _ hx]; exact cr_info)
  have P1 := Lib.hid (fun w px hi => CP x A c w hx px hi)
  have P2 := Lib.hid (fun w px hi => rcput_any x A c w hx px hi)
  unfold CAt at rx
  have HX := Lib.hid hx
  obtain ⟨LC, hC⟩ : ∃ C, C = x.cells A c := ⟨_, rfl⟩
  simp only [← hC] at G1 rx ZX P1 P2 ⊢
  have HCX := Lib.hid hC
  obtain ⟨w1, hw1⟩ : ∃ w1, w1 = w.alloc (.cells LC.toArray 32) := ⟨_, rfl⟩
  have t1 : Turn (fun _ => False) w w1 := by rw [hw1]; exact (Turn.refl _ _).alloc _
  have e1 : w1.heap[w.heap.size]? = some (.cells LC.toArray 32 (0, 0)) := by rw [hw1]; exact heap_alloc_new _ _
  have RX := Lib.hid (fun (w' : World) (t : Turn (fun _ => False) w1 w') => rx w' _ (t.heap e1 (fun h => h)))
  have E1 := Lib.hid e1
  have PX := Lib.hid (fun (w' : World) (t : Turn (fun _ => False) w1 w') => (px.turn t1).turn t)
  have SB := Lib.hid (fun (w' : World) (t : Turn (fun _ => False) w1 w') => show Sl w' w'.heap.size A1 (b.map bv) from ((t1.trans t (fun _ _ h => h)).sl hs (fun _ _ h => h)).more (t1.trans t (fun _ _ h => h)).size)
  have GL := Lib.hid (fun (w' : World) (t : Turn (fun _ => False) w1 w') => show Glob w' from glob_turn (glob_turn hG t1) t)
  have T1 := Lib.hid t1
  have T11 := Lib.hid (Turn.refl (fun _ => False) w1)
  have RD1 := fun (w : World) (hs : Sl w w.heap.size A1 (b.map bv)) (hl : b.length ≤ 1000000) => CR A1 c1 b w hs hA hc hl
  have RD2 := fun (w : World) (hs : Sl w w.heap.size A1 (b.map bv)) (hl : b.length ≤ 1000000) => rcread_any A1 c1 b w hs hA hc hl
  obtain ⟨bl, hbl⟩ : ∃ n, n = b.length := ⟨_, rfl⟩
  rw [← hbl] at hc hm RD1 RD2 ⊢
  have RD1 := Lib.hid RD1
  have RD2 := Lib.hid RD2
  have HBL := Lib.hid hbl
  have HAC := Lib.hid (And.intro hA hc)
  obtain ⟨ZC, hZC⟩ : ∃ Z, Z = (CZ.cells none 0).toArray := ⟨_, rfl⟩
  have hcz := cr_zero
  rw [← hZC] at hcz
  have KP := Lib.hid (fun (y : Crt) (A : Option Addr) (c : Nat) (h : y.L) => cr_keep y A c h)
  simp only [← hZC] at KP
  have CR := Lib.hid CR
  clear t1 e1 rx hC hG px hs hA hc CP hx hm hbl hZC
  obtain ⟨ga, hga⟩ : ∃ g, g = decide (40 < x.ids.length) := ⟨_, rfl⟩
  rw [← hga] at G1
  have HGA := Lib.hid (show ga = false → x.ids.length ≤ 40 from fun h => by rw [hga, decide_eq_false_iff_not] at h; omega)
  clear hga mx
  go_enter Tryd.func5, Tryd.ntmps5
  go_upto_region 1 with fail
  change Code.wp _ _ _ _ (w.alloc (.cells LC.toArray 32))
  rw [← hw1]
  clear hw1
  have f1 := RX.out w1 T11.out
  go_wp2_with (go_at_call 7; refine stop ?_)
  unfold Stop
  refine (G1.out w1 (PX.out w1 T11.out)).mono ?_
  rintro r w2 ⟨rfl, t2⟩
  clear f1
  have T2 := Lib.hid t2
  clear t2
  cases ga with
  | true =>
    go_wp2_with (go_at_call 8; refine stop ?_)
    unfold Stop
    refine (AW.out w2 (GL.out w2 T2.out)).mono ?_
    rintro r w3 ⟨rfl, t3⟩
    have T3 := Lib.hid t3
    clear t3
    go_wp2
    go_ret
    exact ⟨rfl, (T1.out.trans T2.out (fun _ _ h => h)).trans T3.out (fun _ _ h => h)⟩
  | false =>
    by_cases hb : 600 < bl
    · have t0 : decide (600 < (bl : Int)) = true := by rw [decide_eq_true_eq]; omega
      go_wp2_with (go_at_call 8; refine stop ?_)
      unfold Stop
      refine (AW.out w2 (GL.out w2 T2.out)).mono ?_
      rintro r w3 ⟨rfl, t3⟩
      have T3 := Lib.hid t3
      clear t3
      go_wp2
      go_ret
      exact ⟨rfl, (T1.out.trans T2.out (fun _ _ h => h)).trans T3.out (fun _ _ h => h)⟩
    · have t0 : decide (600 < (bl : Int)) = false := by rw [decide_eq_false_iff_not]; omega
      go_wp2_with (go_at_call 18; refine stop ?_)
      unfold Stop
      refine (RD1.out w2 (SB.out w2 T2.out) (by omega)).mono ?_
      rintro r w3 ⟨A2, c2, rfl, p2, t2⟩
      have K2 := Lib.hid (KP.out (readCV (b)) A2 c2 (readCV_L (b)).1)
      have Y2 := Lib.hid (fun (w' : World) (t : Turn (fun _ => False) w3 w') => p2.turn t)
      have Z2 := Lib.hid (show (Tryd.prog.info? 32).map (·.size) = some ((readCV (b)).cells A2 c2).length by rw [Crt.len _ _ _ (readCV_L (b)).1]; exact cr_info)
      obtain ⟨L2, hL2⟩ : ∃ L, L = (readCV (b)).cells A2 c2 := ⟨_, rfl⟩
      rw [← hL2] at K2 Z2 ⊢
      have EL2 := Lib.hid hL2
      have T3 := Lib.hid (T2.out.trans t2 (fun _ _ h => h))
      have D2 := Lib.hid t2
      clear t2 p2 hL2
      have HA := Lib.hid (show (w3.alloc (.cells ZC 32)).heap[w3.heap.size]? = some (.cells ZC 32 (0, 0)) from heap_alloc_new _ _)
      go_upto_region 4 with (refine wpList_store_row rfl _ _ _ rfl w3.heap.size L2.toArray rfl rfl 32 ZC HA.out K2.out.1 K2.out.2.1 K2.out.2.2 ?_)
      have t4 : Turn (fun _ => False) w3 ((w3.alloc (.cells ZC 32)).setRow w3.heap.size L2.toArray) := ((Turn.refl (fun _ => False) w3).alloc _).setRow _ _ (fun h => by omega)
      have e4 := setRow_heap (w3.alloc (.cells ZC 32)) w3.heap.size ZC L2.toArray 32 (0, 0) HA.out
      change Code.wp _ _ _ _ ((w3.alloc (.cells ZC 32)).setRow w3.heap.size L2.toArray)
      obtain ⟨w4, hw4⟩ : ∃ z, z = (w3.alloc (.cells ZC 32)).setRow w3.heap.size L2.toArray := ⟨_, rfl⟩
      rw [← hw4] at t4 e4 ⊢
      clear hw4 HA
      have D3 := Lib.hid t4
      have T4 := Lib.hid (T3.out.trans t4 (fun _ _ h => h))
      have B2 := Lib.hid e4
      clear t4 e4
      obtain ⟨q2, hq2⟩ : ∃ q, q = w3.heap.size := ⟨_, rfl⟩
      rw [← hq2] at B2 ⊢
      clear hq2
      go_wp2_with (go_at_call 19; refine stop ?_)
      unfold Stop
      refine (RD2.out w4 (SB.out w4 T4.out) (by omega)).mono ?_
      rintro r w5 ⟨A4, c4, rfl, p4, t4⟩
      have K4 := Lib.hid (KP.out (readCV (b)) A4 c4 (readCV_L (b)).1)
      have Y4 := Lib.hid (fun (w' : World) (t : Turn (fun _ => False) w5 w') => p4.turn t)
      have Z4 := Lib.hid (show (Tryd.prog.info? 32).map (·.size) = some ((readCV (b)).cells A4 c4).length by rw [Crt.len _ _ _ (readCV_L (b)).1]; exact cr_info)
      obtain ⟨L4, hL4⟩ : ∃ L, L = (readCV (b)).cells A4 c4 := ⟨_, rfl⟩
      rw [← hL4] at K4 Z4 ⊢
      have EL4 := Lib.hid hL4
      have T5 := Lib.hid (T4.out.trans t4 (fun _ _ h => h))
      have D4 := Lib.hid t4
      clear t4 p4 hL4
      have HA := Lib.hid (show (w5.alloc (.cells ZC 32)).heap[w5.heap.size]? = some (.cells ZC 32 (0, 0)) from heap_alloc_new _ _)
      go_upto_region 5 with (refine wpList_store_row rfl _ _ _ rfl w5.heap.size L4.toArray rfl rfl 32 ZC HA.out K4.out.1 K4.out.2.1 K4.out.2.2 ?_)
      have t6 : Turn (fun _ => False) w5 ((w5.alloc (.cells ZC 32)).setRow w5.heap.size L4.toArray) := ((Turn.refl (fun _ => False) w5).alloc _).setRow _ _ (fun h => by omega)
      have e6 := setRow_heap (w5.alloc (.cells ZC 32)) w5.heap.size ZC L4.toArray 32 (0, 0) HA.out
      change Code.wp _ _ _ _ ((w5.alloc (.cells ZC 32)).setRow w5.heap.size L4.toArray)
      obtain ⟨w6, hw6⟩ : ∃ z, z = (w5.alloc (.cells ZC 32)).setRow w5.heap.size L4.toArray := ⟨_, rfl⟩
      rw [← hw6] at t6 e6 ⊢
      clear hw6 HA
      have D5 := Lib.hid t6
      have T6 := Lib.hid (T5.out.trans t6 (fun _ _ h => h))
      have B4 := Lib.hid e6
      clear t6 e6
      obtain ⟨q4, hq4⟩ : ∃ q, q = w5.heap.size := ⟨_, rfl⟩
      rw [← hq4] at B4 ⊢
      clear hq4
      have f6 := RX.out w6 T6.out
      go_wp2_with (go_at_call 20; refine stop ?_)
      unfold Stop
      refine (P1.out w6 (PX.out w6 T6.out) (by have := HGA.out trivial; omega)).mono ?_
      rintro r w7 ⟨u, rfl, ho, t6⟩
      obtain ⟨A6, c6, rfl, s6, -, hc6, hA6⟩ := own_sl ho
      have SP := Lib.hid (fun (w' : World) (t : Turn (fun _ => False) w7 w') => show Sl w' w'.heap.size A6 ((formC x).map bv) from (t.sl s6 (fun _ _ h => h)).more t.size)
      have HSP := Lib.hid (And.intro hA6 hc6)
      have T7 := Lib.hid (T6.out.trans t6 (fun _ _ h => h))
      have D6 := Lib.hid t6
      clear t6 ho s6 hc6 hA6 f6
      go_wp2_with (go_at_call 18; refine stop ?_)
      unfold Stop
      refine (CR.out A6 c6 (formC x) w7 (SP.out w7 (Turn.refl _ _)) HSP.out.1 HSP.out.2 (by have := formC_le x HX.out (HGA.out trivial); omega)).mono ?_
      rintro r w8 ⟨A7, c7, rfl, p7, t7⟩
      have K7 := Lib.hid (KP.out (readCV (formC x)) A7 c7 (readCV_L (formC x)).1)
      have Y7 := Lib.hid (fun (w' : World) (t : Turn (fun _ => False) w8 w') => p7.turn t)
      have Z7 := Lib.hid (show (Tryd.prog.info? 32).map (·.size) = some ((readCV (formC x)).cells A7 c7).length by rw [Crt.len _ _ _ (readCV_L (formC x)).1]; exact cr_info)
      obtain ⟨L7, hL7⟩ : ∃ L, L = (readCV (formC x)).cells A7 c7 := ⟨_, rfl⟩
      rw [← hL7] at K7 Z7 ⊢
      have EL7 := Lib.hid hL7
      have T8 := Lib.hid (T7.out.trans t7 (fun _ _ h => h))
      have D7 := Lib.hid t7
      clear t7 p7 hL7
      have HA := Lib.hid (show (w8.alloc (.cells ZC 32)).heap[w8.heap.size]? = some (.cells ZC 32 (0, 0)) from heap_alloc_new _ _)
      go_upto_region 7 with (refine wpList_store_row rfl _ _ _ rfl w8.heap.size L7.toArray rfl rfl 32 ZC HA.out K7.out.1 K7.out.2.1 K7.out.2.2 ?_)
      have t9 : Turn (fun _ => False) w8 ((w8.alloc (.cells ZC 32)).setRow w8.heap.size L7.toArray) := ((Turn.refl (fun _ => False) w8).alloc _).setRow _ _ (fun h => by omega)
      have e9 := setRow_heap (w8.alloc (.cells ZC 32)) w8.heap.size ZC L7.toArray 32 (0, 0) HA.out
      change Code.wp _ _ _ _ ((w8.alloc (.cells ZC 32)).setRow w8.heap.size L7.toArray)
      obtain ⟨w9, hw9⟩ : ∃ z, z = (w8.alloc (.cells ZC 32)).setRow w8.heap.size L7.toArray := ⟨_, rfl⟩
      rw [← hw9] at t9 e9 ⊢
      clear hw9 HA
      have D8 := Lib.hid t9
      have T9 := Lib.hid (T8.out.trans t9 (fun _ _ h => h))
      have B7 := Lib.hid e9
      clear t9 e9
      obtain ⟨q7, hq7⟩ : ∃ q, q = w8.heap.size := ⟨_, rfl⟩
      rw [← hq7] at B7 ⊢
      clear hq7
      have f9 := RX.out w9 T9.out
      go_wp2_with (go_at_call 21; refine stop ?_)
      unfold Stop
      refine (P2.out w9 (PX.out w9 T9.out) (by have := HGA.out trivial; omega)).mono ?_
      rintro r w10 ⟨u, rfl, ho, t9⟩
      obtain ⟨A9, c9, rfl, s9, -, hc9, hA9⟩ := own_sl ho
      have SR := Lib.hid (fun (w' : World) (t : Turn (fun _ => False) w10 w') => show Sl w' w'.heap.size A9 ((formC x).map bv) from (t.sl s9 (fun _ _ h => h)).more t.size)
      have HSR := Lib.hid (And.intro hA9 hc9)
      have T10 := Lib.hid (T9.out.trans t9 (fun _ _ h => h))
      have D9 := Lib.hid t9
      clear t9 ho s9 hc9 hA9 f9
      go_wp2_with (go_at_call 19; refine stop ?_)
      unfold Stop
      refine (rcread_any A9 c9 (formC x) w10 (SR.out w10 (Turn.refl _ _)) HSR.out.1 HSR.out.2 (by have := formC_le x HX.out (HGA.out trivial); omega)).mono ?_
      rintro r w11 ⟨A10, c10, rfl, p10, t10⟩
      have K10 := Lib.hid (KP.out (readCV (formC x)) A10 c10 (readCV_L (formC x)).1)
      have Y10 := Lib.hid (fun (w' : World) (t : Turn (fun _ => False) w11 w') => p10.turn t)
      have Z10 := Lib.hid (show (Tryd.prog.info? 32).map (·.size) = some ((readCV (formC x)).cells A10 c10).length by rw [Crt.len _ _ _ (readCV_L (formC x)).1]; exact cr_info)
      obtain ⟨L10, hL10⟩ : ∃ L, L = (readCV (formC x)).cells A10 c10 := ⟨_, rfl⟩
      rw [← hL10] at K10 Z10 ⊢
      have EL10 := Lib.hid hL10
      have T11 := Lib.hid (T10.out.trans t10 (fun _ _ h => h))
      have D10 := Lib.hid t10
      clear t10 p10 hL10
      have HA := Lib.hid (show (w11.alloc (.cells ZC 32)).heap[w11.heap.size]? = some (.cells ZC 32 (0, 0)) from heap_alloc_new _ _)
      go_upto_region 8 with (refine wpList_store_row rfl _ _ _ rfl w11.heap.size L10.toArray rfl rfl 32 ZC HA.out K10.out.1 K10.out.2.1 K10.out.2.2 ?_)
      have t12 : Turn (fun _ => False) w11 ((w11.alloc (.cells ZC 32)).setRow w11.heap.size L10.toArray) := ((Turn.refl (fun _ => False) w11).alloc _).setRow _ _ (fun h => by omega)
      have e12 := setRow_heap (w11.alloc (.cells ZC 32)) w11.heap.size ZC L10.toArray 32 (0, 0) HA.out
      change Code.wp _ _ _ _ ((w11.alloc (.cells ZC 32)).setRow w11.heap.size L10.toArray)
      obtain ⟨w12, hw12⟩ : ∃ z, z = (w11.alloc (.cells ZC 32)).setRow w11.heap.size L10.toArray := ⟨_, rfl⟩
      rw [← hw12] at t12 e12 ⊢
      clear hw12 HA
      have D11 := Lib.hid t12
      have T12 := Lib.hid (T11.out.trans t12 (fun _ _ h => h))
      have B10 := Lib.hid e12
      clear t12 e12
      obtain ⟨q10, hq10⟩ : ∃ q, q = w11.heap.size := ⟨_, rfl⟩
      rw [← hq10] at B10 ⊢
      clear hq10
      have BK := Lib.hid (cform_back x HX.out (HGA.out trivial))
      have mF := (readCV_L (formC x))
      have mB := (readCV_L b)
      have m40 := HGA.out trivial
      have SA := Lib.hid (fun w p p' => (rcsame_any (readCV b) (readCV b) A2 A4 c2 c4 w mB.1 mB.1 p p' (by have := mB.2; unfold maxLen; omega) (by have := mB.2; unfold maxLen; omega)))
      have SC := Lib.hid (fun w p p' => (rcsame_any (readCV (formC x)) (readCV (formC x)) A7 A10 c7 c10 w mF.1 mF.1 p p' (by have := mF.2; unfold maxLen; omega) (by have := mF.2; unfold maxLen; omega)))
      have SD := Lib.hid (fun w p p' => (rcsame_any (readCV (formC x)) x A7 A c7 c w mF.1 HX.out p p' (by have := mF.2; unfold maxLen; omega) (by unfold maxLen; omega)))
      have hfl : (formC x).length ≤ maxLen := by have := formC_le x HX.out m40; unfold maxLen; omega
      have HBY := Lib.hid (fun (X Y : Option Addr) (m n : Nat) (w' : World) (hx : Sl w' w'.heap.size X ((formC x).map bv)) (hy : Sl w' w'.heap.size Y ((formC x).map bv)) => show Calls Tryd.prog 22 #[.slice X (formC x).length m, .slice Y (formC x).length n] w' (fun e w'' => e = Ending.returned (.bool true) ∧ Turn (fun _ => False) w' w'') from (rbytes_any X Y m n _ _ (formC x) (formC x) w' hx hy hfl hfl).mono (fun e w'' ⟨h1, n, h2⟩ => ⟨by rw [h1]; simp, by rw [h2]; exact (Turn.refl (fun _ => False) w').drewN n⟩))
      simp only [Crt.same_self] at SA SC
      rw [← EL2.out, ← EL4.out] at SA
      rw [← EL7.out, ← EL10.out] at SC
      rw [← EL7.out, ← HCX.out] at SD
      have X11 := D11.out
      have X9 := D9.out.trans (D10.out.trans X11 (fun _ _ h => h)) (fun _ _ h => h)
      have X8 := D8.out.trans X9 (fun _ _ h => h)
      have X7 := D7.out.trans X8 (fun _ _ h => h)
      have X6 := D6.out.trans X7 (fun _ _ h => h)
      have X5 := D5.out.trans X6 (fun _ _ h => h)
      have X4 := D4.out.trans X5 (fun _ _ h => h)
      have X3 := D3.out.trans X4 (fun _ _ h => h)
      have RW := Lib.hid (show ∀ w' : World, Turn (fun _ => False) w12 w' → (rowOf w' q2 0 137 = some L2.toArray ∧ rowOf w' q4 0 137 = some L4.toArray) ∧ (rowOf w' q7 0 137 = some L7.toArray ∧ rowOf w' q10 0 137 = some L10.toArray ∧ rowOf w' w.heap.size 0 137 = some LC.toArray) from fun w' t =>
        ⟨⟨blk_row B2.out Z2.out (X4.trans t (fun _ _ h => h)), blk_row B4.out Z4.out (X6.trans t (fun _ _ h => h))⟩, blk_row B7.out Z7.out (X9.trans t (fun _ _ h => h)), blk_row B10.out Z10.out t, RX.out w' (T12.out.trans t (fun _ _ h => h))⟩)
      have PG := Lib.hid (show ∀ w' : World, Turn (fun _ => False) w12 w' → CPath w' (readCV b) A2 c2 ∧ CPath w' (readCV b) A4 c4 ∧ CPath w' (readCV (formC x)) A7 c7 ∧ CPath w' (readCV (formC x)) A10 c10 ∧ CPath w' x A c ∧ Sl w' w'.heap.size A6 ((formC x).map bv) ∧ Glob w' from fun w' t =>
        ⟨Y2.out w' (X3.trans t (fun _ _ h => h)), Y4.out w' (X5.trans t (fun _ _ h => h)), Y7.out w' (X8.trans t (fun _ _ h => h)), Y10.out w' (X11.trans t (fun _ _ h => h)), PX.out w' (T12.out.trans t (fun _ _ h => h)), SP.out w' (X7.trans t (fun _ _ h => h)), GL.out w' (T12.out.trans t (fun _ _ h => h))⟩)
      have PP := Lib.hid (fun (w' : World) (t : Turn (fun _ => False) w12 w') => (P2.out w' (PG.out w' t).2.2.2.2.1 (by omega)))
      clear X3 X4 X5 X6 X7 X8 X9 X11 mF mB hfl SR HSR CR RD1 RD2 EL2 EL4 EL7 EL10 SB
      clear D2 D3 D4 D5 D6 D7 D8 D9 D10 D11 Y2 Y4 Y7 Y10 K2 K4 K7 K10 B2 B4 B7 B10
      have hef : readCE (formC x) = 0 ∨ readCE (formC x) ≠ 0 := Decidable.em _
      generalize readCE (formC x) = ef at *
      generalize readCE b = eb at *
      generalize formC x = F at *
      obtain ⟨fl, hfl⟩ : ∃ n, n = F.length := ⟨_, rfl⟩
      rw [← hfl] at HBY PP ⊢
      clear hfl
      have q1 : ((eb : Int) == (eb : Int)) = true := beq_self_eq_true _
      have q2' : ((ef : Int) == (ef : Int)) = true := beq_self_eq_true _
      have V12 := Lib.hid (Turn.refl (fun _ => False) w12)
      rcases hef with h0 | h0
      · have SDX := SD.out
        rw [BK.out h0] at SDX
        have SD := Lib.hid (fun w p p' => by have := SD.out w p p'; rw [BK.out h0] at this; exact this)
        subst h0
        have q3 : (((0 : Nat) : Int) != 0) = false := by simp
        have ff := (RW.out w12 V12.out).1.1
        have gg := (RW.out w12 V12.out).1.2
        go_wp2_with (go_at_call 17; refine stop ?_)
        unfold Stop
        refine (SA.out w12 (PG.out w12 V12.out).1 (PG.out w12 V12.out).2.1).mono ?_
        rintro r w13 ⟨rfl, tt⟩
        have V13 := Lib.hid (V12.out.trans tt (fun _ _ h => h))
        clear tt
        clear ff gg
        have ff := (RW.out w13 V13.out).2.2.2
        go_wp2_with (go_at_call 21; refine stop ?_)
        unfold Stop
        refine (PP.out w13 V13.out).mono ?_
        rintro r w14 ⟨u, rfl, ho, tt⟩
        obtain ⟨A5, c5, rfl, s5, -, -, -⟩ := own_sl ho
        have S5 := Lib.hid s5
        have V14 := Lib.hid (V13.out.trans tt (fun _ _ h => h))
        clear tt ff ho s5
        go_wp2_with (go_at_call 22; refine stop ?_)
        unfold Stop
        refine (HBY.out A6 A5 c6 c5 w14 (PG.out w14 V14.out).2.2.2.2.2.1 S5.out).mono ?_
        rintro r w15 ⟨rfl, tt⟩
        have V15 := Lib.hid (V14.out.trans tt (fun _ _ h => h))
        clear tt
        have ff := (RW.out w15 V15.out).2.1
        have gg := (RW.out w15 V15.out).2.2.1
        go_wp2_with (go_at_call 17; refine stop ?_)
        unfold Stop
        refine (SC.out w15 (PG.out w15 V15.out).2.2.1 (PG.out w15 V15.out).2.2.2.1).mono ?_
        rintro r w16 ⟨rfl, tt⟩
        have V16 := Lib.hid (V15.out.trans tt (fun _ _ h => h))
        clear tt
        clear ff gg
        have ff := (RW.out w16 V16.out).2.1
        have gg := (RW.out w16 V16.out).2.2.2
        go_wp2_with (go_at_call 17; refine stop ?_)
        unfold Stop
        refine (SD.out w16 (PG.out w16 V16.out).2.2.1 (PG.out w16 V16.out).2.2.2.2.1).mono ?_
        rintro r w17 ⟨rfl, tt⟩
        have V17 := Lib.hid (V16.out.trans tt (fun _ _ h => h))
        clear tt
        clear ff gg
        go_wp2_with (go_at_call 8; refine stop ?_)
        unfold Stop
        refine (AW.out w17 (PG.out w17 V17.out).2.2.2.2.2.2).mono ?_
        rintro r w18 ⟨rfl, tt⟩
        have V18 := Lib.hid (V17.out.trans tt (fun _ _ h => h))
        clear tt
        go_wp2
        go_ret
        exact ⟨rfl, T1.out.trans (T12.out.trans V18.out (fun _ _ h => h)) (fun _ _ h => h)⟩
      · have q3 : ((ef : Int) != 0) = true := by simp; omega
        have ff := (RW.out w12 V12.out).1.1
        have gg := (RW.out w12 V12.out).1.2
        go_wp2_with (go_at_call 17; refine stop ?_)
        unfold Stop
        refine (SA.out w12 (PG.out w12 V12.out).1 (PG.out w12 V12.out).2.1).mono ?_
        rintro r w13 ⟨rfl, tt⟩
        have V13 := Lib.hid (V12.out.trans tt (fun _ _ h => h))
        clear tt
        clear ff gg
        have ff := (RW.out w13 V13.out).2.2.2
        go_wp2_with (go_at_call 21; refine stop ?_)
        unfold Stop
        refine (PP.out w13 V13.out).mono ?_
        rintro r w14 ⟨u, rfl, ho, tt⟩
        obtain ⟨A5, c5, rfl, s5, -, -, -⟩ := own_sl ho
        have S5 := Lib.hid s5
        have V14 := Lib.hid (V13.out.trans tt (fun _ _ h => h))
        clear tt ff ho s5
        go_wp2_with (go_at_call 22; refine stop ?_)
        unfold Stop
        refine (HBY.out A6 A5 c6 c5 w14 (PG.out w14 V14.out).2.2.2.2.2.1 S5.out).mono ?_
        rintro r w15 ⟨rfl, tt⟩
        have V15 := Lib.hid (V14.out.trans tt (fun _ _ h => h))
        clear tt
        have ff := (RW.out w15 V15.out).2.1
        have gg := (RW.out w15 V15.out).2.2.1
        go_wp2_with (go_at_call 17; refine stop ?_)
        unfold Stop
        refine (SC.out w15 (PG.out w15 V15.out).2.2.1 (PG.out w15 V15.out).2.2.2.1).mono ?_
        rintro r w16 ⟨rfl, tt⟩
        have V16 := Lib.hid (V15.out.trans tt (fun _ _ h => h))
        clear tt
        clear ff gg
        go_wp2_with (go_at_call 8; refine stop ?_)
        unfold Stop
        refine (AW.out w16 (PG.out w16 V16.out).2.2.2.2.2.2).mono ?_
        rintro r w17 ⟨rfl, tt⟩
        have V17 := Lib.hid (V16.out.trans tt (fun _ _ h => h))
        clear tt
        go_wp2
        go_ret
        exact ⟨rfl, T1.out.trans (T12.out.trans V17.out (fun _ _ h => h)) (fun _ _ h => h)⟩
end
section

section

open Go.RowKit
end
section

open Go.RowKit
end
section
set_option linter.unusedVariables false
set_option linter.unusedSimpArgs false

open Go.RowKit
section
variable {w w' : World} {e E n c y : Nat} {A : Option Addr}
end
end
section
set_option linter.unusedVariables false
set_option linter.unusedSimpArgs false

open Go.RowKit
/- A number read, by definition: the error, the number, what is left. -/
end
section
set_option linter.unusedVariables false

open Go.RowKit
set_option maxRecDepth 100000 in
set_option maxHeartbeats 1000000 in
theorem text_yes (e E : Nat) (N : Nat → Prop) (most : Int) (l : List B8) (w : World) (h : Eye0 w e E N l) (hx : eText most l = 0) (hm : most < 9223372036854775808) :
    Calls Tryd.prog 86 #[.pointer (some ⟨e, 0, none⟩), .int .i64 most] w fun r w' => ∃ v, r = .returned v ∧ w'.ownsRow w.heap.size 5 1 v (numV l) (((numR l).take (numV l)).map bv) ∧ Eye0 w' e E N ((numR l).drop (numV l)) ∧ Turn (fun i => i = e) w w' := by
  unfold eText at hx
  by_cases h1 : numE l ≠ 0
  · rw [if_pos h1] at hx; exact absurd hx h1
  rw [if_neg h1] at hx
  by_cases h2 : most < 0 ∨ most < (numV l : Int)
  · rw [if_pos h2] at hx; cases hx
  rw [if_neg h2] at hx
  by_cases h4 : (numR l).length < numV l
  · rw [if_pos h4] at hx; cases hx
  have T := Lib.hid (number_yes e E N l w h (by omega))
  obtain ⟨m, rfl⟩ : ∃ m : Nat, most = (m : Int) := ⟨most.toNat, by omega⟩
  have h3 : ¬ ((m : Int) < (numV l : Int)) := by omega
  have T2 := Lib.hid (fun w h => take0_yes e E N (numV l) (numR l) w h (by omega))
  have h5 : m < 9223372036854775808 := by omega
  have HL := Lib.hid (show ((numR l).take (numV l)).length = numV l by simp; omega)
  have hlt := h.lt
  clear h hx h1 h2 h4 hm
  generalize numV l = v at *
  generalize numR l = r at *
  go_enter Tryd.func86, Tryd.ntmps86
  go_wp2_with (first
    | (go_at_call 106; refine T.out.mono ?_; rintro q w1 ⟨rfl, he1, ht1⟩; have HE1 := Lib.hid he1; have HT1 := Lib.hid ht1; clear he1 ht1)
    | (go_at_call 107; refine (T2.out _ HE1.out).mono ?_; rintro q w2 ⟨A2, c2, rfl, hs2, hA2, hc2, he2, ht2⟩; have V2 := Lib.hid (clone_at A2 c2 v N _ w2 hs2 HL.out hA2 hc2 (by have := HE1.out.lt; have := congrArg List.length (List.take_append_drop v r); have := HL.out; simp at *; omega)); have HE2 := Lib.hid he2; have HT2 := Lib.hid ht2; clear hs2 hA2 hc2 he2 ht2)
    | (go_at_call 37; refine V2.out.mono ?_; rintro q w3 ⟨v3, rfl, ho3, ht3⟩; have HO3 := Lib.hid ho3; have HT3 := Lib.hid ht3; clear ho3 ht3))
  go_ret
  have s1 := HT1.out.size
  have s2 := HT2.out.size
  have l2 := HE2.out.lt
  exact ⟨v3, rfl, own_more HO3.out (by omega), HE2.out.turn HT3.out (fun h => h) (fun h => h) (fun _ h => h.elim), (HT1.out.trans HT2.out (fun _ _ h => h)).trans HT3.out (fun _ _ h => h.elim)⟩
set_option maxRecDepth 100000 in
set_option maxHeartbeats 1000000 in
theorem text_no (e E : Nat) (N : Nat → Prop) (most : Int) (l : List B8) (w : World) (h : Eye0 w e E N l) (hx : eText most l ≠ 0) (hm : most < 9223372036854775808) (hm2 : -9223372036854775808 ≤ most) :
    Calls Tryd.prog 86 #[.pointer (some ⟨e, 0, none⟩), .int .i64 most] w fun r w' => r = pan E ∧ EyeX w' e E (eText most l) ∧ Turn (fun i => i = e ∨ i = E) w w' := by
  unfold eText at hx ⊢
  by_cases h1 : numE l ≠ 0
  · rw [if_pos h1]
    have T := Lib.hid (number_no e E N l w h h1)
    clear h hx h1
    go_enter Tryd.func86, Tryd.ntmps86
    go_wp2_with (go_at_call 106; refine T.out.mono ?_; rintro q w1 ⟨rfl, he1, ht1⟩; dsimp only [pan]; have HE1 := Lib.hid he1; have HT1 := Lib.hid ht1; clear he1 ht1)
    exact ⟨rfl, rfl, HE1.out, HT1.out⟩
  rw [if_neg h1] at hx ⊢
  have T := Lib.hid (number_yes e E N l w h (by omega))
  by_cases h2 : most < 0 ∨ most < (numV l : Int)
  · rw [if_pos h2]
    have T2 := Lib.hid (fun w h => fail0 e E N 5 (numR l) w h (by decide))
    by_cases h3 : most < 0
    · clear h hx h1 h2
      generalize numV l = v at *
      go_enter Tryd.func86, Tryd.ntmps86
      go_wp2_with (first
        | (go_at_call 106; refine T.out.mono ?_; rintro q w1 ⟨rfl, he1, ht1⟩; have HE1 := Lib.hid he1; have HT1 := Lib.hid ht1; clear he1 ht1)
        | (go_at_call 89; refine (T2.out _ HE1.out).mono ?_; rintro q w2 ⟨rfl, he2, ht2⟩; dsimp only [pan]; have HE2 := Lib.hid he2; have HT2 := Lib.hid ht2; clear he2 ht2))
      exact ⟨rfl, rfl, HE2.out, HT1.out.trans' HT2.out⟩
    · obtain ⟨m, rfl⟩ : ∃ m : Nat, most = (m : Int) := ⟨most.toNat, by omega⟩
      have h3 : ((m : Int) < (numV l : Int)) := by omega
      have h5 : m < 9223372036854775808 := by omega
      clear h hx h1 h2 hm hm2
      generalize numV l = v at *
      go_enter Tryd.func86, Tryd.ntmps86
      go_wp2_with (first
        | (go_at_call 106; refine T.out.mono ?_; rintro q w1 ⟨rfl, he1, ht1⟩; have HE1 := Lib.hid he1; have HT1 := Lib.hid ht1; clear he1 ht1)
        | (go_at_call 89; refine (T2.out _ HE1.out).mono ?_; rintro q w2 ⟨rfl, he2, ht2⟩; dsimp only [pan]; have HE2 := Lib.hid he2; have HT2 := Lib.hid ht2; clear he2 ht2))
      exact ⟨rfl, rfl, HE2.out, HT1.out.trans' HT2.out⟩
  rw [if_neg h2] at hx ⊢
  by_cases h4 : (numR l).length < numV l
  · rw [if_pos h4]
    obtain ⟨m, rfl⟩ : ∃ m : Nat, most = (m : Int) := ⟨most.toNat, by omega⟩
    have h3 : ¬ ((m : Int) < (numV l : Int)) := by omega
    have T2 := Lib.hid (fun w h => take0_no e E N (numV l) (numR l) w h h4)
    have h5 : m < 9223372036854775808 := by omega
    clear h hx h1 h2 h4 hm hm2
    generalize numV l = v at *
    go_enter Tryd.func86, Tryd.ntmps86
    go_wp2_with (first
      | (go_at_call 106; refine T.out.mono ?_; rintro q w1 ⟨rfl, he1, ht1⟩; have HE1 := Lib.hid he1; have HT1 := Lib.hid ht1; clear he1 ht1)
      | (go_at_call 107; refine (T2.out _ HE1.out).mono ?_; rintro q w2 ⟨rfl, he2, ht2⟩; dsimp only [pan]; have HE2 := Lib.hid he2; have HT2 := Lib.hid ht2; clear he2 ht2))
    exact ⟨rfl, rfl, HE2.out, HT1.out.trans' HT2.out⟩
  · rw [if_neg h4] at hx; exact absurd rfl hx

end
section
set_option linter.unusedVariables false

open Go.RowKit
end
section
set_option linter.unusedVariables false

open Go.RowKit
end
section
set_option linter.unusedVariables false

open Go.RowKit
set_option maxRecDepth 100000 in
set_option maxHeartbeats 1000000 in
theorem ptext_any (p B : Nat) (v : Value) (xs b : List B8) (A : Option Addr) (c : Nat) (w : World) (h : PenAt w p B v xs) (hs : SlN w (fun i => i = p ∨ some i = v.ownBlock) A (b.map bv)) (hA : A = none → c = 0) (hc : b.length ≤ c) (hlen : xs.length + 9 + b.length ≤ 1099511627776) :
    Calls Tryd.prog 56 #[.pointer (some ⟨p, 0, none⟩), .slice A b.length c] w fun r w' => r = .returned (.tuple #[]) ∧ ∃ v', PenAt w' p B v' (xs ++ (numB b.length ++ b)) ∧ PenStep w w' p v v' := by
  obtain ⟨i0, hi, hz0, hz1, hz2⟩ := info_parts info_u8
  have T := Lib.hid (pnum_any p B v xs b.length w h (by omega) (by omega))
  have hb64 : b.length < 9223372036854775808 := by omega
  have hnl := numB_le (n := b.length) (by omega)
  have HH := Lib.hid h
  have HS := Lib.hid hs
  clear h hs
  go_enter Tryd.func56, Tryd.ntmps56
  go_upto_region 1 with (go_at_call 36; refine T.out.mono ?_; rintro r w1 ⟨rfl, v1, hp1, hst1⟩; have HP1 := Lib.hid hp1; have HS1 := Lib.hid hst1; obtain ⟨c1, z1⟩ := hp1.cell; clear hp1 hst1)
  go_step
  iterate 18 go_step
  refine wpList_append_any_at (o := ⟨some 15, _, _, _, _, _⟩) rfl _ _ 22 rfl B 5 i0 (.int .u8 0) 1 Tryd.underlying22 hi hz0 hz1 hz2 rfl v1 (xs ++ numB b.length).length ((xs ++ numB b.length).map bv) rfl HP1.out.2.1 A b.length c (b.map bv) rfl hA (by simp) ?_ (bv_one b) ?_ ?_ ?_ ?_
  · intro j u hu
    have hs1 := HS.out.turn HS1.out.1 (N' := fun _ => False) (fun _ h => h) (fun _ _ h => h.elim)
    obtain ⟨ad, e, -, hc⟩ := hs1 j u hu
    exact ⟨ad, e, hc⟩
  · unfold maxLen; simp; omega
  · simp; omega
  · exact HP1.out.2.2.2
  intro v2 w2 own2 gr2 at2
  have hps := pen_store (ys := b) HP1.out (Turn.refl _ _) own2 gr2 (at2.imp id (fun e => ⟨_, e, Nat.le_refl _⟩))
  obtain ⟨c2, z2⟩ := pen_cell HP1.out (Turn.refl _ _) gr2
  obtain ⟨A2, n2, rfl, -⟩ := own_sl own2
  rw [List.length_append] at hps
  have HPS := Lib.hid hps
  clear own2 gr2 at2 hps c1 z1
  go_wp2
  first | go_end0 | refine bodyPost_ret (results_none rfl _ _ _) rfl ?_
  exact ⟨rfl, _, by rw [← List.append_assoc]; exact HPS.out.1, HS1.out.trans HPS.out.2⟩
end
section
set_option linter.unusedVariables false

open Go.RowKit
end
section
set_option linter.unusedVariables false

open Go.RowKit
end
section
set_option linter.unusedVariables false

open Go.RowKit
end
end
end Go.Proofs.YthoaaieiiokcmaaDoor
