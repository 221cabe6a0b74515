/- Merged: The landed wipe, Blank and Open over any drum that is on: power may fail. The landed Blank and Open over any drum that is on: power may fail, writes may wait. One element appended to a slice that need not begin where its row does, in a region that draws its order. No function of the program is named here. The landed chest in memory; used, ends. The document's chest: how many sectors a record has; what is left. The document's Left. The document's Keep. Pieces for regions that draw their order: a text's copy, a list of one text, a chest's value; the document's Change. -/
import Derived.Test.YtajdcekkmikbcaaDoorM39
import Derived.Test.YtajdcekkmikbcaaDoorM08
import Derived.ArgAppend
import Derived.Test.YtajdcekkmikbcaaDoorM33
namespace Go.Proofs.YtajdcekkmikbcaaDoor
section
set_option linter.unusedVariables false
set_option linter.unusedSimpArgs false
open Go.RowKit
set_option maxRecDepth 100000
/-- Zeros written over what is left of a stretch (d0: as it was read), up to the first error. -/
def wipeL (d0 d : Dr) (p i : Nat) : Nat → Dr × Nat
  | 0 => (d, 0)
  | r + 1 => if d0.now (p + i) = zeros 64 then wipeL d0 d p (i + 1) r else if d.writeE ((p + i : Nat) : Int) (zeros 64) ≠ 0 then (d.write ((p + i : Nat) : Int) (zeros 64), d.writeE ((p + i : Nat) : Int) (zeros 64)) else wipeL d0 (d.write ((p + i : Nat) : Int) (zeros 64)) p (i + 1) r
def wipeR (d : Dr) (p m : Nat) : Dr × Nat := if (wipeL d d p 0 m).2 ≠ 0 then wipeL d d p 0 m else if wiB d p m = true then ((wipeL d d p 0 m).1.sync, (wipeL d d p 0 m).1.syncE) else ((wipeL d d p 0 m).1, 0)
set_option maxHeartbeats 16000000 in
theorem wipeG_any (w : World) (g s n p m : Nat) (t nx : Int) (d : Dr) (D : Nat → Prop) (A : Option Addr) (c : Nat) (ld : LD w g n d D) (hn : n ≤ 8192) (hp : p + m ≤ n) (hb : SBox w s (.pointer (some ⟨g, 0, none⟩)) t nx p m) (hsD : ¬ D s)
    (hs : SlN w D A ((cutD d p m).map bv)) (hA : A = none → c = 0) (hc : 64 * m ≤ c) (hW : d.W.length + m < 10000) :
    Calls Tryd.prog 75 #[.pointer (some ⟨s, 0, none⟩), .slice A (64 * m) c] w fun r w' => ∃ D', r = .returned (.int .i64 ((wipeR d p m).2 : Int)) ∧ LD w' g n (wipeR d p m).1 D' ∧ (∀ k, D' k → Dn D w w' k) ∧ Turn D w w' := by
  have hz64 := zero_64
  obtain ⟨w1, hw1⟩ : ∃ w1, w1 = w.alloc (.cells ZSec 91) := ⟨_, rfl⟩
  obtain ⟨z, hz⟩ : ∃ z, z = w.heap.size := ⟨_, rfl⟩
  have t1 : Turn (fun _ => False) w w1 := by rw [hw1]; exact (Turn.refl _ _).alloc _
  have Z1 := Lib.hid (show w1.heap[z]? = some (.cells ((zeros 64).map bv).toArray 91 (0, 0)) by rw [hw1, hz]; exact heap_alloc_new _ _)
  have T1 := Lib.hid t1
  have L1 := Lib.hid (ld.quiet t1)
  have B1 := Lib.hid (hb.turn t1 (fun h => h))
  have S1 := Lib.hid (hs.turn (N' := D) t1 (fun _ h => h.elim) (fun _ _ h => h))
  have HZ := Lib.hid (show w.heap.size ≤ z by omega)
  have HZ1 := Lib.hid (show z < w1.heap.size from lt_of_block Z1.out)
  have HZD := Lib.hid (show ¬ D z from fun h => by have := ld.lt z h; omega)
  have HS := Lib.hid hb.lt
  have HCL := Lib.hid (cutD_len ld.ok p m hp)
  have HOK := Lib.hid ld.ok
  obtain ⟨WR_, hWR⟩ : ∃ x, x = wipeR d p m := ⟨_, rfl⟩
  rw [← hWR]
  have HWR := Lib.hid hWR
  obtain ⟨c0, c1, c2, c3, c4⟩ := B1.out.cells
  have AC := Lib.hid (And.intro hA hc)
  clear ld hb hs hA t1 hWR
  go_enter Tryd.func75, Tryd.ntmps75
  go_upto_region 2 with fail
  change Code.wp _ _ _ _ (w.alloc (.cells ZSec 91))
  rw [← hw1, ← hz]
  clear hw1 hz
  go_upto_region 4 with fail
  clear c0 c1 c2 c3 c4
  go_loopw [6, 13] (fun fl iv wr => ∃ (i : Nat) (Di : Nat → Prop) (di : Dr), i ≤ m ∧ iv = .int .i64 (i : Int) ∧ fl = .bool (wiB d p i) ∧ wipeL d d p 0 m = wipeL d di p i (m - i) ∧ di.W.length ≤ d.W.length + i ∧ LD wr g n di Di ∧ (∀ k, Di k → Dn D w1 wr k) ∧ SBox wr s (.pointer (some ⟨g, 0, none⟩)) t nx p m ∧ SlN wr Di A ((cutD d p m).map bv) ∧ wr.heap[z]? = some (.cells ((zeros 64).map bv).toArray 91 (0, 0)) ∧ Turn D w1 wr) (fun _ iv _ => m - (intOf iv).toNat)
  case atStart => exact ⟨0, D, d, by omega, rfl, rfl, rfl, by omega, L1.out, fun k hk => .inl hk, B1.out, S1.out, Z1.out, Turn.refl _ _⟩
  case round =>
    obtain ⟨i, Di, di, hi, rfl, rfl, hwl, o3, ld, hD, hb, hsl, hz, ht⟩ := hrel
    have hnD : ¬ Di s := fun h => (hD s h).elim hsD (fun h => by have := h.1; have := HS.out; have := T1.out.size; omega)
    have hnZ : ¬ Di z := fun h => (hD z h).elim HZD.out (fun h => by have := h.1; have := HZ1.out; omega)
    by_cases him : i < m
    · have hsec := cutD_sec HOK.out p m i hp him
      obtain ⟨sec, hse⟩ : ∃ x, x = d.now (p + i) := ⟨_, rfl⟩
      rw [← hse] at hsec
      have hsl64 : sec.length = 64 := by rw [hse]; exact Dr.now_len HOK.out _ (by omega)
      have CU := Lib.hid (fun wx : World => cut_any A (64 * m) c i (by omega) AC.out.2 (by omega) wx)
      have td : Turn (fun _ => False) wr wr.drew := (Turn.refl _ _).drew
      have hsc : SlN wr.drew Di (A.map (·.add (64 * i))) (sec.map bv) := by
        have h1 := (sln_at (hsl.turn (N' := Di) td (fun _ h => h.elim) (fun _ _ h => h)) (64 * i)).take 64
        rw [← List.map_take, hsec] at h1
        exact h1
      have hzz : SlN wr.drew Di (some ⟨z, 0, none⟩) ((zeros 64).map bv) := fun j u hu => ⟨_, rfl, hnZ, by
        rw [add_row, cell_of_row _ _ _ _ _ _ (td.heap hz (fun h => h)), List.getElem?_toArray]; exact hu⟩
      have BE := bequal_any (A.map (·.add (64 * i))) (some ⟨z, 0, none⟩) 64 64 _ _ sec (zeros 64) wr.drew hsc.sl (fun h => by
        cases A with
        | none => have h0 := AC.out.1 rfl; have h1 := AC.out.2; omega
        | some a => cases h) (by omega) hzz.sl (fun h => by cases h) (by simp [zeros])
      rw [hsl64, show (zeros 64).length = 64 by simp [zeros]] at BE
      have BE := Lib.hid BE
      have LDI := Lib.hid ld
      have HDI := Lib.hid hD
      have BI := Lib.hid hb
      have SLI := Lib.hid hsl
      have ZI := Lib.hid hz
      have TI := Lib.hid ht
      have HSE := Lib.hid hse
      have O3 := Lib.hid o3
      have HWL := Lib.hid (show wipeL d d p 0 m = wipeL d di p i ((m - (i + 1)) + 1) by rw [hwl, show m - i = (m - (i + 1)) + 1 by omega])
      have s64 := slice_64 z
      clear ld hD hb hsl hz ht hsc hzz hsec hse o3 hwl
      go_upto_region 6 with fail
      go_region_held3 (fun w' => True)
        (exact trivial)
        (first
          | (go_at_call 57; refine (CU.out _).mono ?_; clear CU; rintro r w5 ⟨rfl, hw5⟩; rw [hw5]; clear hw5)
          | (go_at_call 88; refine BE.out.mono ?_; clear BE; rintro r w6 ⟨rfl, hw6⟩; rw [← hw6]; clear hw6))
      obtain ⟨wb, hwb⟩ : ∃ wb, wb = wr.drew := ⟨_, rfl⟩
      rw [← hwb] at td ⊢
      have LB := Lib.hid (LDI.out.quiet td)
      have HDB := Lib.hid (show ∀ k, Di k → Dn D w1 wb k from fun k hk => (HDI.out k hk).elim .inl (fun h => .inr ⟨h.1, Nat.lt_of_lt_of_le h.2 td.size⟩))
      have BB := Lib.hid (BI.out.turn td (fun h => h))
      have SB := Lib.hid (SLI.out.turn (N' := Di) td (fun _ h => h.elim) (fun _ _ h => h))
      have ZB := Lib.hid (td.heap ZI.out (fun h => h))
      have TB := Lib.hid (TI.out.trans td (fun _ _ h => h.elim))
      clear hwb td LDI HDI BI SLI ZI TI
      by_cases hzero : sec = zeros 64
      · have dz : decide (sec = zeros 64) = true := decide_eq_true hzero
        have W1 := Lib.hid (show wiB d p (i + 1) = wiB d p i by show (if d.now (p + i) = zeros 64 then _ else _) = _; rw [if_pos (by rw [← HSE.out]; exact hzero)])
        have W2 := Lib.hid (show wipeL d d p 0 m = wipeL d di p (i + 1) (m - (i + 1)) by rw [HWL.out, wipeL, if_pos (by rw [← HSE.out]; exact hzero)])
        rw [dz]
        clear hzero dz
        go_wp2
        go_roundw
        case rel => exact ⟨i + 1, Di, di, by omega, by go_num, by rw [W1.out], W2.out, by have := O3.out; omega, LB.out, HDB.out, BB.out, SB.out, ZB.out, TB.out⟩
        case measure => simp [intOf]; omega
      · have dz : decide (sec = zeros 64) = false := decide_eq_false hzero
        have W1 := Lib.hid (show wiB d p (i + 1) = true by show (if d.now (p + i) = zeros 64 then _ else _) = _; rw [if_neg (by rw [← HSE.out]; exact hzero)])
        have W2 := Lib.hid (show wipeL d d p 0 m = if di.writeE ((p + i : Nat) : Int) (zeros 64) ≠ 0 then (di.write ((p + i : Nat) : Int) (zeros 64), di.writeE ((p + i : Nat) : Int) (zeros 64)) else wipeL d (di.write ((p + i : Nat) : Int) (zeros 64)) p (i + 1) (m - (i + 1)) by rw [HWL.out, wipeL, if_neg (by rw [← HSE.out]; exact hzero)])
        obtain ⟨c0, -, -, c3, -⟩ := BB.out.cells
        have zl : (zeros 64).length = 64 := by simp [zeros]
        have td : Turn (fun _ => False) wb wb.drew := (Turn.refl _ _).drew
        have hzz : SlN wb.drew Di (some ⟨z, 0, none⟩) ((zeros 64).map bv) := fun j u hu => ⟨_, rfl, hnZ, by
          rw [add_row, cell_of_row _ _ _ _ _ _ (td.heap ZB.out (fun h => h)), List.getElem?_toArray]; exact hu⟩
        have WR := (LB.out.quiet td).write ((p + i : Nat) : Int) (some ⟨z, 0, none⟩) 64 (zeros 64) hzz (by rw [zl]; unfold maxLen; omega) (by have := O3.out; omega)
        rw [zl, show ((p + i : Nat) : Int) = (p : Int) + (i : Int) by omega] at WR
        obtain ⟨er, her⟩ : ∃ e, e = di.writeE ((p : Int) + (i : Int)) (zeros 64) := ⟨_, rfl⟩
        obtain ⟨dn, hdn⟩ : ∃ e, e = di.write ((p : Int) + (i : Int)) (zeros 64) := ⟨_, rfl⟩
        have w2 := W2.out
        rw [show ((p + i : Nat) : Int) = (p : Int) + (i : Int) by omega, ← her, ← hdn] at w2
        rw [← her, ← hdn] at WR
        have WR := Lib.hid WR
        have W3 := Lib.hid w2
        have HDN := Lib.hid hdn
        clear w2 her hdn
        have hw1 : IntKind.i64.wrap ((p : Int) + (i : Int)) = (p : Int) + (i : Int) := IntWalk.i64_in _ (by omega)
        rw [dz]
        clear hzero hzz zl dz
        go_upto_region 7 with fail
        go_region_held3 (fun w' => w'.cell? ⟨s, 0, none⟩ = some (.pointer (some ⟨g, 0, none⟩)) ∧ w'.cell? ⟨s, 3, none⟩ = some (.int .i64 (p : Int)))
          (first | exact ⟨c0, c3⟩ | exact ⟨j1, j2⟩)
          (first
            | (go_at_call 26; refine WR.out.mono ?_; clear WR; rintro r w6 ⟨rfl, ld6, t6⟩; have L6 := Lib.hid ld6; have T6 := Lib.hid t6; have j1 := t6.cell (show wb.drew.cell? ⟨s, 0, none⟩ = some (.pointer (some ⟨g, 0, none⟩)) from c0) hnD; have j2 := t6.cell (show wb.drew.cell? ⟨s, 3, none⟩ = some (.int .i64 (p : Int)) from c3) hnD; clear ld6 t6))
        have TW := Lib.hid (show Turn Di wb w6 from (td.mono (fun _ _ h => h.elim)).trans T6.out (fun _ _ h => h))
        have TZ := Lib.hid (show Turn D w1 w6 from TB.out.trans TW.out (fun k hk h => (HDB.out k h).elim id (fun h => by have := h.1; omega)))
        have DI6 := Lib.hid (show ∀ k, Dn Di wb.drew w6 k → Dn D w1 w6 k from dn_trans HDB.out (fun k hk => hk) TB.out.size TW.out.size)
        have B6 := Lib.hid (BB.out.turn TW.out hnD)
        have S6 := Lib.hid (show SlN w6 (Dn Di wb.drew w6) A ((cutD d p m).map bv) from SB.out.turn TW.out (fun _ h => h) (fun k hk h => h.elim id (fun h => by have h' : wb.drew.heap.size ≤ k := h.1; have e : wb.drew.heap.size = wb.heap.size := rfl; omega)))
        have Z6 := Lib.hid (TW.out.heap ZB.out hnZ)
        clear j1 j2 c0 c3 T6 td
        by_cases her0 : er = 0
        · have d0 : ((er : Int) != 0) = false := by rw [bne_eq_false_iff_eq]; omega
          have NX := Lib.hid (show wipeL d d p 0 m = wipeL d dn p (i + 1) (m - (i + 1)) by rw [W3.out, if_neg (by rw [her0]; simp)])
          have W6 := Lib.hid (show dn.W.length ≤ d.W.length + (i + 1) by rw [HDN.out]; have := write_W_le di ((p : Int) + (i : Int)) (zeros 64); have := O3.out; omega)
          clear her0
          go_wp2
          go_roundw
          case rel => exact ⟨i + 1, _, dn, by omega, by go_num, by rw [W1.out], NX.out, W6.out, L6.out, DI6.out, B6.out, S6.out, Z6.out, TZ.out⟩
          case measure => simp [intOf]; omega
        · have d0 : ((er : Int) != 0) = true := by rw [bne_iff_ne]; omega
          have E0 := Lib.hid (show WR_ = (dn, er) by
            have h : wipeL d d p 0 m = (dn, er) := by rw [W3.out, if_pos her0]
            rw [HWR.out]; unfold wipeR
            rw [if_pos (by rw [h]; exact her0), h])
          have TI := Lib.hid (show Turn D w w6 from (T1.out.mono (fun _ _ h => h.elim)).trans TZ.out (fun _ _ h => h))
          have HDI := Lib.hid (show ∀ k, Dn Di wb.drew w6 k → Dn D w w6 k from fun k hk => (DI6.out k hk).elim .inl (fun h => .inr ⟨Nat.le_trans T1.out.size h.1, h.2⟩))
          clear her0
          go_wp2
          go_ret
          exact ⟨_, by rw [E0.out]; rfl, by rw [E0.out]; exact L6.out, HDI.out, TI.out⟩
    · obtain rfl : i = m := by omega
      have HWL := Lib.hid (show wipeL d d p 0 i = (di, 0) by rw [hwl, Nat.sub_self]; rfl)
      have LDI := Lib.hid ld
      have HDI := Lib.hid (show ∀ k, Di k → Dn D w wr k from fun k hk => (hD k hk).elim .inl (fun h => .inr ⟨Nat.le_trans T1.out.size h.1, h.2⟩))
      have TI := Lib.hid (show Turn D w wr from (T1.out.mono (fun _ _ h => h.elim)).trans ht (fun _ _ h => h))
      obtain ⟨c0, -, -, -, -⟩ := hb.cells
      have SY := ld.sync
      obtain ⟨er, her⟩ : ∃ e, e = di.syncE := ⟨_, rfl⟩
      rw [← her] at SY
      have SY := Lib.hid SY
      have HER := Lib.hid her
      obtain ⟨wi, hwi⟩ : ∃ b, b = wiB d p i := ⟨_, rfl⟩
      rw [← hwi]
      have HWI := Lib.hid hwi
      clear ld hD hb hsl hz ht o3 hwi hwl her
      cases wi with
      | false =>
        have E0 := Lib.hid (show WR_ = (di, 0) by rw [HWR.out]; unfold wipeR; rw [HWL.out, if_neg (by simp), ← HWI.out, if_neg (by simp)])
        go_wp2
        go_ret
        exact ⟨Di, by rw [E0.out]; rfl, by rw [E0.out]; exact LDI.out, HDI.out, TI.out⟩
      | true =>
        have E0 := Lib.hid (show WR_ = (di.sync, er) by rw [HWR.out]; unfold wipeR; rw [HWL.out, if_neg (by simp), ← HWI.out, if_pos rfl, HER.out])
        go_wp2_with (go_at_call 59; refine stop ?_)
        unfold Stop
        refine SY.out.mono ?_
        rintro r w6 ⟨rfl, l6, t6⟩
        have L6 := Lib.hid l6
        have T6 := Lib.hid t6
        clear SY l6 t6 c0
        go_wp2
        go_ret
        exact ⟨Di, by rw [E0.out]; rfl, by rw [E0.out]; exact L6.out, fun k hk => (HDI.out k hk).elim .inl (fun h => .inr ⟨h.1, Nat.lt_of_lt_of_le h.2 T6.out.size⟩), TI.out.trans T6.out (fun k hk h => (HDI.out k h).elim id (fun h => by have := h.1; omega))⟩
end
section
set_option linter.unusedVariables false
set_option linter.unusedSimpArgs false
open Go.RowKit
set_option maxRecDepth 100000
set_option maxHeartbeats 4000000 in
theorem blankG_any (w : World) (g n p m t : Nat) (d : Dr) (D : Nat → Prop) (h : LD w g n d D) (hoff : d.off = false) (hn : n ≤ 8192) (hp : p + m ≤ n) (ht : t ≤ mostS) (hW : d.W.length + m < 10000) :
    Calls Tryd.prog 65 #[.pointer (some ⟨g, 0, none⟩), .int .i64 (p : Int), .int .i64 (m : Int), .int .i64 (t : Int)] w fun r w' => ∃ D', LD w' g n (wipeR d p m).1 D' ∧ (∀ k, D' k → Dn D w w' k) ∧ Turn D w w' ∧ (((wipeR d p m).2 = 0 ∧ ∃ s E, r = .returned (.tuple #[.pointer (some ⟨s, 0, none⟩), .int .i64 0]) ∧ Ats SBp w' g s n (wipeR d p m).1 ⟨p, p + m, t, 0, false⟩ D' E ∧ (∀ k, E k → w.heap.size ≤ k)) ∨ ((wipeR d p m).2 ≠ 0 ∧ r = .returned (.tuple #[.pointer none, .int .i64 ((wipeR d p m).2 : Int)]))) := by
  have CK := check_any w g n d D p m t h hn (by omega)
  rw [scanE_on hp ht hoff] at CK
  have CK := Lib.hid CK
  obtain ⟨w1, hw1⟩ : ∃ w1, w1 = w.alloc (.cells #[.pointer (some ⟨g, 0, none⟩), .int .i64 (t : Int), .int .i64 0, .int .i64 (p : Int), .int .i64 (m : Int)] 81) := ⟨_, rfl⟩
  obtain ⟨s, hs⟩ : ∃ s, s = w.heap.size := ⟨_, rfl⟩
  have t1 : Turn (fun _ => False) w w1 := by rw [hw1]; exact (Turn.refl _ _).alloc _
  have B1 := Lib.hid (show SBox w1 s (.pointer (some ⟨g, 0, none⟩)) t 0 p m by rw [hw1, hs]; exact heap_alloc_new _ _)
  have T1 := Lib.hid t1
  have S1 := Lib.hid (show w1.heap.size = s + 1 by rw [hw1, hs]; simp)
  have L1 := h.quiet t1
  have RD := Lib.hid (lread_st g n p m d D w1 L1 hoff hp hn)
  have HS2 := Lib.hid (show 2 ≤ s by have := h.glob.1; omega)
  have HSD := Lib.hid (show ¬ D s from fun hd => by have := h.lt s hd; omega)
  have HLT := Lib.hid h.lt
  have HSW := Lib.hid hs
  have L1 := Lib.hid L1
  clear t1 h
  obtain ⟨⟨W1_, er⟩, hWR⟩ : ∃ x, x = wipeR d p m := ⟨_, rfl⟩
  rw [← hWR]
  have HWR := Lib.hid hWR
  clear hWR
  go_enter Tryd.func65, Tryd.ntmps65
  go_wp2_with (go_at_call 71; refine stop ?_)
  unfold Stop
  refine CK.out.mono ?_
  rintro r w2 ⟨rfl, hw⟩
  rw [hw]
  clear hw w2 CK
  go_upto_region 5 with fail
  change Code.wp _ _ _ _ (w.alloc (.cells #[.pointer (some ⟨g, 0, none⟩), .int .i64 (t : Int), .int .i64 0, .int .i64 (p : Int), .int .i64 (m : Int)] 81))
  rw [← hw1, ← hs]
  clear hw1 hs
  go_wp2_with (go_at_call 73; refine stop ?_)
  unfold Stop
  refine RD.out.mono ?_
  rintro r w2 ⟨A2, c2, rfl, o2, t2⟩
  have hsl := own_sln (N := D) o2 (fun k hk => Nat.lt_of_lt_of_le (HLT.out k hk) T1.out.size)
  obtain ⟨A2', c2', e1, -, -, k2, a2⟩ := own_sl o2
  injection e1 with e1 e2 e3
  subst e1 e3
  have WI := Lib.hid (wipeG_any w2 g s n p m t 0 d D A2 c2 (L1.out.quiet t2) hn hp (B1.out.turn t2 (fun h => h)) HSD.out hsl a2 k2 hW)
  have T2 := Lib.hid (T1.out.trans t2 (fun _ _ h => h))
  have B2 := Lib.hid (B1.out.turn t2 (fun h => h))
  clear RD o2 t2 hsl k2 a2 e2
  go_wp2_with (go_at_call 75; refine stop ?_)
  unfold Stop
  refine WI.out.mono ?_
  rintro r w3 ⟨D3, rfl, l3, hD3, t3⟩
  have B3 := Lib.hid (B2.out.turn t3 HSD.out)
  have L3 := Lib.hid l3
  have HD3 := Lib.hid hD3
  have T3 := Lib.hid t3
  clear WI l3 hD3 t3
  rw [← HWR.out] at L3 ⊢
  have hDn := Lib.hid (show ∀ k, D3 k → Dn D w w3 k from fun k hk => (HD3.out k hk).elim .inl (fun h => .inr ⟨Nat.le_trans T2.out.size h.1, h.2⟩))
  have TT := Lib.hid ((T2.out.mono (S := D) (fun _ _ h => h.elim)).trans T3.out (fun _ _ h => h))
  have hsw : s < w2.heap.size := B2.out.lt
  have HW := Lib.hid hsw
  clear hsw
  by_cases her0 : er = 0
  · have d0 : ((er : Int) != 0) = false := by rw [bne_eq_false_iff_eq]; omega
    have HE0 := Lib.hid her0
    clear her0
    go_wp2
    refine bodyPost_ret (results_tmp2 rfl _ _ _) rfl ?_
    refine ⟨D3, L3.out, hDn.out, TT.out, .inl ⟨HE0.out, s, fun k => k = s, by first | rfl | rw [HE0.out]; rfl, ⟨L3.out, ⟨HS2.out, fun k => Iff.rfl, _, _, _, _, _, B3.out, fun e => by (cases e), fun _ => ⟨rfl, rfl, rfl, rfl, ?_⟩⟩, fun k hk hd => ?_, fun k hk => ?_⟩, fun k hk => ?_⟩⟩
    · show (m : Int) = ((p + m - p : Nat) : Int); omega
    · have e : k = s := hk
      subst e
      exact (HD3.out k hd).elim HSD.out (fun h => by have := h.1; have := HW.out; omega)
    · have e : k = s := hk
      subst e
      exact B3.out.lt
    · have e : k = s := hk
      rw [e, HSW.out]; exact Nat.le_refl _
  · have d0 : ((er : Int) != 0) = true := by rw [bne_iff_ne]; omega
    have HE0 := Lib.hid her0
    clear her0
    go_wp2
    refine bodyPost_ret (results_tmp2 rfl _ _ _) rfl ?_
    exact ⟨D3, L3.out, hDn.out, TT.out, .inr ⟨HE0.out, rfl⟩⟩
end
section
set_option linter.unusedVariables false
set_option linter.unusedSimpArgs false
open Go.RowKit
/-- A slice of one-cell elements that begins at cell o of its row, with all cells that its capacity names. -/
def ownsO (w : World) (base : Nat) (ty : TypeId) (o : Nat) (v : Value) (n : Nat) (xs : List Value) : Prop :=
  xs.length = n ∧ ((v = .slice none 0 0 ∧ n = 0) ∨ ∃ g cap cur, v = .slice (some ⟨g, o, none⟩) n cap ∧ base ≤ g ∧ w.heap[g]? = some (.cells cur ty (0, 0)) ∧ n ≤ cap ∧ cap ≤ maxLen ∧ o + cap ≤ cur.size ∧ (cur.toList.drop o).take n = xs)
theorem ownsO_of {w : World} {base n : Nat} {ty : TypeId} {v : Value} {xs : List Value} (h : w.ownsRow base ty 1 v n xs) : ownsO w base ty 0 v n xs := by
  obtain ⟨h1, h2⟩ := h
  refine ⟨by omega, ?_⟩
  rcases h2 with h2 | ⟨g, cap, cur, rfl, hg, hh, hn, hc, hs, ht⟩
  · exact .inl h2
  · exact .inr ⟨g, cap, cur, rfl, hg, hh, hn, hc, by omega, by rw [List.drop_zero]; rw [Nat.mul_one] at ht; exact ht⟩
theorem ownsO_turn {S : Nat → Prop} {w w' : World} {base o n : Nat} {ty : TypeId} {v : Value} {xs : List Value} (h : ownsO w base ty o v n xs) (t : Turn S w w') (hn : ∀ g, v.ownBlock = some g → ¬ S g) : ownsO w' base ty o v n xs := by
  obtain ⟨h1, h2⟩ := h
  refine ⟨h1, ?_⟩
  rcases h2 with h2 | ⟨g, cap, cur, rfl, hg, hh, r⟩
  · exact .inl h2
  · exact .inr ⟨g, cap, cur, rfl, hg, t.heap hh (hn g rfl), r⟩
theorem ownsO_base {w : World} {base base' o n : Nat} {ty : TypeId} {v : Value} {xs : List Value} (h : ownsO w base ty o v n xs) (hb : base' ≤ base) : ownsO w base' ty o v n xs := by
  obtain ⟨h1, h2⟩ := h
  refine ⟨h1, ?_⟩
  rcases h2 with h2 | ⟨g, cap, cur, e, hg, r⟩
  · exact .inl h2
  · exact .inr ⟨g, cap, cur, e, Nat.le_trans hb hg, r⟩
/-- What lies in it, cell by cell. -/
theorem ownsO_sl {w : World} {base o n : Nat} {ty : TypeId} {v : Value} {xs : List Value} (h : ownsO w base ty o v n xs) : ∃ A c, v = .slice A n c ∧ xs.length = n ∧ n ≤ c ∧ c ≤ maxLen ∧ (A = none → c = 0) ∧ (∀ j u, xs[j]? = some u → ∃ ad, A = some ad ∧ v.ownBlock = some ad.block ∧ base ≤ ad.block ∧ w.cell? (ad.add j) = some u) ∧ (∀ g, v.ownBlock = some g → g < w.heap.size) := by
  obtain ⟨h1, h2⟩ := h
  rcases h2 with ⟨rfl, rfl⟩ | ⟨g, cap, cur, rfl, hg, hh, hn, hc, hs, ht⟩
  · refine ⟨none, 0, rfl, h1, Nat.le_refl _, Nat.zero_le _, fun _ => rfl, fun j u hu => ?_, fun g e => by cases e⟩
    rw [List.eq_nil_of_length_eq_zero h1] at hu
    cases hu
  · refine ⟨_, cap, rfl, h1, hn, hc, fun e => (by cases e), fun j u hu => ⟨_, rfl, rfl, hg, ?_⟩, fun g' e => by injection e with e; subst e; exact lt_of_block hh⟩
    have hj := (List.getElem?_eq_some_iff.1 hu).1
    rw [← ht, List.getElem?_take, if_pos (by omega), List.getElem?_drop] at hu
    rw [Addr.add_lit, cell_of_row _ _ _ _ _ _ hh, ← Array.getElem?_toList]
    exact hu
section
variable {P : Program} {ty : TypeId} {o n cap B : Nat} {row : Option Nat} {xs : List Value} {R : Value → World → Prop}
def HeldO (ty : TypeId) (o n cap : Nat) (row : Option Nat) (xs : List Value) (R : Value → World → Prop) (w : World) : Prop :=
  ∃ g cur u, row = some g ∧ w.heap[g]? = some (.cells cur ty (0, 0)) ∧ o + cap ≤ cur.size ∧ n + 1 ≤ cap ∧ cap ≤ maxLen ∧ xs.length = n ∧ (cur.toList.drop o).take (n + 1) = xs ++ [u] ∧ R u w
structure ApO (ty : TypeId) (o n cap : Nat) (row : Option Nat) (xs : List Value) (R : Value → World → Prop) (w w' : World) : Prop where
  t : Turn (fun k => row = some k) w w'
  h : ∀ g, row = some g → w'.heap[g]? = w.heap[g]? ∨ HeldO ty o n cap row xs R w'
theorem HeldO.keep {w w' : World} (h : HeldO ty o n cap row xs R w) (hg : ∀ g, row = some g → w'.heap[g]? = w.heap[g]?) (hR : ∀ u, R u w → R u w') : HeldO ty o n cap row xs R w' := by
  obtain ⟨g, cur, u, e, hh, r⟩ := h
  exact ⟨g, cur, u, e, (hg g e).trans hh, r.1, r.2.1, r.2.2.1, r.2.2.2.1, r.2.2.2.2.1, hR _ r.2.2.2.2.2⟩
theorem ApO.refl (w : World) : ApO ty o n cap row xs R w w := ⟨Turn.refl _ _, fun _ _ => .inl rfl⟩
theorem ApO.trans (hR : ∀ u w w', R u w → Turn (fun k => row = some k) w w' → R u w') (a b c : World) (h : ApO ty o n cap row xs R a b) (k : ApO ty o n cap row xs R b c) : ApO ty o n cap row xs R a c := by
  refine ⟨h.t.trans k.t (fun _ _ h => h), fun g e => ?_⟩
  rcases k.h g e with h1 | h1
  · rcases h.h g e with h2 | h2
    · exact .inl (h1.trans h2)
    · exact .inr (h2.keep (fun g' e' => by rw [e] at e'; injection e' with e'; subst e'; exact h1) (fun u hr => hR u _ _ hr k.t))
  · exact .inr h1
theorem ApO.of_turn {w w' : World} (h : Turn (fun _ => False) w w') (hB : ∀ g, row = some g → g < w.heap.size) : ApO ty o n cap row xs R w w' :=
  ⟨h.mono (fun _ _ h => h.elim), fun g e => .inl (h.block g (hB g e) (fun h => h))⟩
theorem ApO.cell {w w' : World} (h : ApO ty o n cap row xs R w w') {p : Addr} {v : Value} (hc : w.cell? p = some v) (hn : row ≠ some p.block) : w'.cell? p = some v := h.t.cell hc hn
/-- The slice itself stays, ahead and behind. -/
theorem ApO.keepRow {w w' : World} (h : ApO ty o n cap row xs R w w') {base : Nat} {v : Value} (ho : ownsO w base ty o v n xs) (hv : v.ownBlock = row) (hc : ∀ g n' c, v = .slice (some ⟨g, o, none⟩) n' c → c = cap) : ownsO w' base ty o v n xs := by
  obtain ⟨h1, h2⟩ := ho
  refine ⟨h1, ?_⟩
  rcases h2 with h2 | ⟨g, c, cur, rfl, hg, hh, hn, hcm, hsz, ht⟩
  · exact .inl h2
  · obtain rfl := hc _ _ _ rfl
    rcases h.h g hv.symm with e | ⟨g', cur', u, e, hh', hsz', h3, h4, h5, ht', hR⟩
    · exact .inr ⟨g, c, cur, rfl, hg, e.trans hh, hn, hcm, hsz, ht⟩
    · have e' : g' = g := by rw [e] at hv; injection hv with hv; exact hv.symm
      subst e'
      refine .inr ⟨g', c, cur', rfl, hg, hh', hn, hcm, hsz', ?_⟩
      have e8 : (cur'.toList.drop o).take n = ((cur'.toList.drop o).take (n + 1)).take n := by
        rw [List.take_take, Nat.min_eq_left (by omega)]
      rw [e8, ht', ← h1, List.take_left]
/-- The slice with one element more, where it was or in a block of its own. -/
def ApdO (ty : TypeId) (o n cap B : Nat) (row : Option Nat) (xs : List Value) (R : Value → World → Prop) (v : Value) (w : World) : Prop :=
  ∃ u o', R u w ∧ ownsO w 0 ty o' v (n + 1) (xs ++ [u]) ∧ xs.length = n ∧ ((∃ g, row = some g ∧ o' = o ∧ v = .slice (some ⟨g, o, none⟩) (n + 1) cap) ∨ ∃ g c, B ≤ g ∧ v = .slice (some ⟨g, o', none⟩) (n + 1) c)
theorem ApdO.stable (hR : ∀ u w w', R u w → Turn (fun k => row = some k) w w' → R u w') (hB : ∀ g, row = some g → g < B) (v : Value) (w w' : World) (h : ApdO ty o n cap B row xs R v w) (hs : ApO ty o n cap row xs R w w') : ApdO ty o n cap B row xs R v w' := by
  obtain ⟨u, o', hr, ho, hx, hv⟩ := h
  rcases hv with ⟨g, e, rfl, rfl⟩ | ⟨g, c, hg, rfl⟩
  · rcases hs.h g e with h1 | ⟨g', cur', u', e', hh', hsz', h3, h4, h5, ht', hR'⟩
    · refine ⟨u, _, hR _ _ _ hr hs.t, ?_, hx, .inl ⟨g, e, rfl, rfl⟩⟩
      obtain ⟨o1, o2⟩ := ho
      refine ⟨o1, ?_⟩
      rcases o2 with ⟨o2, -⟩ | ⟨g2, c2, cur2, e2, r1, r2, r3⟩
      · cases o2
      · injection e2 with e2 _ e9; injection e2 with e2; injection e2 with e2; subst e2; subst e9
        exact .inr ⟨g, cap, cur2, rfl, r1, h1.trans r2, r3⟩
    · rw [e] at e'; injection e' with e'; subst e'
      exact ⟨u', _, hR', ⟨by simp [h5], .inr ⟨g, cap, cur', rfl, Nat.zero_le _, hh', h3, h4, hsz', ht'⟩⟩, hx, .inl ⟨g, e, rfl, rfl⟩⟩
  · refine ⟨u, o', hR _ _ _ hr hs.t, ownsO_turn ho hs.t (fun k hk e => ?_), hx, .inr ⟨g, c, hg, rfl⟩⟩
    injection hk with hk
    have := hB k e
    subst hk
    have h9 : g < B := this
    omega
theorem run_apO (t : TypeId) (tx : TypeId) (i : TypeInfo) (z : Value) (bytes : Nat) (hu : P.underlying t = some (.slice ty)) (hi : P.info? ty = some i) (hz : i.zero = some z) (hsize : i.size = 1) (hby : i.bytes = bytes) (hzs : z.cells.size = 1)
    (hR : ∀ u w w', R u w → Turn (fun k => row = some k) w w' → R u w') (w : World) (v : Value) (ho : ownsO w 0 ty o v n xs) (hv : v.ownBlock = row) (hc : ∀ g n' c, v = .slice (some ⟨g, o, none⟩) n' c → c = cap) (hrow : ∀ g, row = some g → g < w.heap.size) (hB : B ≤ w.heap.size)
    (a : Addr) (c : Nat) (u : Value) (hnews : ∀ j x, [u][j]? = some x → w.cell? (a.add j) = some x) (h1 : u.oneCell' = true) (hr : R u w) (h63 : n + 1 ≤ maxLen) (hbytes : (n + 1) * bytes ≤ 140737488355328) :
    ∃ v' w', (Builtin.append_ #[t, t] tx #[v, .slice (some a) 1 c]).run P w = .ok v' w' ∧ ApdO ty o n cap B row xs R v' w' ∧ ApO ty o n cap row xs R w w' := by
  have hsmall : n + 1 ≤ 9223372036854775807 := by simp only [maxLen] at h63; omega
  have grown : ∀ (v' : Value) (w' : World), w'.ownsRow w.heap.size ty 1 v' (n + 1) (xs ++ [u]) → w.grownBy w' none → ApdO ty o n cap B row xs R v' w' ∧ ApO ty o n cap row xs R w w' := by
    intro v' w' hown hg
    have ht : Turn (fun _ => False) w w' := (Turn.of_grown hg).mono (fun _ _ e => by cases e)
    have ha : ApO ty o n cap row xs R w w' := ApO.of_turn ht hrow
    refine ⟨⟨u, 0, hR _ _ _ hr ha.t, ownsO_base (ownsO_of hown) (Nat.zero_le _), ho.1, .inr ?_⟩, ha⟩
    rcases hown.2 with ⟨-, h0⟩ | ⟨g, cp, cur, rfl, hbg, -⟩
    · omega
    · exact ⟨g, cp, Nat.le_trans hB hbg, rfl⟩
  obtain ⟨o1, o2⟩ := id ho
  rcases o2 with ⟨rfl, rfl⟩ | ⟨g, cp, cur, rfl, hbg, hg, hnc, hcm, hcs, htake⟩
  · have hx : xs = [] := List.eq_nil_of_length_eq_zero o1
    subst hx
    obtain ⟨v', w', hrun, r1, r2, -⟩ := run_append_own (P := P) w w.heap.size t tx ty i z 1 bytes hu hi hz hsize hby hzs (by omega) (.slice none 0 0) 0 [] (World.ownsRow_nil w _ ty 1) a 1 c [u] rfl hnews (by intro x hx; simp at hx; subst hx; exact h1) (by omega) (by have hb := hbytes; simp only [Nat.zero_add] at hb ⊢; omega) (Nat.le_refl _)
    exact ⟨v', w', hrun, grown v' w' (by simpa using r1) r2⟩
  · obtain rfl := hc _ _ _ rfl
    by_cases hroom : n + 1 ≤ cp
    · have hcell : ∀ j, j < 1 → w.cell? ⟨g, o + n * i.size + j, none⟩ = cur[o + n * i.size + j]? := fun j _ => cell_of_row _ _ _ _ _ _ hg
      have hrun := run_append_room_cells (P := P) w t tx ty i hu hi g o n cp a 1 c [u] (by rw [hsize]; rfl) hnews (by intro x hx; simp at hx; subst hx; exact h1) hroom (fun j hj => by
        rw [hcell j (by simpa using hj), Array.getElem?_eq_getElem (by rw [hsize]; simp at hj; omega)]; rfl) (fun j hj => frozen_of_row w g _ _ _ hg)
      rw [hsize, Nat.mul_one] at hrun
      have hset : w.setCells g (o + n) [u] = w.setCell ⟨g, o + n, none⟩ u := rfl
      rw [hset] at hrun
      have hh : (w.setCell ⟨g, o + n, none⟩ u).heap[g]? = some (.cells (cur.setIfInBounds (o + n) u) ty (0, 0)) := by
        rw [heap_setCell_same w g (o + n) _ _ _ hg]
      have ht : Turn (fun k => row = some k) w (w.setCell ⟨g, o + n, none⟩ u) := (Turn.refl _ _).setCell _ _ (fun _ => hv.symm)
      have hsz : (cur.setIfInBounds (o + n) u).size = cur.size := by simp
      have htk : ((cur.setIfInBounds (o + n) u).toList.drop o).take (n + 1) = xs ++ [u] := by
        have hl : cur.toList.length = cur.size := Array.length_toList
        rw [Array.toList_setIfInBounds, List.drop_set, if_neg (by omega), show o + n - o = n by omega]
        rw [← htake]
        apply List.ext_getElem?
        intro j
        have hld : (cur.toList.drop o).length = cur.size - o := by rw [List.length_drop, hl]
        rw [List.getElem?_take]
        by_cases hj : j < n + 1
        · rw [if_pos hj, List.getElem?_set]
          by_cases hjn : n = j
          · subst hjn
            rw [if_pos rfl, if_pos (by omega), List.getElem?_append_right (by rw [List.length_take]; omega), List.length_take, hld, Nat.min_eq_left (by omega), Nat.sub_self]
            rfl
          · rw [if_neg hjn, List.getElem?_append_left (by rw [List.length_take]; omega), List.getElem?_take, if_pos (by omega)]
        · rw [if_neg hj]
          symm
          apply List.getElem?_eq_none
          rw [List.length_append, List.length_take, hld, Nat.min_eq_left (by omega)]
          show n + 1 ≤ j
          omega
      refine ⟨_, _, hrun, ⟨u, o, hR _ _ _ hr ht, ⟨by simp [o1], .inr ⟨g, cp, _, rfl, hbg, hh, hroom, hcm, by rw [hsz]; exact hcs, htk⟩⟩, o1, .inl ⟨g, hv.symm, rfl, rfl⟩⟩, ht, fun g' e => .inr ?_⟩
      exact ⟨g, _, u, hv.symm, hh, by rw [hsz]; exact hcs, hroom, hcm, o1, htk, hR _ _ _ hr ht⟩
    · have holds : ∀ j x, xs[j]? = some x → w.cell? ((⟨g, o, none⟩ : Addr).add j) = some x := fun j x hx => by
        obtain ⟨A, c', e1, -, -, -, -, h5, -⟩ := ownsO_sl ho
        obtain ⟨ad, e2, -, -, e3⟩ := h5 j x hx
        injection e1 with e1 _ _
        rw [← e1] at e2
        injection e2 with e2
        rw [e2]; exact e3
      obtain ⟨v', w', hrun, r1, r2⟩ := run_append_arg_grows (P := P) w t tx ty i z 1 bytes hu hi hz hsize hby hzs (by omega) ⟨g, o, none⟩ n cp xs (by omega) holds a 1 c [u] rfl hnews (by omega) h63 hbytes
      exact ⟨v', w', hrun, grown v' w' r1 r2⟩
end
end
section
set_option linter.unusedVariables false
set_option linter.unusedSimpArgs false
open Go.RowKit
set_option maxRecDepth 100000
/-- A chest's block. -/
def KBox (w : World) (c : Nat) (PS PD : Value) (half a t : Int) (H NV : Value) : Prop := w.heap[c]? = some (.cells #[PS, PD, .int .i64 0, .int .i64 half, .int .i64 half, .int .i64 half, .int .i64 a, .int .i64 t, H, NV] 50 (0, 0))
section
variable {w w' : World} {c : Nat} {PS PD : Value} {half a t : Int} {H NV : Value}
theorem KBox.cells (h : KBox w c PS PD half a t H NV) : w.cell? ⟨c, 0, none⟩ = some PS ∧ w.cell? ⟨c, 1, none⟩ = some PD ∧ w.cell? ⟨c, 2, none⟩ = some (.int .i64 0) ∧ w.cell? ⟨c, 3, none⟩ = some (.int .i64 half) ∧ w.cell? ⟨c, 4, none⟩ = some (.int .i64 half) ∧ w.cell? ⟨c, 5, none⟩ = some (.int .i64 half) ∧ w.cell? ⟨c, 6, none⟩ = some (.int .i64 a) ∧ w.cell? ⟨c, 7, none⟩ = some (.int .i64 t) ∧ w.cell? ⟨c, 8, none⟩ = some H ∧ w.cell? ⟨c, 9, none⟩ = some NV := by
  refine ⟨?_, ?_, ?_, ?_, ?_, ?_, ?_, ?_, ?_, ?_⟩ <;> (rw [cell_of_row w c _ _ _ _ h]; rfl)
theorem KBox.frozen (h : KBox w c PS PD half a t H NV) (o : Nat) : w.frozen? ⟨c, o, none⟩ = false := frozen_of_row w c o _ _ h
theorem KBox.turn {S : Nat → Prop} (h : KBox w c PS PD half a t H NV) (k : Turn S w w') (hS : ¬ S c) : KBox w' c PS PD half a t H NV := k.heap h hS
theorem KBox.lt (h : KBox w c PS PD half a t H NV) : c < w.heap.size := lt_of_block h
theorem KBox.set0 (h : KBox w c PS PD half a t H NV) (v : Value) : KBox (w.setCell ⟨c, 0, none⟩ v) c v PD half a t H NV := by
  unfold KBox; rw [heap_setCell_same w c 0 _ _ _ h]; rfl
theorem KBox.set1 (h : KBox w c PS PD half a t H NV) (v : Value) : KBox (w.setCell ⟨c, 1, none⟩ v) c PS v half a t H NV := by
  unfold KBox; rw [heap_setCell_same w c 1 _ _ _ h]; rfl
theorem KBox.set6 (h : KBox w c PS PD half a t H NV) (x : Int) : KBox (w.setCell ⟨c, 6, none⟩ (.int .i64 x)) c PS PD half x t H NV := by
  unfold KBox; rw [heap_setCell_same w c 6 _ _ _ h]; rfl
theorem KBox.set7 (h : KBox w c PS PD half a t H NV) (x : Int) : KBox (w.setCell ⟨c, 7, none⟩ (.int .i64 x)) c PS PD half a x H NV := by
  unfold KBox; rw [heap_setCell_same w c 7 _ _ _ h]; rfl
theorem KBox.set8 (h : KBox w c PS PD half a t H NV) (v : Value) : KBox (w.setCell ⟨c, 8, none⟩ v) c PS PD half a t v NV := by
  unfold KBox; rw [heap_setCell_same w c 8 _ _ _ h]; rfl
theorem KBox.set9 (h : KBox w c PS PD half a t H NV) (v : Value) : KBox (w.setCell ⟨c, 9, none⟩ v) c PS PD half a t H v := by
  unfold KBox; rw [heap_setCell_same w c 9 _ _ _ h]; rfl
end
theorem kused_no (c : Nat) (PS : Value) (half a t : Int) (H NV : Value) (w : World) (h : KBox w c PS (.pointer none) half a t H NV) : Calls Tryd.prog 38 #[.pointer (some ⟨c, 0, none⟩)] w fun r w' => r = .returned (.bool false) ∧ w' = w := by
  obtain ⟨-, c1, -⟩ := h.cells
  clear h
  go_enter Tryd.func38, Tryd.ntmps38
  go_wp2
  go_ret
  exact ⟨rfl, rfl⟩
theorem kused_yes (c g : Nat) (PS : Value) (half a t : Int) (H NV : Value) (w : World) (h : KBox w c PS (.pointer (some ⟨g, 0, none⟩)) half a t H NV) : Calls Tryd.prog 38 #[.pointer (some ⟨c, 0, none⟩)] w fun r w' => r = .returned (.bool true) ∧ w' = w := by
  obtain ⟨-, c1, -⟩ := h.cells
  clear h
  go_enter Tryd.func38, Tryd.ntmps38
  go_wp2
  go_ret
  exact ⟨rfl, rfl⟩
theorem kends_any (c : Nat) (PS PD : Value) (half a t x : Int) (H NV : Value) (w : World) (h : KBox w c PS PD half a t H NV) : Calls Tryd.prog 41 #[.pointer (some ⟨c, 0, none⟩), .int .i64 x] w fun r w' => r = .returned (.int .i64 x) ∧ KBox w' c PS (.pointer none) half a t H NV ∧ Turn (fun k => k = c) w w' := by
  obtain ⟨-, c1, -⟩ := h.cells
  have z1 := h.frozen 1
  have HH := Lib.hid h
  clear h
  go_enter Tryd.func41, Tryd.ntmps41
  go_wp2
  go_ret
  exact ⟨rfl, HH.out.set1 _, set_turn13 _ _ _ _⟩
/-- A chest behind an error of the drum. -/
def KGn (w : World) (c : Nat) : Prop := ∃ PS half a t H NV, KBox w c PS (.pointer none) half a t H NV
/-- The chest's plain state: which side is live, its turn, its head and notes, the live scroll's next sector. -/
structure Ck where
  a : Nat
  t : Nat
  L : List (List B8)
  p : Nat
def Ck.fin (k : Ck) (half : Nat) : Nat := k.a * half + half
def Ck.scr (k : Ck) (half : Nat) : Scr := ⟨k.p, k.fin half, k.t, k.L.length, false⟩
/-- What the chest's plain state keeps to. -/
structure Ck.Ok (k : Ck) (n : Nat) : Prop where
  a : k.a ≤ 1
  t : k.t ≤ mostS
  p : k.p ≤ k.fin (n / 2)
  l : 1 ≤ k.L.length
  m : k.L.length ≤ 1000000
  b : ∀ x ∈ k.L, x.length ≤ 900000
theorem Ck.Ok.fin {k : Ck} {n : Nat} (h : k.Ok n) : k.fin (n / 2) ≤ n := by
  have := h.a
  unfold Ck.fin
  rcases Nat.lt_or_ge k.a 1 with h1 | h1
  · obtain h0 : k.a = 0 := by omega
    rw [h0]; omega
  · obtain h0 : k.a = 1 := by omega
    rw [h0]; omega
/-- A chest in memory, over the drum's blocks D and its own ones E. -/
structure KAt (w : World) (g c n : Nat) (d : Dr) (k : Ck) (D E : Nat → Prop) : Prop where
  ld : LD w g n d D
  ok : k.Ok n
  ex : ∃ s hd Ah ch NV o vs, KBox w c (.pointer (some ⟨s, 0, none⟩)) (.pointer (some ⟨g, 0, none⟩)) ((n / 2 : Nat) : Int) k.a k.t (.slice Ah hd.length ch) NV ∧ SBp w s g (k.scr (n / 2)) (fun j => j = s) ∧ k.L = hd :: k.L.tail ∧
    SlN w (fun j => D j ∨ E j) Ah (hd.map bv) ∧ (Ah = none → ch = 0) ∧ hd.length ≤ ch ∧ ownsO w 2 36 o NV k.L.tail.length vs ∧ TxtV w (fun j => D j ∨ E j) k.L.tail vs ∧ s ≠ c ∧ E s ∧ (∀ j, NV.ownBlock = some j → E j ∧ j ≠ s ∧ j ≠ c)
  own : E c
  two : ∀ j, E j → 2 ≤ j
  dj : ∀ j, E j → ¬ D j
  lt : ∀ j, E j → j < w.heap.size
theorem KAt.keep {w w' : World} {g c n : Nat} {d : Dr} {k : Ck} {D E S : Nat → Prop} (h : KAt w g c n d k D E) (t : Turn S w w') (hS : ∀ j, S j → ¬ D j ∧ ¬ E j ∧ 2 ≤ j) (hT : ∀ j, S j → w.heap.size ≤ j) : KAt w' g c n d k D E := by
  obtain ⟨ld, ok, ⟨s, hd, Ah, ch, NV, o, vs, h1, h2, h3, h4, h5, h6, h7, h8, h9, h10, h11⟩, own, two, dj, lt⟩ := h
  have tt : Turn (fun _ => False) w w' := t.mono (S := fun _ => False) (fun i hi h => by have := hT i h; omega)
  exact ⟨ld.quiet tt, ok, ⟨s, hd, Ah, ch, NV, o, vs, h1.turn tt (fun h => h), sbp_keep h2 tt (fun _ _ h => h), h3, h4.turn tt (fun _ h => h.elim) (fun _ _ h => h), h5, h6, ownsO_turn h7 tt (fun _ _ h => h), h8.turn tt (fun _ h => h.elim) (fun _ _ h => h), h9, h10, h11⟩, own, two, dj, fun j hj => Nat.lt_of_lt_of_le (lt j hj) t.size⟩
theorem KAt.quiet {w w' : World} {g c n : Nat} {d : Dr} {k : Ck} {D E : Nat → Prop} (h : KAt w g c n d k D E) (t : Turn (fun _ => False) w w') : KAt w' g c n d k D E := h.keep t (fun _ h => h.elim) (fun _ h => h.elim)
end
section
set_option linter.unusedVariables false
set_option linter.unusedSimpArgs false
open Go.RowKit
set_option maxRecDepth 100000
def sizeC (t n : Int) (b : List B8) : Int := if formE13 t n b = 0 then (((formV13 t n b).length / 64 : Nat) : Int) else -1
theorem formV13_le (t n : Int) (b : List B8) : (formV13 t n b).length ≤ 65600 := by
  unfold formV13
  split
  · rename_i h
    unfold formE13 at h
    split at h
    · omega
    · split at h
      · omega
      · unfold formS
        rw [laidS_len]
        unfold secPad
        omega
  · simp
theorem sizeC_bound (t n : Int) (b : List B8) : -1 ≤ sizeC t n b ∧ sizeC t n b ≤ 1025 := by
  unfold sizeC
  have := formV13_le t n b
  split <;> omega
set_option maxHeartbeats 4000000 in
theorem rsize_any (t n : Int) (A : Option Addr) (c : Nat) (b : List B8) (w : World) (hb : Bts w A b) (hA : A = none → c = 0) (hlen : b.length ≤ 900000) :
    Calls Tryd.prog 37 #[.int .i64 t, .int .i64 n, .slice A b.length c] w fun r w' => r = .returned (.int .i64 (sizeC t n b)) ∧ Below w.heap.size w w' := by
  have RF := rform_any t n A c b w hb hA hlen
  have hm64 := formV13_le t n b
  obtain ⟨S_, hS⟩ : ∃ x, x = sizeC t n b := ⟨_, rfl⟩
  rw [← hS]
  unfold sizeC at hS
  obtain ⟨E, hE⟩ : ∃ x, x = formE13 t n b := ⟨_, rfl⟩
  obtain ⟨V, hV⟩ : ∃ x, x = formV13 t n b := ⟨_, rfl⟩
  rw [← hE, ← hV] at RF hS
  rw [← hV] at hm64
  have RF := Lib.hid RF
  clear hb hA hlen hE hV
  by_cases h0 : E = 0
  · have d0 : ((E : Int) != 0) = false := by rw [bne_eq_false_iff_eq]; omega
    rw [if_pos h0] at hS
    have HS := Lib.hid hS
    clear h0 hS
    go_enter Tryd.func37, Tryd.ntmps37
    go_wp2_with (go_at_call 54; refine stop ?_)
    unfold Stop
    refine RF.out.mono ?_
    rintro r w1 ⟨A1, c1, rfl, -, -, hc1, hb1⟩
    have HB := Lib.hid hb1
    clear RF hb1
    obtain ⟨m, hm⟩ : ∃ m, m = V.length := ⟨_, rfl⟩
    rw [← hm] at HS hm64 hc1 ⊢
    clear hm
    have hq : ((m : Int)).tdiv 64 = ((m / 64 : Nat) : Int) := by rw [Int.tdiv_eq_ediv_of_nonneg (by omega)]; omega
    go_wp2
    go_ret
    exact ⟨by rw [HS.out]; show Ending.returned (.int .i64 ((m : Int) / 64)) = _; rw [show ((m / 64 : Nat) : Int) = (m : Int) / 64 by omega], HB.out⟩
  · have d0 : ((E : Int) != 0) = true := by rw [bne_iff_ne]; omega
    rw [if_neg h0] at hS
    have HS := Lib.hid hS
    clear h0 hS
    go_enter Tryd.func37, Tryd.ntmps37
    go_wp2_with (go_at_call 54; refine stop ?_)
    unfold Stop
    refine RF.out.mono ?_
    rintro r w1 ⟨A1, c1, rfl, -, -, hc1, hb1⟩
    have HB := Lib.hid hb1
    clear RF hb1
    go_wp2
    go_ret
    exact ⟨by rw [HS.out]; rfl, HB.out⟩
end
section
set_option linter.unusedVariables false
set_option linter.unusedSimpArgs false
open Go.RowKit
set_option maxRecDepth 100000
/-- What is left behind records, from the i-th on. -/
def leftsC (t : Int) : Nat → Int → List (List B8) → Int
  | _, a, [] => a
  | i, a, b :: bs => leftsC t (i + 1) (a - sizeC t i b) bs
def leftC (t half : Int) (L : List (List B8)) : Int := leftsC t 0 half L
theorem leftsC_step {t a : Int} {i : Nat} {L : List (List B8)} {b : List B8} (h : L[i]? = some b) : leftsC t i a (L.drop i) = leftsC t (i + 1) (a - sizeC t i b) (L.drop (i + 1)) := by
  obtain ⟨hi, e⟩ := List.getElem?_eq_some_iff.1 h
  rw [List.drop_eq_getElem_cons hi, e]
  rfl
/-- A chest's value. -/
def cstV (t half : Int) (A : Option Addr) (n c : Nat) : Value := .agg #[.int .i64 t, .int .i64 half, .slice A n c]
def CBx (w : World) (x : Nat) (t half : Int) (A : Option Addr) (n c : Nat) : Prop := w.heap[x]? = some (.cells #[.int .i64 t, .int .i64 half, .slice A n c] 33 (0, 0))
theorem CBx.cells {w : World} {x : Nat} {t half : Int} {A : Option Addr} {n c : Nat} (h : CBx w x t half A n c) : w.cell? ⟨x, 0, none⟩ = some (.int .i64 t) ∧ w.cell? ⟨x, 1, none⟩ = some (.int .i64 half) ∧ w.cell? ⟨x, 2, none⟩ = some (.slice A n c) :=
  ⟨by rw [cell_of_row w x 0 _ _ _ h]; rfl, by rw [cell_of_row w x 1 _ _ _ h]; rfl, by rw [cell_of_row w x 2 _ _ _ h]; rfl⟩
theorem CBx.lt {w : World} {x : Nat} {t half : Int} {A : Option Addr} {n c : Nat} (h : CBx w x t half A n c) : x < w.heap.size := lt_of_block h
theorem CBx.below {B : Nat} {w w' : World} {x : Nat} {t half : Int} {A : Option Addr} {n c : Nat} (h : CBx w x t half A n c) (hb : Below B w w') (hx : x < B) : CBx w' x t half A n c := by
  unfold CBx; rw [hb.block x hx]; exact h
theorem below_le {B C : Nat} {w w' : World} (h : Below C w w') (hc : B ≤ C) : Below B w w' := ⟨h.os, h.tape, h.output, h.size, fun i hi => h.block i (Nat.lt_of_lt_of_le hi hc)⟩
set_option maxHeartbeats 4000000 in
theorem rleft_any (t half : Int) (A : Option Addr) (c : Nat) (L : List (List B8)) (w : World) (hL : LstN w A L) (hlen : L.length ≤ 1000000) (hb : ∀ x ∈ L, x.length ≤ 900000) (hh : 0 ≤ half) (hh2 : half ≤ 1000000000) :
    Calls Tryd.prog 36 #[cstV t half A L.length c] w fun r w' => r = .returned (.int .i64 (leftC t half L)) ∧ Below w.heap.size w w' := by
  obtain ⟨w1, hw1⟩ : ∃ w1, w1 = w.alloc (.cells #[.int .i64 t, .int .i64 half, .slice A L.length c] 33) := ⟨_, rfl⟩
  obtain ⟨x, hx⟩ : ∃ x, x = w.heap.size := ⟨_, rfl⟩
  have t1 : Below w.heap.size w w1 := by rw [hw1]; exact (Below.refl _ _).alloc (Nat.le_refl _) _
  have B1 := Lib.hid (show CBx w1 x t half A L.length c by rw [hw1, hx]; exact heap_alloc_new _ _)
  have L1 := Lib.hid (hL.below t1)
  have T1 := Lib.hid t1
  have HX := Lib.hid (show w.heap.size ≤ x by omega)
  have HB := Lib.hid hb
  clear hL hb t1
  go_enter Tryd.func36, Tryd.ntmps36
  go_upto_region 1 with fail
  change Code.wp _ _ _ _ (w.alloc (.cells #[.int .i64 t, .int .i64 half, .slice A L.length c] 33))
  rw [← hw1, ← hx]
  clear hw1 hx
  obtain ⟨c0, c1, c2⟩ := B1.out.cells
  go_upto_region 3 with fail
  clear c0 c1 c2
  go_loopw [3, 4] (fun av iv wr => ∃ (k : Nat) (a : Int), k ≤ L.length ∧ iv = .int .i64 (k : Int) ∧ av = .int .i64 a ∧ leftC t half L = leftsC t k a (L.drop k) ∧ a ≤ 1000000000 + k ∧ -(1025 * (k : Int)) ≤ a ∧ CBx wr x t half A L.length c ∧ LstN wr A L ∧ Below w.heap.size w wr) (fun _ iv _ => L.length - (intOf iv).toNat)
  case atStart => exact ⟨0, half, by omega, rfl, rfl, rfl, by omega, by omega, B1.out, L1.out, T1.out⟩
  case round =>
    obtain ⟨k, a, hk, rfl, rfl, he, ha1, ha2, hbx, hl, ht⟩ := hrel
    obtain ⟨c0, c1, c2⟩ := hbx.cells
    have HBX := Lib.hid hbx
    have HL := Lib.hid hl
    have HT := Lib.hid ht
    have HE := Lib.hid he
    clear hbx ht he
    by_cases hlt : k < L.length
    · obtain ⟨ad, Ai, ci, rfl, hcl, hci, hai, hbt⟩ := hl k L[k] (List.getElem?_eq_getElem hlt)
      have hbl := HB.out L[k] (List.getElem_mem hlt)
      have ES := Lib.hid (HE.out.trans (leftsC_step (List.getElem?_eq_getElem hlt)))
      obtain ⟨b, hbd⟩ : ∃ b, b = L[k] := ⟨_, rfl⟩
      rw [← hbd] at hcl hci hbt hbl ES
      have td : Below wr.heap.size wr wr.drew := (Below.refl _ _).drew
      have RS := Lib.hid (rsize_any t k Ai ci b wr.drew (hbt.below td) hai hbl)
      have hsb := sizeC_bound t k b
      obtain ⟨S_, hS⟩ : ∃ s, s = sizeC t k b := ⟨_, rfl⟩
      rw [← hS] at RS hsb ES
      clear hl hS hbt hbl hbd
      have HXW := Lib.hid HBX.out.lt
      have hw1 : IntKind.i64.wrap (a - S_) = a - S_ := IntWalk.i64_in _ (by omega)
      go_upto_region 5 with fail
      go_region_held3 (fun w' => w'.cell? ⟨x, 0, none⟩ = some (.int .i64 t) ∧ w'.cell? ⟨x, 2, none⟩ = some (.slice (some ad) L.length c) ∧ w'.cell? (ad.add k) = some (.slice Ai b.length ci))
        (first | exact ⟨c0, c2, hcl⟩ | exact ⟨k0, k2, kc⟩)
        (first
          | (go_at_call 37; refine RS.out.mono ?_; clear RS; rintro r w3 ⟨rfl, t3⟩; have T3 := Lib.hid t3; have k0 := (t3.cell (show (⟨x, 0, none⟩ : Addr).block < _ from HXW.out)).trans c0; have k2 := (t3.cell (show (⟨x, 2, none⟩ : Addr).block < _ from HXW.out)).trans c2; have kc := (t3.cell (World.block_lt_of_cell? wr _ hcl)).trans hcl; clear t3))
      have T4 := Lib.hid (show Below wr.heap.size wr w3 from td.trans T3.out)
      clear c0 c1 c2 hcl k0 k2 kc
      go_wp2
      go_roundw
      case rel => exact ⟨k + 1, a - S_, by omega, by go_num, by go_num, by rw [ES.out], by omega, by omega, HBX.out.below T4.out HXW.out, HL.out.below T4.out, HT.out.trans (below_le T4.out (by have := HT.out.size; omega))⟩
      case measure => simp [intOf]; omega
    · have hkl : k = L.length := by omega
      clear hl
      go_wp2
      go_ret
      refine ⟨?_, HT.out⟩
      rw [HE.out, hkl, List.drop_length]
      rfl
end
section
set_option linter.unusedVariables false
set_option linter.unusedSimpArgs false
open Go.RowKit
set_option maxRecDepth 100000
abbrev ZCh : Array Value := #[.int .i64 0, .int .i64 0, .slice none 0 0]
theorem zero_ch (w : World) : (zeroValue 33).run Tryd.prog w = .ok (.agg ZCh) w := by kernel_rfl
theorem ch_info : (Tryd.prog.info? 33).map (·.size) = some 3 := by kernel_rfl
abbrev cstC (t half : Int) (A : Option Addr) (n c : Nat) : Array Value := #[.int .i64 t, .int .i64 half, .slice A n c]
theorem cst_facts (t half : Int) (A : Option Addr) (n c : Nat) : (Tryd.prog.info? 33).map (·.size) = some (cstC t half A n c).size ∧ ZCh.size = (cstC t half A n c).size ∧ (cstC t half A n c).all (·.oneCell') = true := ⟨ch_info, rfl, by simp [Value.oneCell']⟩
def keepE (t half : Int) (L : List (List B8)) (b : List B8) : Nat := if sizeC t (L.length : Int) b < 0 then 4 else if leftC t half L < sizeC t (L.length : Int) b then 18 else 0
theorem LstQ.vals {w : World} {N : Nat → Prop} {A : Option Addr} {ls : List (List B8)} (h : LstQ w N A ls) : ∃ vs, TxtV w N ls vs ∧ SlN w N A vs := by
  have each : ∀ i : Nat, ∃ v : Value, ∀ x, ls[i]? = some x → ∃ Ai ci, v = .slice Ai x.length ci ∧ x.length ≤ ci ∧ (Ai = none → ci = 0) ∧ SlN w N Ai (x.map bv) ∧ ∃ ad, A = some ad ∧ ¬ N ad.block ∧ w.cell? (ad.add i) = some v := fun i => by
    cases hi : ls[i]? with
    | none => exact ⟨.bool true, fun x hx => by cases hx⟩
    | some y =>
      obtain ⟨ad, Ai, ci, e, hb, hc, h1, h2, h3⟩ := h i y hi
      exact ⟨.slice Ai y.length ci, fun x hx => by
        injection hx with hx
        subst hx
        exact ⟨Ai, ci, rfl, h1, h2, h3, ad, e, hb, hc⟩⟩
  obtain ⟨f, hf⟩ : ∃ f : Nat → Value, ∀ (i : Nat) x, ls[i]? = some x → ∃ Ai ci, f i = .slice Ai x.length ci ∧ x.length ≤ ci ∧ (Ai = none → ci = 0) ∧ SlN w N Ai (x.map bv) ∧ ∃ ad, A = some ad ∧ ¬ N ad.block ∧ w.cell? (ad.add i) = some (f i) := ⟨fun i => (each i).choose, fun i => (each i).choose_spec⟩
  refine ⟨(List.range ls.length).map f, ⟨by simp, fun i x hi => ?_⟩, fun j u hu => ?_⟩
  · have hlt := (List.getElem?_eq_some_iff.1 hi).1
    obtain ⟨Ai, ci, e, h1, h2, h3, -⟩ := hf i x hi
    exact ⟨Ai, ci, by simp [hlt, e], h1, h2, h3⟩
  · have hj : j < ls.length := by
      have := (List.getElem?_eq_some_iff.1 hu).1
      simpa using this
    obtain ⟨Ai, ci, e, -, -, -, ad, e1, e2, e3⟩ := hf j ls[j] (List.getElem?_eq_getElem hj)
    simp [hj] at hu
    exact ⟨ad, e1, e2, by rw [e3, hu]⟩
end
section
set_option linter.unusedVariables false
set_option linter.unusedSimpArgs false
open Go.RowKit
set_option maxRecDepth 100000
theorem own_stp {w w' : World} {B n : Nat} {e : TypeId} {v : Value} {xs : List Value} (ho : w.ownsRow B e 1 v n xs) (hs : Stp w w') : w'.ownsRow B e 1 v n xs := by
  obtain ⟨h1, h2⟩ := ho
  refine ⟨h1, ?_⟩
  rcases h2 with h2 | ⟨g', cap, cur, e', hg, hh, r⟩
  · exact .inl h2
  · exact .inr ⟨g', cap, cur, e', hg, (hs.block g' (lt_of_block hh)).trans hh, r⟩
/-- A text's copy, made from B on. -/
def CpyT (B : Nat) (b : List B8) (v : Value) (w : World) : Prop := ∃ A c, v = .slice A b.length c ∧ w.ownsRow B 5 1 v b.length (b.map bv)
theorem CpyT.stable (B : Nat) (b : List B8) (v : Value) (w w' : World) (h : CpyT B b v w) (hs : Stp w w') : CpyT B b v w' := by
  obtain ⟨A, c, e, ho⟩ := h
  exact ⟨A, c, e, own_stp ho hs⟩
/-- A list of one text, made from B on. -/
def SlT (B : Nat) (b : List B8) (v : Value) (w : World) : Prop := ∃ g X, B ≤ g ∧ v = .slice (some ⟨g, 0, none⟩) 1 1 ∧ w.heap[g]? = some (.cells #[X] 36 (0, 0)) ∧ CpyT B b X w
theorem SlT.stable (B : Nat) (b : List B8) (v : Value) (w w' : World) (h : SlT B b v w) (hs : Stp w w') : SlT B b v w' := by
  obtain ⟨g, X, h1, h2, h3, h4⟩ := h
  exact ⟨g, X, h1, h2, (hs.block g (lt_of_block h3)).trans h3, h4.stable B b X w w' hs⟩
def AggT (B : Nat) (b : List B8) (t half : Int) (v : Value) (w : World) : Prop := ∃ g, v = .agg (cstC t half (some ⟨g, 0, none⟩) 1 1) ∧ SlT B b (.slice (some ⟨g, 0, none⟩) 1 1) w
theorem AggT.stable (B : Nat) (b : List B8) (t half : Int) (v : Value) (w w' : World) (h : AggT B b t half v w) (hs : Stp w w') : AggT B b t half v w' := by
  obtain ⟨g, h1, h2⟩ := h
  exact ⟨g, h1, h2.stable B b _ w w' hs⟩
theorem SlT.lst {B : Nat} {b : List B8} {v : Value} {w : World} {N : Nat → Prop} (h : SlT B b v w) (hN : ∀ i, N i → i < B) : ∃ A, v = .slice A 1 1 ∧ (A = none → (1 : Nat) = 0) ∧ LstQ w N A [b] := by
  obtain ⟨g, X, h1, rfl, h3, A, c, rfl, ho⟩ := h
  obtain ⟨A', c', e, -, -, hc, hA⟩ := own_sl ho
  injection e with e1 e2 e3
  subst e1 e3
  refine ⟨_, rfl, (fun h => by cases h), fun i x hi => ?_⟩
  match i, hi with
  | 0, hi =>
    injection hi with hi
    subst hi
    exact ⟨_, A, c, rfl, fun h => by have := hN _ h; simp at this; omega, by rw [add_row, cell_of_row _ _ _ _ _ _ h3]; rfl, hc, hA, own_sln ho hN⟩
theorem build_slT1 (A : Option Addr) (n c : Nat) (w : World) : (Instr.buildSlice 31 1 #[(0, .slice A n c)]).run Tryd.prog w = .ok (.slice (some ⟨w.heap.size, 0, none⟩) 1 1) (w.alloc (.cells #[.slice A n c] 36)) := by
  obtain ⟨i0, hi, hz0, hz1, hz2⟩ := info_parts info_sl
  refine run_buildSlice w 31 36 1 _ _ i0 (.slice none 0 0) Tryd.underlying31 hi hz0 (by rw [hz1]; decide) (by rw [hz1]; decide) ?_
  rw [hz1]
  have e : ((Array.range (1 * 1)).map fun x => (Value.slice none 0 0).cells[x % (Value.slice none 0 0).cells.size]!) = #[.slice none 0 0] := by kernel_rfl
  rw [e]
  simp [Instr.fill, Value.cells]
theorem does_build_slT {o : Oper} {a : Act} {w : World} {R : Value → World → Prop} (x : Operand) (ho : o.op = .buildSlice 31 1 #[(0, x)]) (A : Option Addr) (n c : Nat) (hx : a.eval x = .slice A n c) (h : R (.slice (some ⟨w.heap.size, 0, none⟩) 1 1) (w.alloc (.cells #[.slice A n c] 36))) : doesR Tryd.prog o a w R := by
  unfold doesR execOp
  simp only [ho, List.map_toArray, List.map_cons, List.map_nil, hx, Sem.run_bind, build_slT1, Result.andThen_ok]
  exact h
end
end Go.Proofs.YtajdcekkmikbcaaDoor
