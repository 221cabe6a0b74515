/- The landed line: Drop. -/
import Derived.Test.YtgjplbanfnomkaaLnQ
import Derived.Deep.RegionWith
import Derived.IntWalk
set_option linter.unusedVariables false
set_option linter.unusedSimpArgs false
namespace Go.Proofs.Ytgjplbanfnomkaa
open Go.RowKit
set_option maxRecDepth 100000
theorem Ln.drop_no {x : Ln} {i : Int} (h : ¬ 0 ≤ x.at i) : x.drop i = (x, false) := by unfold Ln.drop; rw [if_pos (by omega)]
theorem Ln.drop_yes {x : Ln} (h : x.Ok) {i : Int} (h0 : 0 ≤ x.at i) : ∃ k : Nat, i - x.b = (k : Int) ∧ k ≤ x.l.length ∧ x.drop i = (⟨i, x.at i, x.l.drop k⟩, true) ∧ (Ln.mk i (x.at i) (x.l.drop k)).Ok ∧ (Ln.mk x.b x.t (x.l.drop k)).Ok := by
  obtain ⟨h1, -⟩ := Ln.at_neg h (i := i)
  have h2 := h1.1 h0
  have hb0 := h.b0
  have hn := h.n
  have hm := h.m
  unfold Ln.last at h2
  refine ⟨(i - x.b).toNat, by omega, by omega, by unfold Ln.drop; rw [if_neg (by omega)], ?_, ?_⟩
  · have hr := Ln.tm_range h i
    unfold Ln.tm at hr
    rw [if_pos h0] at hr
    exact ⟨by show 0 ≤ i; omega, by show i ≤ _; omega, h0, hr.2, fun p hp => h.it p (List.mem_of_mem_drop hp), by show (x.l.drop _).length ≤ _; rw [List.length_drop]; omega, by show i + ((x.l.drop _).length : Int) ≤ _; rw [List.length_drop]; omega⟩
  · exact ⟨h.b0, h.b1, h.t0, h.t1, fun p hp => h.it p (List.mem_of_mem_drop hp), by show (x.l.drop _).length ≤ _; rw [List.length_drop]; omega, by show x.b + ((x.l.drop _).length : Int) ≤ _; rw [List.length_drop]; omega⟩
def DPost (g : Nat) (v : Value) (x : Ln) (i : Int) (w : World) (r : Ending) (w' : World) : Prop := ∃ v', r = .returned (.bool (x.drop i).2) ∧ Lat w' g v' (x.drop i).1 ∧ LnStep w w' g v v'
theorem lat_base {w : World} {g : Nat} {v : Value} {x : Ln} {b t : Int} (h : Lat w g v x) (ok : (Ln.mk b t x.l).Ok) : Lat ((w.setCell ⟨g, 0, none⟩ (.int .i64 b)).setCell ⟨g, 1, none⟩ (.int .i64 t)) g v ⟨b, t, x.l⟩ ∧ Turn (fun i => i = g) w ((w.setCell ⟨g, 0, none⟩ (.int .i64 b)).setCell ⟨g, 1, none⟩ (.int .i64 t)) := by
  have T : Turn (fun i => i = g) w ((w.setCell ⟨g, 0, none⟩ (.int .i64 b)).setCell ⟨g, 1, none⟩ (.int .i64 t)) := ((Turn.refl (fun i => i = g) w).setCell _ _ (fun _ => rfl)).setCell _ _ (fun _ => rfl)
  have e1 := heap_setCell_same w g 0 _ _ (.int .i64 b) h.h
  have e2 := heap_setCell_same _ g 1 _ _ (.int .i64 t) e1
  obtain ⟨cs, hv, ho⟩ := h.o
  refine ⟨⟨e2, ⟨cs, hv.turn T (fun i e => by have e : i = g := e; rw [e]; exact h.nuG) (Nu.turn T (fun i e => by have e : i = g := e; rw [e]; exact h.nuG)), own_turn2 T ho (fun k hk e => by have e : k = g := e; rw [e] at hk; exact h.ne hk)⟩, ok⟩, T⟩
theorem cell_st3 {w : World} {g : Nat} {a v : Value} (h : w.cell? ⟨g, 0, none⟩ = some a) : (w.setCell ⟨g, 2, none⟩ v).cell? ⟨g, 0, none⟩ = some a := by
  rw [World.cell?_setCell_other _ _ _ _ (fun e => by injection e with e1 e2; omega)]; exact h
set_option maxHeartbeats 16000000 in
theorem ldrop_any (g : Nat) (v : Value) (x : Ln) (w : World) (h : Lat w g v x) (i : Int) : Calls Try.prog 15 #[.pointer (some ⟨g, 0, none⟩), .int .i64 i] w (DPost g v x i w) := by
  have T := lterm_any g v x w h i
  have HH := Lib.hid h
  by_cases h0 : 0 ≤ x.at i
  rotate_left
  · rw [show x.th i = false from decide_eq_false h0] at T
    unfold DPost
    rw [Ln.drop_no h0]
    generalize x.tm i = t' at *
    have T := Lib.hid T
    clear h h0
    go_enter Try.func15, Try.ntmps15
    go_wp2_with (go_at_call 24; refine stop ?_)
    unfold Stop
    refine T.out.mono ?_
    rintro r w1 ⟨rfl, t1⟩
    have HT1 := Lib.hid t1
    clear t1 T
    go_wp2
    go_ret
    exact ⟨v, rfl, HH.out.quiet HT1.out, LnStep.quiet HT1.out⟩
  rw [show x.th i = true from decide_eq_true h0, show x.tm i = x.at i by unfold Ln.tm; rw [if_pos h0]] at T
  have T := Lib.hid T
  obtain ⟨k, hk, hkl, hd, hok1, hok2⟩ := Ln.drop_yes h.ok h0
  have HD := Lib.hid hd
  have HOK1 := Lib.hid hok1
  have HOK2 := Lib.hid hok2
  have HKL := Lib.hid hkl
  generalize x.at i = t' at *
  clear h h0 hd hok1 hok2
  go_enter Try.func15, Try.ntmps15
  go_wp2_with (go_at_call 24; refine stop ?_)
  unfold Stop
  refine T.out.mono ?_
  rintro r wr ⟨rfl, t1⟩
  have HT := Lib.hid t1
  clear t1 T
  have HHR := Lib.hid (HH.out.quiet HT.out)
  obtain ⟨cs, hcv, hco⟩ := HHR.out.o
  obtain ⟨A, cA, eV, hcA, hmA, hAA, -⟩ := row_slice hco
  have hn4 := HH.out.ok.n
  have hb0 := HH.out.ok.b0
  have hb1 := HH.out.ok.b1
  obtain ⟨n, hn⟩ : ∃ n, n = x.l.length := ⟨_, rfl⟩
  rw [← hn] at eV hco hcA hn4 hkl
  obtain ⟨e0, -, e2⟩ := HHR.out.cells
  rw [eV] at e2
  have hneg : (Value.slice A n cA).ownBlock ≠ some g := by rw [← eV]; exact HHR.out.ne
  have DEL := Lib.hid (ldelete_any A n cA k cs wr.drew (show wr.drew.ownsRow 0 _ 2 _ n cs by rw [← eV]; exact hco) hcv.one hkl (by omega))
  unfold DlPost at DEL
  have HCV := Lib.hid hcv
  have EV := Lib.hid eV
  have HXN := Lib.hid hn
  have hwk : IntKind.i64.wrap (k : Int) = (k : Int) := IntWalk.i64_in _ (by omega)
  clear hcv hco eV hn hAA hmA
  go_upto_region 4 with fail
  go_region_with
    (first | (go_at_call 44; refine DEL.out.mono ?_; rintro r w3 ⟨rfl, ho3, t3⟩; have HO3 := Lib.hid ho3; have HT3 := Lib.hid t3; have k0 := t3.cell (show wr.drew.cell? _ = _ from e0) (fun e => hneg e); have k2 := t3.cell (show wr.drew.cell? _ = _ from e2) (fun e => hneg e); have z2 := frozen_of_row w3 g 2 _ _ (t3.heap (show wr.drew.heap[g]? = _ from HHR.out.h) (fun e => hneg e)); clear ho3 t3))
  all_goals
    have T9 : Turn (fun q => v.ownBlock = some q) wr w3 := by
      rw [EV.out]
      exact ⟨HT3.out.os, HT3.out.tape, HT3.out.output, HT3.out.size, HT3.out.block⟩
    have hne9 : (Value.slice A (n - k) cA).ownBlock ≠ some g := by rw [slice_own A (n - k) n cA]; exact hneg
    have hln : (x.l.drop k).length = n - k := by rw [List.length_drop, ← HXN.out]
    obtain ⟨L1, L2, -, -⟩ := lat_store (x' := ⟨x.b, x.t, x.l.drop k⟩) HHR.out T9 ((HHR.out.turnRow T9 HCV.out).back k) (by show w3.ownsRow 0 _ 2 _ (x.l.drop k).length _; rw [hln]; exact HO3.out) rfl rfl HOK2.out hne9
    have HL2 := Lib.hid L2
    have HL1 := Lib.hid L1
    obtain ⟨w4, hw4⟩ : ∃ w4, w4 = w3.setCell ⟨g, 2, none⟩ (.slice A (n - k) cA) := ⟨_, rfl⟩
    have HW4 := Lib.hid hw4
    rw [← hw4] at L1 L2 ⊢
    have HL1' := Lib.hid L1
    have HL2' := Lib.hid L2
    obtain ⟨a0, a1, a2⟩ := L1.cells
    obtain ⟨f0, f1, f2⟩ := L1.frozen
    clear hw4 L1 L2 HL1 HL2 T9 k0 k2 z2 e0 e2 hwk
    go_wp2
    go_ret
    obtain ⟨h8, t8⟩ := lat_base (b := i) (t := t') HL1'.out HOK1.out
    unfold DPost
    rw [HD.out]
    refine ⟨_, rfl, h8, ((HT.out.mono (fun _ _ h => h.elim)).trans HL2'.out (fun _ _ h => h)).trans t8 (fun q hq e => .inl e), fun q hq => .inl ?_⟩
    rw [EV.out]
    rwa [slice_own A (n - k) n cA] at hq
end Go.Proofs.Ytgjplbanfnomkaa
