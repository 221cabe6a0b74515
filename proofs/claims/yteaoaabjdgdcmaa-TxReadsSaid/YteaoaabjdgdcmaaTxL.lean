/- The contract of 'Put'. -/
import Derived.Test.YteaoaabjdgdcmaaTxK
set_option linter.unusedVariables false
set_option linter.unusedSimpArgs false
namespace Go.Proofs.Yteaoaabjdgdcmaa
open Go.RowKit
/-- What a form answers: nothing for one that isn't right. -/
def putF (t : Ptx) : List B8 := if chk t = 0 then formB t else []
set_option maxRecDepth 100000 in
theorem chk_ok {t : Ptx} (h : chk t = 0) : withinB t = true := by
  unfold chk at h
  cases hw : withinB t
  · rw [hw] at h; simp at h
  · rfl
set_option maxRecDepth 100000 in
theorem within_all {t : Ptx} (h : withinB t = true) : t.ins.length ≤ 16 ∧ t.outs.length ≤ 16 ∧ 0 ≤ t.exp ∧ t.exp ≤ 1099511627776 ∧ ∀ q ∈ t.ins, outB q = false := by
  unfold withinB at h
  simp at h
  obtain ⟨h1, h2⟩ := h
  exact ⟨by omega, by omega, by omega, by omega, h2⟩
set_option maxRecDepth 100000 in
set_option maxHeartbeats 4000000 in
theorem put_any (Ai Ao : Option Addr) (ci co B : Nat) (t : Ptx) (w : World) (h : TxAt w B Ai ci Ao co t) (hBw : B ≤ w.heap.size) :
    Calls Try.prog 26 #[txV Ai ci Ao co t] w fun e w' => ∃ u, e = .returned (.tuple #[u, .int .i64 ((chk t : Nat) : Int)]) ∧ w'.ownsRow w.heap.size 5 1 u (putF t).length ((putF t).map bv) ∧ Turn (fun _ => False) w w' := by
  obtain ⟨w0, hw0⟩ : ∃ w0, w0 = w.alloc (.cells #[.slice Ai t.ins.length ci, .slice Ao t.outs.length co, .int .u64 (t.fee : Int), .int .i64 t.exp] 28) := ⟨_, rfl⟩
  have hT0 : Turn (fun _ => False) w w0 := by rw [hw0]; exact (Turn.refl _ _).alloc _
  have hg0 : w0.heap[w.heap.size]? = some (.cells #[.slice Ai t.ins.length ci, .slice Ao t.outs.length co, .int .u64 (t.fee : Int), .int .i64 t.exp] 28 (0, 0)) := by rw [hw0]; exact heap_alloc_new _ _
  have CF := Lib.hid (show ∀ w' : World, w'.heap[w.heap.size]? = some (.cells #[.slice Ai t.ins.length ci, .slice Ao t.outs.length co, .int .u64 (t.fee : Int), .int .i64 t.exp] 28 (0, 0)) → w'.cell? ⟨w.heap.size, 0, none⟩ = some (.slice Ai t.ins.length ci) ∧ w'.cell? ⟨w.heap.size, 1, none⟩ = some (.slice Ao t.outs.length co) ∧ w'.cell? ⟨w.heap.size, 2, none⟩ = some (.int .u64 (t.fee : Int)) ∧ w'.cell? ⟨w.heap.size, 3, none⟩ = some (.int .i64 t.exp) from fun w' g => by
    refine ⟨?_, ?_, ?_, ?_⟩ <;> rw [cell_of_row _ _ _ _ _ _ g] <;> rfl)
  have HGX := Lib.hid hg0
  obtain ⟨c0, c1, c2, c3⟩ := CF.out _ hg0
  have HC := Lib.hid (check_any Ai Ao ci co B t w0 (h.turn hT0 (fun _ _ h => h)))
  have HH := Lib.hid h
  have HT0 := Lib.hid hT0
  have HB := Lib.hid hBw
  unfold txV at HC ⊢
  have HPF := Lib.hid (show putF t = if chk t = 0 then formB t else [] from rfl)
  have HOK := Lib.hid (@chk_ok t)
  generalize chk t = z at *
  clear h hT0 hg0 hBw
  by_cases hz : z = 0
  · obtain ⟨hil, hol, hx0, hx1, hno⟩ := within_all (HOK.out hz)
    rw [if_pos hz] at HPF
    have hfee := HH.out.fee
    obtain ⟨y, hy⟩ : ∃ y : Nat, t.exp = (y : Int) := ⟨t.exp.toNat, by omega⟩
    have hyn : t.exp.toNat = y := by omega
    have HFM := Lib.hid (show formB t = (numB t.ins.length ++ insF t.ins) ++ ((numB t.outs.length ++ outsF t.outs) ++ (numB t.fee ++ numB y)) by unfold formB; rw [hyn])
    have hil2 := insF_le (fun p hp => HH.out.ins.oks p hp) hno
    have hol2 := outsF_le (fun p hp => HH.out.outs.oks p hp)
    have hn1 := numB_le (n := t.ins.length) (by omega)
    have hn2 := numB_le (n := t.outs.length) (by omega)
    have hn3 := numB_le hfee
    have hn4 := numB_le (n := y) (by omega)
    have HNO := Lib.hid hno
    rw [hy] at HC CF HGX c3
    have hy40 : y ≤ 1099511627776 := by omega
    obtain ⟨fe, hfe⟩ : ∃ fe, fe = t.fee := ⟨_, rfl⟩
    rw [← hfe] at HC CF HGX c2 HFM hfee hn3
    have HHY := Lib.hid hy
    have HFE := Lib.hid hfe
    subst hz
    clear hno hyn hx0 hx1
    rw [hy, ← hfe] at hw0
    go_enter Try.func26, Try.ntmps26
    go_upto_region 1 with fail
    rw [hy, ← hfe]
    change Code.wp _ _ _ _ (w.alloc (.cells #[.slice Ai t.ins.length ci, .slice Ao t.outs.length co, .int .u64 (fe : Int), .int .i64 (y : Int)] 28))
    rw [← hw0]
    clear hw0 hy hfe
    obtain ⟨X0, hX0⟩ : ∃ X0, X0 = (Value.slice none 0 0) := ⟨_, rfl⟩
    go_wp2_with (go_at_call 8; refine HC.out.mono ?_; rintro r w1 ⟨rfl, t1⟩; have HT1 := Lib.hid t1; clear c0 c1 c2 c3; have g2 := Lib.hid ((t1.alloc (.cells #[.slice none 0 0] 90)).heap HGX.out (fun h => h)); obtain ⟨c0, c1, c2, c3⟩ := CF.out _ g2.out; clear t1)
    have hws : w.heap.size < w1.heap.size := by have := lt_of_block (HT1.out.heap HGX.out (fun h => h)); exact this
    obtain ⟨w2, hw2⟩ : ∃ w2, w2 = w1.alloc (.cells #[.slice none 0 0] 90) := ⟨_, rfl⟩
    have hp2 : PenAt w2 w1.heap.size (w1.heap.size + 1) (.slice none 0 0) [] := by rw [hw2]; exact ⟨heap_alloc_new _ _, World.ownsRow_nil _ _ _ _, by omega, by simp⟩
    have hf2 : PenFree w2 w1.heap.size (.slice none 0 0) w.heap.size := ⟨by omega, by (intro e; cases e), by rw [hw2]; simp; omega⟩
    have ht2 : Turn (fun _ => False) w0 w2 := by rw [hw2]; exact HT1.out.alloc _
    rw [← hw2] at g2 ⊢
    have HT2 := Lib.hid (HT0.out.trans ht2 (fun _ _ h => h))
    have TI := Lib.hid (putIns_any w1.heap.size _ B _ [] Ai ci t.ins w2 hp2 (HH.out.ins.turn HT2.out (fun _ _ h => h)) (by have := HB.out; omega) hil HNO.out (by simp))
    have HP2 := Lib.hid hp2
    have HF2 := Lib.hid hf2
    generalize w1.heap.size = p at *
    clear hw2 hp2 hf2 ht2 c0 c1 c2 c3
    refine TI.out.mono ?_
    rintro r w3 ⟨rfl, v3, hp3, st3⟩
    have hg3 := st3.heap HF2.out g2.out
    obtain ⟨c0, c1, c2, c3⟩ := CF.out _ hg3
    rw [List.nil_append] at hp3
    have HF3 := Lib.hid (HF2.out.step st3)
    have HG3 := Lib.hid hg3
    have TO := Lib.hid (putOuts_any p _ B _ _ Ao co t.outs w3 hp3 ((HH.out.outs.turn HT2.out (fun _ _ h => h)).turn st3.1 (fun i hi => HP2.out.low (by have := HB.out; omega))) (by have := HB.out; omega) hol (by simp only [List.length_append]; omega))
    have ST3 := Lib.hid st3
    clear hg3 hp3 st3 TI
    go_wp2_with fail
    refine TO.out.mono ?_
    rintro r w4 ⟨rfl, v4, hp4, st4⟩
    have hg4 := st4.heap HF3.out HG3.out
    clear c0 c1 c2 c3
    obtain ⟨c0, c1, c2, c3⟩ := CF.out _ hg4
    have HF4 := Lib.hid (HF3.out.step st4)
    have HG4 := Lib.hid hg4
    have TF := Lib.hid (pnum_any p _ v4 _ fe w4 hp4 hfee (by simp only [List.length_append]; omega))
    have ST4 := Lib.hid (ST3.out.trans st4)
    clear hg4 hp4 st4 TO
    go_wp2_with fail
    refine TF.out.mono ?_
    rintro r w5 ⟨rfl, v5, hp5, st5⟩
    have hg5 := st5.heap HF4.out HG4.out
    clear c0 c1 c2 c3
    obtain ⟨c0, c1, c2, c3⟩ := CF.out _ hg5
    have TY := Lib.hid (pnum_any p _ v5 _ y w5 hp5 (by omega) (by simp only [List.length_append]; omega))
    have ST5 := Lib.hid (ST4.out.trans st5)
    clear hg5 hp5 st5 TF
    go_wp2_with fail
    refine TY.out.mono ?_
    rintro r w6 ⟨rfl, v6, hp6, st6⟩
    have TB := Lib.hid (pbytes_any p _ v6 _ w6 hp6 (by simp only [List.length_append]; omega))
    have ST6 := Lib.hid (ST5.out.trans st6)
    clear c0 c1 c2 c3 hp6 st6 TY
    go_wp2_with fail
    refine TB.out.mono ?_
    rintro r w7 ⟨u, rfl, own7, t7⟩
    have HO7 := Lib.hid own7
    have HT7 := Lib.hid t7
    clear own7 t7 TB
    go_wp2
    go_ret2
    refine ⟨u, rfl, ?_, ?_⟩
    · rw [HPF.out, HFM.out]
      have h := own_more HO7.out (base' := w.heap.size) (by have := HT2.out.size; have := ST6.out.1.size; omega)
      simp only [List.append_assoc] at h ⊢
      exact h
    · refine (HT2.out.trans ST6.out.1 (fun i hi h => ?_)).trans HT7.out (fun _ _ h => h)
      rcases h with h | h
      · omega
      · cases h
  · rw [if_neg hz] at HPF
    have hz1 : ((z : Int) != 0) = true := by simp; omega
    clear hz
    go_enter Try.func26, Try.ntmps26
    go_upto_region 1 with fail
    change Code.wp _ _ _ _ (w.alloc (.cells #[.slice Ai t.ins.length ci, .slice Ao t.outs.length co, .int .u64 (t.fee : Int), .int .i64 t.exp] 28))
    rw [← hw0]
    clear hw0
    go_wp2_with (go_at_call 8; refine HC.out.mono ?_; rintro r w1 ⟨rfl, t1⟩; have HT1 := Lib.hid t1; clear c0 c1 c2 c3 t1)
    go_ret2
    refine ⟨_, rfl, ?_, HT0.out.trans HT1.out (fun _ _ h => h)⟩
    rw [HPF.out]
    exact World.ownsRow_nil _ _ _ _
end Go.Proofs.Yteaoaabjdgdcmaa
