/- Merged: A certificate that came in, opened. 'great' and 'CertSame''s walk, over what the landed 'Same' and 'awake' come to. -/
import Derived.Test.YthoaaieiiokcmaaDoorM23
import Derived.OpenShut
import Derived.ChangeSlices
import Derived.WideOpen
import Derived.Test.YthoaaieiiokcmaaDoorM19
import Derived.Test.YthoaaieiiokcmaaDoorM09
import Derived.Test.YthoaaieiiokcmaaDoorM04
namespace Go.Proofs.YthoaaieiiokcmaaDoor
section
set_option linter.unusedVariables false
set_option linter.unusedSimpArgs false
open Go.RowKit Go.ChangeShapes Go.WideShapes Go.ChangeAt
theorem addr_zero (a : Addr) : a.add 0 = a := by unfold Addr.add; simp
section
variable {H : Type} {enc : TypeId × Value → H} {W : World} {fuel : Nat} {x : DataW H × List MemPlace}

set_option maxRecDepth 100000 in
theorem trod_idsS {cs : List Value} (h : DataW.trod enc Tryd.prog W 0 (fun _ => true) true fuel 28 cs = some x) :
    ∃ (A : Option Addr) (c : Nat) (l : List (List B8)), cs = [.slice A l.length c] ∧ IdsAt W A l ∧ (A = none → c = 0) ∧ l.length ≤ c ∧ l.length ≤ maxLen := by
  rcases DataW.trod_slice Tryd.underlying28 h with ⟨hcs, -⟩ | ⟨a, len, cap, elems, rest, m, -, hcs, h1, h2, hl, hm, hel, hall, h3, h4⟩
  · exact ⟨none, 0, [], hcs, fun i f h => by simp at h, fun _ => rfl, by simp, by simp⟩
  · subst hcs
    have c31 : Tryd.prog.cellsOf 24 = 32 := by kernel_rfl
    have each : ∀ i, i < len → ∃ f : List B8, f.length = 32 ∧ (i = 0 → a.spot = none) ∧ a.block < W.heap.size ∧ W.rangeAt a.block (a.off + i * 32) (f.map bv) := by
      intro i hi
      have h := hall i hi
      rw [c31, List.getElem?_eq_getElem (by omega), Option.bind_eq_some_iff] at h
      obtain ⟨cs, hcs, ht⟩ := h
      obtain ⟨f, hok, rfl⟩ := trod_id ht
      obtain ⟨hsp, hr, hb, -⟩ := rangeAt_of hcs (by omega)
      have hadd : (a.add (i * 32)).block = a.block := add_block _ _
      refine ⟨f, hok, ?_, by rw [← hadd]; exact hb, ?_⟩
      · rintro rfl
        rw [Nat.zero_mul, addr_zero] at hsp; exact hsp
      · rw [hadd] at hr
        have : (a.add (i * 32)).off = a.off + i * 32 := by unfold Addr.add; split <;> simp_all
        rwa [this] at hr
    have hlen : ((List.range len).map fun i => if h : i < len then (each i h).choose else []).length = len := by simp
    refine ⟨some a, cap, (List.range len).map fun i => if h : i < len then (each i h).choose else [], by rw [hlen], ?_, (fun h => by cases h), by omega, by omega⟩
    intro i f hf
    have hi : i < len := by have := (List.getElem?_eq_some_iff.1 hf).1; simpa using this
    simp [hi] at hf
    have hsp := (each 0 (by omega)).choose_spec.2.1 rfl
    obtain ⟨h1, h2, h3, h4⟩ := (each i hi).choose_spec
    rw [hf] at h1 h4
    refine ⟨h1, a.block, a.off, ?_, h3, h4⟩
    cases a; simp_all
set_option maxRecDepth 100000 in
theorem trod_cert {cs : List Value} (h : DataW.trod enc Tryd.prog W 0 (fun _ => true) true fuel 32 cs = some x) : ∃ (c : Crt) (A : Option Addr) (n : Nat), cs = c.cells A n ∧ c.L ∧ CPath W c A n ∧ c.ids.length ≤ maxLen := by
  obtain ⟨xs, m, -, -, hl, hxl, hall⟩ := DataW.trod_struct Tryd.underlying32 h
  rw [show Tryd.prog.cellsOf 32 = 137 by kernel_rfl] at hl
  have hx4 : xs.length = 4 := hxl
  have g0 : xs[0]? = some xs[0] := List.getElem?_eq_getElem (by omega)
  have g1 : xs[1]? = some xs[1] := List.getElem?_eq_getElem (by omega)
  have g2 : xs[2]? = some xs[2] := List.getElem?_eq_getElem (by omega)
  have g3 : xs[3]? = some xs[3] := List.getElem?_eq_getElem (by omega)
  have h0 : DataW.trod enc Tryd.prog W 0 (fun _ => true) true m 27 ((cs.drop 0).take (Tryd.prog.cellsOf 27)) = some xs[0] := (hall 0 _ rfl).trans g0
  have h1 : DataW.trod enc Tryd.prog W 0 (fun _ => true) true m 28 ((cs.drop 37).take (Tryd.prog.cellsOf 28)) = some xs[1] := (hall 1 _ rfl).trans g1
  have h2 : DataW.trod enc Tryd.prog W 0 (fun _ => true) true m 30 ((cs.drop 38).take (Tryd.prog.cellsOf 30)) = some xs[2] := (hall 2 _ rfl).trans g2
  have h3 : DataW.trod enc Tryd.prog W 0 (fun _ => true) true m 24 ((cs.drop 105).take (Tryd.prog.cellsOf 24)) = some xs[3] := (hall 3 _ rfl).trans g3
  rw [show Tryd.prog.cellsOf 27 = 37 by kernel_rfl] at h0
  rw [show Tryd.prog.cellsOf 28 = 1 by kernel_rfl] at h1
  rw [show Tryd.prog.cellsOf 30 = 67 by kernel_rfl] at h2
  rw [show Tryd.prog.cellsOf 24 = 32 by kernel_rfl] at h3
  obtain ⟨e, e0, l0⟩ := trod_entry h0
  obtain ⟨A, n, ids, e1, hI, ha, hc, hm⟩ := trod_idsS h1
  obtain ⟨hd, e2, l2⟩ := trod_header h2
  obtain ⟨t, l3, e3⟩ := trod_id h3
  have hids : ∀ d ∈ ids, d.length = 32 := fun d hd => by
    obtain ⟨i, hi⟩ := List.getElem?_of_mem hd
    exact (hI i d hi).1
  refine ⟨⟨e, hd, t, ids⟩, A, n, ?_, ⟨l0, l2, l3, hids⟩, ⟨hI, hc, ha⟩, hm⟩
  have ee : cs = (cs.drop 0).take 37 ++ ((cs.drop 37).take 1 ++ ((cs.drop 38).take 67 ++ (cs.drop 105).take 32)) := by
    rw [List.take_of_length_le (l := cs.drop 105) (by simp; omega)]
    rw [show cs.drop 105 = (cs.drop 38).drop 67 by simp, List.take_append_drop, show cs.drop 38 = (cs.drop 37).drop 1 by simp, List.take_append_drop, show cs.drop 37 = (cs.drop 0).drop 37 by simp, List.take_append_drop]
    simp
  rw [ee, e0, e1, e2, e3]
  rfl
end
set_option maxRecDepth 100000 in
theorem open_cert {H : Type} {enc : TypeId × Value → H} {W : World} {r : Reach} {b0 : Nat} {v : Value} {d : DataW H} {p : List MemPlace} (hval : Value.okWide Tryd.prog W r b0 32 v) (hd : DataW.Trod enc Tryd.prog W 0 (fun _ => true) true 32 v d p) :
    ∃ (c : Crt) (A : Option Addr) (n : Nat), v = .agg (c.cells A n).toArray ∧ c.L ∧ CPath W c A n ∧ c.ids.length ≤ maxLen := by
  have hv : ∃ cs, v = .agg cs := by
    simp only [Value.okWide, Tryd.underlying32] at hval
    obtain ⟨cs, h1, _⟩ := hval
    exact ⟨cs, h1⟩
  obtain ⟨ca, rfl⟩ := hv
  obtain ⟨fuel, hf⟩ := hd
  obtain ⟨c, A, n, he, h1, h2, h3⟩ := trod_cert hf
  refine ⟨c, A, n, ?_, h1, h2, h3⟩
  have hca : ca = ((Value.agg ca).cells.toList).toArray := by simp [Value.cells]
  rw [hca, he]
end
section
set_option linter.unusedVariables false
set_option linter.unusedSimpArgs false
open Go.RowKit
attribute [local go_sem ↓] loadAt_cr loadAt_hd loadAt_en loadAt_id
attribute [local go_sem] run_crLoad run_hdLoad run_enLoad run_idLoad rowOf_drew rowOf_drewN
set_option maxRecDepth 100000 in
set_option maxHeartbeats 4000000 in
theorem great_any (x : Crt) (A : Option Addr) (c : Nat) (w : World) (hx : x.L) (px : CPath w x A c) :
    Calls Tryd.prog 7 #[.agg (x.cells A c).toArray] w fun r w' => r = .returned (.bool (decide (40 < x.ids.length))) ∧ Turn (fun _ => False) w w' := by
  obtain ⟨C, hC⟩ : ∃ C, C = (x.cells A c).toArray := ⟨_, rfl⟩
  rw [← hC]
  obtain ⟨w1, hw1⟩ : ∃ w1, w1 = w.alloc (.cells C 32) := ⟨_, rfl⟩
  have t1 : Turn (fun _ => False) w w1 := by rw [hw1]; exact (Turn.refl _ _).alloc _
  have e1 : CAt w1 w.heap.size x A c := by unfold CAt; rw [← hC, hw1]; exact heap_alloc_new _ _
  have RW := Lib.hid (fun (w' : World) (t : Turn (fun _ => False) w1 w') => (CAt.facts (w := w') (show CAt w' w.heap.size x A c from t.heap e1 (fun h => h)) hx).path)
  have T1 := Lib.hid t1
  have T11 := Lib.hid (Turn.refl (fun _ => False) w1)
  obtain ⟨nl, hnl⟩ : ∃ n, n = x.ids.length := ⟨_, rfl⟩
  rw [← hnl] at RW ⊢
  clear t1 e1 hC hnl px hx
  have F1 := RW.out w1 T11.out
  by_cases h : 40 < nl
  · have q : decide ((40 : Int) < (nl : Int)) = true := decide_eq_true (by omega)
    rw [decide_eq_true h]
    go_enter Tryd.func7, Tryd.ntmps7
    go_upto_region 1 with fail
    change Code.wp _ _ _ _ (w.alloc (.cells C 32))
    rw [← hw1]
    clear hw1
    go_wp2
    go_ret
    exact ⟨rfl, T1.out⟩
  · have q : decide ((40 : Int) < (nl : Int)) = false := decide_eq_false (by omega)
    rw [decide_eq_false h]
    go_enter Tryd.func7, Tryd.ntmps7
    go_upto_region 1 with fail
    change Code.wp _ _ _ _ (w.alloc (.cells C 32))
    rw [← hw1]
    clear hw1
    go_wp2
    go_ret
    exact ⟨rfl, T1.out⟩
theorem stp_callC {f : FuncId} {args : Array Value} {w : World} {v : Value} (h : Calls Tryd.prog f args w fun r w' => r = .returned v ∧ Turn (fun _ => False) w w') : Calls Tryd.prog f args w fun r w' => r = .returned v ∧ Below w.heap.size w w' := h.mono fun _ _ ⟨h1, h2⟩ => ⟨h1, turn_stp' h2⟩
theorem Crt.same_self (x : Crt) : decide (x.same x) = true := decide_eq_true ⟨rfl, rfl, rfl, rfl⟩
theorem cr_row {w : World} {b : Nat} {x : Crt} {A : Option Addr} {c : Nat} (h : CAt w b x A c) (hl : x.L) : rowOf w b 0 137 = some (x.cells A c).toArray := by
  have := rowOf_block h 0 137 (by rw [Crt.len _ _ _ hl]; omega)
  rwa [List.drop_zero, List.take_of_length_le (by rw [Crt.len _ _ _ hl]; omega)] at this
/-- What 'Same' is to come to. -/
def CSame : Prop := ∀ (x y : Crt) (A A' : Option Addr) (c c' : Nat) (w : World), x.L → y.L → CPath w x A c → CPath w y A' c' → x.ids.length ≤ maxLen → y.ids.length ≤ maxLen → Calls Tryd.prog 23 #[.agg (x.cells A c).toArray, .agg (y.cells A' c').toArray] w fun r w' => r = .returned (.bool (decide (x.same y))) ∧ Turn (fun _ => False) w w'
end
end Go.Proofs.YthoaaieiiokcmaaDoor
