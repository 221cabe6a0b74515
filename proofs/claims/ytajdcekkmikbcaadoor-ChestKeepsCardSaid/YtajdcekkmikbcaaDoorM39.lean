/- Merged: The landed Scan and Peek: their contracts. The landed scroll in memory; used, ends, Left, Sync. The landed Put: its contract. The landed wipe: its contract. The landed Blank and Open; what the landed scroll's calls come to. -/
import Derived.Test.YtajdcekkmikbcaaDoorM38
import Derived.BigRegion
import Derived.Deep.RegionHeld3
namespace Go.Proofs.YtajdcekkmikbcaaDoor
section
set_option linter.unusedVariables false
set_option linter.unusedSimpArgs false
open Go.RowKit
set_option maxRecDepth 100000
theorem scanE_zero {n : Nat} {d : Dr} {a m t : Int} (h : scanE n d a m t = 0) : ∃ p q T : Nat, a = (p : Int) ∧ m = (q : Int) ∧ t = (T : Int) ∧ p + q ≤ n ∧ T ≤ mostS ∧ d.off = false := by
  unfold scanE at h
  split at h
  · omega
  · rename_i h1
    split at h
    · omega
    · rename_i h2
      unfold inS at h1
      refine ⟨a.toNat, m.toNat, t.toNat, by omega, by omega, by omega, by omega, by omega, ?_⟩
      cases he : d.off with
      | true => exact absurd he h2
      | false => rfl
theorem readS_max {l : List B8} {r : Rc} (h : readS l = some r) : 64 * r.size ≤ 65536 := by
  obtain ⟨h1, -, -⟩ := readS_size h
  rw [h1]
  unfold readS at h
  split at h
  · cases h
  · rename_i hc
    have := endS_div l
    have h2 := secPad_lt (12 + lenS l)
    have h3 := secPad_div (12 + lenS l)
    unfold endS
    omega
/-- What lies behind a record of the greatest size tells nothing of the first one. -/
theorem readS_front (l : List B8) (k : Nat) (hk : 65536 ≤ 64 * k) : readS (l.take (64 * k)) = readS l := by
  cases hr : readS l with
  | some r =>
    have h1 := readS_max hr
    obtain ⟨-, h2, -⟩ := readS_size hr
    exact readS_local hr (by rw [List.take_take, Nat.min_eq_left (by omega)]) (by rw [List.length_take]; omega)
  | none =>
    cases hr' : readS (l.take (64 * k)) with
    | none => rfl
    | some r =>
      have h1 := readS_max hr'
      obtain ⟨-, h2, -⟩ := readS_size hr'
      rw [List.length_take] at h2
      have := readS_local (l' := l) hr' (by rw [List.take_take, Nat.min_eq_left (by omega)]) (by omega)
      rw [hr] at this
      cases this
theorem cut_front {d : Dr} {n : Nat} (ok : d.Ok n) (p q : Nat) (h : p + q ≤ n) : readS (cutD d p (min q 1024)) = readS (cutD d p q) := by
  by_cases hq : q ≤ 1024
  · rw [Nat.min_eq_left hq]
  · rw [Nat.min_eq_right (by omega), ← cutD_take ok p q 1024 h (by omega)]
    exact readS_front _ _ (by omega)
theorem peekV_at {n : Nat} {d : Dr} {p q : Nat} (h : p + q ≤ n) (hoff : d.off = false) : peekV n d p q = match readS (cutD d p q) with | none => none | some r => if r.n = 0 then some r else none := by
  unfold peekV
  rw [if_neg (by unfold inS; rw [hoff]; simp; omega)]
  simp only [Int.toNat_natCast]
  cases readS (cutD d p q) <;> rfl
theorem peekV_no {n : Nat} {d : Dr} {a m : Int} (h : scanE n d a m 0 ≠ 0) : peekV n d a m = none := by
  unfold peekV
  rw [if_pos]
  unfold scanE at h
  split at h
  · rename_i h1
    unfold mostS at h1
    left
    rcases h1 with h1 | h1 | h1
    · omega
    · omega
    · exact h1
  · split at h
    · rename_i h2; right; exact h2
    · omega
/-- What Peek comes to. -/
def PkPost (P : Option Rc) (w : World) (r : Ending) (w' : World) : Prop := (match P with
      | none => r = .returned (.tuple #[.int .i64 0, .slice none 0 0, .bool false])
      | some x => ∃ A c, r = .returned (.tuple #[.int .i64 (x.t : Int), .slice A x.b.length c, .bool true]) ∧ SlN w' (fun k => k < w.heap.size) A (x.b.map bv) ∧ (A = none → c = 0) ∧ x.b.length ≤ c) ∧ Turn (fun _ => False) w w'
set_option maxHeartbeats 4000000 in
theorem lpeek_any (w : World) (g n : Nat) (d : Dr) (D : Nat → Prop) (a m : Int) (h : LD w g n d D) (hn : n ≤ 8192) (ha : a ≤ 9223372036854775807) :
    Calls Tryd.prog 52 #[.pointer (some ⟨g, 0, none⟩), .int .i64 a, .int .i64 m] w fun r w' => (match peekV n d a m with
      | none => r = .returned (.tuple #[.int .i64 0, .slice none 0 0, .bool false])
      | some x => ∃ A c, r = .returned (.tuple #[.int .i64 (x.t : Int), .slice A x.b.length c, .bool true]) ∧ SlN w' (fun k => k < w.heap.size) A (x.b.map bv) ∧ (A = none → c = 0) ∧ x.b.length ≤ c) ∧ Turn (fun _ => False) w w' := by
  have CK := check_any w g n d D a m 0 h hn ha
  by_cases he : scanE n d a m 0 = 0
  rotate_left 1
  · rw [peekV_no he]
    generalize scanE n d a m 0 = E at CK he ⊢
    have CK := Lib.hid CK
    have de : ((E : Int) != 0) = true := by rw [bne_iff_ne]; omega
    clear he h
    go_enter Tryd.func52, Tryd.ntmps52
    go_wp2_with (go_at_call 71; refine stop ?_)
    unfold Stop
    refine CK.out.mono ?_
    rintro r w1 ⟨rfl, hw⟩
    rw [hw]
    clear hw w1
    go_wp2
    refine bodyPost_ret (results_tmp3 rfl _ _ _) rfl ?_
    exact ⟨rfl, Turn.refl _ _⟩
  rw [he] at CK
  have CK := Lib.hid CK
  obtain ⟨p, q, T, rfl, rfl, -, hpq, -, hoff⟩ := scanE_zero he
  have KR := Lib.hid (show (Tryd.prog.info? 124).map (·.size) = some ZRd.size ∧ ZRd.all (·.oneCell') = true from ⟨by kernel_rfl, by simp [ZRd, Value.oneCell']⟩)
  have PV := peekV_at hpq hoff
  have CF := cut_front h.ok p q hpq
  obtain ⟨q', hq'⟩ : ∃ k, k = min q 1024 := ⟨_, rfl⟩
  have hmin : min (q : Int) 1024 = (q' : Int) := by omega
  rw [← hq'] at CF
  rw [← CF] at PV
  have hq1 : q' ≤ q := by omega
  have hcl := cutD_len h.ok p q' (by omega)
  have RD := lread_st g n p q' d D w h hoff (by omega) hn
  obtain ⟨l, hl⟩ : ∃ l, l = cutD d p q' := ⟨_, rfl⟩
  rw [← hl] at hcl RD PV
  obtain ⟨P, hP⟩ : ∃ P, P = peekV n d p q := ⟨_, rfl⟩
  rw [← hP] at PV ⊢
  have HPV := Lib.hid PV
  clear PV
  change Calls Tryd.prog 52 #[.pointer (some ⟨g, 0, none⟩), .int .i64 (p : Int), .int .i64 (q : Int)] w (PkPost P w)
  have RD := Lib.hid RD
  have HCL := Lib.hid hcl
  have HG := Lib.hid h.glob
  clear he h hl hcl hP hoff CF hq'
  go_enter Tryd.func52, Tryd.ntmps52
  go_wp2_with (go_at_call 71; refine stop ?_)
  unfold Stop
  refine CK.out.mono ?_
  rintro r w1 ⟨rfl, hw⟩
  rw [hw]
  clear hw w1 CK
  go_wp2_with (go_at_call 73; refine stop ?_)
  unfold Stop
  refine RD.out.mono ?_
  rintro r w1 ⟨A1, c1, rfl, o1, t1⟩
  obtain ⟨A1', c1', e1, s1, -, k1, a1⟩ := own_sl o1
  injection e1 with e1 e2 e3
  subst e1 e3
  have LF := lfirst_any A1 c1 l w1 (glob_turn HG.out t1) s1 a1 (by rw [HCL.out]; exact k1) (by rw [HCL.out]; omega)
  rw [HCL.out] at LF
  have LF := Lib.hid LF
  have T1 := Lib.hid t1
  clear RD o1 t1 s1 k1 a1 e2
  go_wp2_with (go_at_call 72; refine stop ?_)
  unfold Stop
  refine LF.out.mono ?_
  rintro r wa hp
  unfold LfPost at hp
  clear LF
  cases hr : readS l with
  | none =>
    rw [hr] at hp
    obtain ⟨rfl, ta⟩ := hp
    have HP := Lib.hid (show P = none by rw [HPV.out, hr])
    clear hr HPV
    have HA := Lib.hid (show (wa.alloc (.cells ZRd 124)).heap[wa.heap.size]? = some (.cells ZRd 124 (0, 0)) from heap_alloc_new _ _)
    go_upto_region 4 with (refine wpList_store_row rfl _ _ _ rfl wa.heap.size ZRd rfl rfl 124 ZRd HA.out KR.out.1 rfl KR.out.2 ?_)
    obtain ⟨wb, hw⟩ : ∃ w', w' = (wa.alloc (.cells ZRd 124)).setRow wa.heap.size ZRd := ⟨_, rfl⟩
    have tt : Turn (fun _ => False) w1 wb := by rw [hw]; exact ta.trans (((Turn.refl (fun _ => False) wa).alloc _).setRow _ _ (fun h => by omega)) (fun _ _ h => h)
    obtain ⟨Q, hQ⟩ : ∃ Q, Q = wa.heap.size := ⟨_, rfl⟩
    change Code.wp _ _ _ _ ((wa.alloc (.cells ZRd 124)).setRow wa.heap.size ZRd)
    rw [← hw, ← hQ]
    have TT := Lib.hid (T1.out.trans tt (fun _ _ h => h))
    clear hw hQ HA ta tt
    go_wp2
    refine bodyPost_ret (results_tmp3 rfl _ _ _) rfl ?_
    show PkPost P w _ _
    rw [HP.out]
    exact ⟨rfl, TT.out⟩
  | some x =>
    rw [hr] at hp
    obtain ⟨⟨Ab, cb, rfl, sb, hab, hcb⟩, ta⟩ := hp
    have HP := Lib.hid (show P = if x.n = 0 then some x else none by rw [HPV.out, hr])
    obtain ⟨xt, hxt⟩ : ∃ y, y = x.t := ⟨_, rfl⟩
    obtain ⟨xn, hxn⟩ : ∃ y, y = x.n := ⟨_, rfl⟩
    obtain ⟨lb, hlb⟩ : ∃ y, y = x.b.length := ⟨_, rfl⟩
    obtain ⟨zz, hzz⟩ : ∃ y, y = 64 * x.size := ⟨_, rfl⟩
    rw [← hxt, ← hxn, ← hlb, ← hzz]
    rw [← hlb] at hcb
    have HXT := Lib.hid hxt
    have HXN := Lib.hid hxn
    have HLB := Lib.hid hlb
    have AB := Lib.hid (And.intro hab hcb)
    obtain ⟨CR, hCR⟩ : ∃ CR : Array Value, CR = #[.int .i64 (xt : Int), .int .i64 (xn : Int), .slice Ab lb cb] := ⟨_, rfl⟩
    have KC := Lib.hid (show (Tryd.prog.info? 124).map (·.size) = some CR.size ∧ ZRd.size = CR.size ∧ CR.all (·.oneCell') = true by rw [hCR]; exact ⟨by kernel_rfl, rfl, by simp [Value.oneCell']⟩)
    rw [← hCR]
    have HCR := Lib.hid hCR
    clear hr hxt hxn hlb hCR hab hcb hzz HPV
    have HA := Lib.hid (show (wa.alloc (.cells ZRd 124)).heap[wa.heap.size]? = some (.cells ZRd 124 (0, 0)) from heap_alloc_new _ _)
    go_upto_region 4 with (refine wpList_store_row rfl _ _ _ rfl wa.heap.size CR rfl rfl 124 ZRd HA.out KC.out.1 KC.out.2.1 KC.out.2.2 ?_)
    obtain ⟨wb, hw⟩ : ∃ w', w' = (wa.alloc (.cells ZRd 124)).setRow wa.heap.size CR := ⟨_, rfl⟩
    have tt : Turn (fun _ => False) w1 wb := by rw [hw]; exact ta.trans (((Turn.refl (fun _ => False) wa).alloc _).setRow _ _ (fun h => by omega)) (fun _ _ h => h)
    obtain ⟨Q, hQ⟩ : ∃ Q, Q = wa.heap.size := ⟨_, rfl⟩
    have HQ := Lib.hid (show wb.heap[Q]? = some (.cells CR 124 (0, 0)) from by rw [hw, hQ]; exact setRow_heap _ _ _ _ _ _ HA.out)
    change Code.wp _ _ _ _ ((wa.alloc (.cells ZRd 124)).setRow wa.heap.size CR)
    rw [← hw, ← hQ]
    have TT := Lib.hid (T1.out.trans tt (fun _ _ h => h))
    have tz : Turn (fun _ => False) wa wb := by rw [hw]; exact ((Turn.refl (fun _ => False) wa).alloc _).setRow _ _ (fun h => by omega)
    have SB := Lib.hid (show SlN wb (fun k => k < w.heap.size) Ab (x.b.map bv) from (sb.turn tz (N' := fun k => k < w1.heap.size) (fun _ h => h.elim) (fun _ _ h => h)).turn (Turn.refl (fun _ => False) _) (fun _ h => h.elim) (fun i _ h => by have h' : i < w.heap.size := h; have := T1.out.size; show i < w1.heap.size; omega))
    clear hw hQ HA ta tt sb tz
    have k0 : wb.cell? ⟨Q, 0, none⟩ = some (.int .i64 (xt : Int)) := by rw [cell_of_row _ _ _ _ _ _ HQ.out, HCR.out]; rfl
    have k1 : wb.cell? ⟨Q, 1, none⟩ = some (.int .i64 (xn : Int)) := by rw [cell_of_row _ _ _ _ _ _ HQ.out, HCR.out]; rfl
    have k2 : wb.cell? ⟨Q, 2, none⟩ = some (.slice Ab lb cb) := by rw [cell_of_row _ _ _ _ _ _ HQ.out, HCR.out]; rfl
    by_cases hx0 : xn = 0
    rotate_left 1
    · have HP0 := Lib.hid (show P = none by rw [HP.out, if_neg (by rw [← HXN.out]; exact hx0)])
      have dn : ((xn : Int) != 0) = true := by rw [bne_iff_ne]; omega
      clear hx0 HP
      go_wp2
      refine bodyPost_ret (results_tmp3 rfl _ _ _) rfl ?_
      show PkPost P w _ _
      rw [HP0.out]
      exact ⟨rfl, TT.out⟩
    · have HP0 := Lib.hid (show P = some x by rw [HP.out, if_pos (by rw [← HXN.out]; exact hx0)])
      have dn : ((xn : Int) != 0) = false := by rw [bne_eq_false_iff_eq]; omega
      clear hx0 HP
      go_upto_region 6 with fail
      go_region
      obtain ⟨wc, hwc⟩ : ∃ wc, wc = wb.drew := ⟨_, rfl⟩
      have td : Turn (fun _ => False) wb wc := by rw [hwc]; exact (Turn.refl _ _).drew
      rw [← hwc]
      go_wp2
      refine bodyPost_ret (results_tmp3 rfl _ _ _) rfl ?_
      show PkPost P w _ _
      rw [HP0.out]
      refine ⟨⟨Ab, cb, by rw [← HXT.out, ← HLB.out]; rfl, SB.out.turn td (fun _ h => h.elim) (fun _ _ h => h), AB.out.1, by rw [← HLB.out]; exact AB.out.2⟩, TT.out.trans td (fun _ _ h => h)⟩
end
section
set_option linter.unusedVariables false
set_option linter.unusedSimpArgs false
open Go.RowKit
set_option maxRecDepth 100000
/-- A scroll's block. -/
def SBox (w : World) (s : Nat) (P : Value) (t n p l : Int) : Prop := w.heap[s]? = some (.cells #[P, .int .i64 t, .int .i64 n, .int .i64 p, .int .i64 l] 81 (0, 0))
section
variable {w w' : World} {s : Nat} {P : Value} {t n p l : Int}
theorem SBox.cells (h : SBox w s P t n p l) : w.cell? ⟨s, 0, none⟩ = some P ∧ w.cell? ⟨s, 1, none⟩ = some (.int .i64 t) ∧ w.cell? ⟨s, 2, none⟩ = some (.int .i64 n) ∧ w.cell? ⟨s, 3, none⟩ = some (.int .i64 p) ∧ w.cell? ⟨s, 4, none⟩ = some (.int .i64 l) :=
  ⟨by rw [cell_of_row w s 0 _ _ _ h]; rfl, by rw [cell_of_row w s 1 _ _ _ h]; rfl, by rw [cell_of_row w s 2 _ _ _ h]; rfl, by rw [cell_of_row w s 3 _ _ _ h]; rfl, by rw [cell_of_row w s 4 _ _ _ h]; rfl⟩
theorem SBox.frozen (h : SBox w s P t n p l) (o : Nat) : w.frozen? ⟨s, o, none⟩ = false := frozen_of_row w s o _ _ h
theorem SBox.turn {S : Nat → Prop} (h : SBox w s P t n p l) (k : Turn S w w') (hS : ¬ S s) : SBox w' s P t n p l := k.heap h hS
theorem SBox.set0 (h : SBox w s P t n p l) (v : Value) : SBox (w.setCell ⟨s, 0, none⟩ v) s v t n p l := by
  unfold SBox; rw [heap_setCell_same w s 0 _ _ _ h]; rfl
theorem SBox.set2 (h : SBox w s P t n p l) (x : Int) : SBox (w.setCell ⟨s, 2, none⟩ (.int .i64 x)) s P t x p l := by
  unfold SBox; rw [heap_setCell_same w s 2 _ _ _ h]; rfl
theorem SBox.set3 (h : SBox w s P t n p l) (x : Int) : SBox (w.setCell ⟨s, 3, none⟩ (.int .i64 x)) s P t n x l := by
  unfold SBox; rw [heap_setCell_same w s 3 _ _ _ h]; rfl
theorem SBox.set4 (h : SBox w s P t n p l) (x : Int) : SBox (w.setCell ⟨s, 4, none⟩ (.int .i64 x)) s P t n p x := by
  unfold SBox; rw [heap_setCell_same w s 4 _ _ _ h]; rfl
theorem SBox.lt (h : SBox w s P t n p l) : s < w.heap.size := lt_of_block h
end
/-- The landed scroll over its own block. -/
def SBp (w : World) (s g : Nat) (sc : Scr) (E : Nat → Prop) : Prop := 2 ≤ s ∧ (∀ k, E k ↔ k = s) ∧ ∃ P t n p l, SBox w s P t n p l ∧ (sc.gone = true → P = .pointer none) ∧ (sc.gone = false → P = .pointer (some ⟨g, 0, none⟩) ∧ t = sc.turn ∧ n = sc.n ∧ p = sc.pos ∧ l = ((sc.fin - sc.pos : Nat) : Int))
theorem sbp_keep {w w' : World} {s g : Nat} {sc : Scr} {E S : Nat → Prop} (h : SBp w s g sc E) (t : Turn S w w') (hE : ∀ k, E k → ¬ S k) : SBp w' s g sc E := by
  obtain ⟨h1, h2, P, tt, n, p, l, h3, h4⟩ := h
  exact ⟨h1, h2, P, tt, n, p, l, h3.turn t (hE s ((h2 s).2 rfl)), h4⟩
theorem used_no (s : Nat) (t n p l : Int) (w : World) (h : SBox w s (.pointer none) t n p l) : Calls Tryd.prog 55 #[.pointer (some ⟨s, 0, none⟩)] w fun r w' => r = .returned (.bool false) ∧ w' = w := by
  obtain ⟨c0, -, -, -, -⟩ := h.cells
  clear h
  go_enter Tryd.func55, Tryd.ntmps55
  go_wp2
  go_ret
  exact ⟨rfl, rfl⟩
theorem used_yes (s g : Nat) (t n p l : Int) (w : World) (h : SBox w s (.pointer (some ⟨g, 0, none⟩)) t n p l) : Calls Tryd.prog 55 #[.pointer (some ⟨s, 0, none⟩)] w fun r w' => r = .returned (.bool true) ∧ w' = w := by
  obtain ⟨c0, -, -, -, -⟩ := h.cells
  clear h
  go_enter Tryd.func55, Tryd.ntmps55
  go_wp2
  go_ret
  exact ⟨rfl, rfl⟩
theorem ends_any (s : Nat) (P : Value) (t n p l x : Int) (w : World) (h : SBox w s P t n p l) : Calls Tryd.prog 58 #[.pointer (some ⟨s, 0, none⟩), .int .i64 x] w fun r w' => r = .returned (.int .i64 x) ∧ SBox w' s (.pointer none) t n p l ∧ Turn (fun k => k = s) w w' := by
  obtain ⟨c0, -, -, -, -⟩ := h.cells
  have z0 := h.frozen 0
  have H := Lib.hid h
  clear h
  go_enter Tryd.func58, Tryd.ntmps58
  go_wp2
  go_ret
  exact ⟨rfl, H.out.set0 _, set_turn13 _ _ _ _⟩
theorem lleft_any (w : World) (g s n : Nat) (d : Dr) (sc : Scr) (D E : Nat → Prop) (h : Ats SBp w g s n d sc D E) (hg : sc.gone = false) (h1 : sc.pos ≤ sc.fin) (h2 : sc.fin ≤ n) (hn : n ≤ 8192) :
    Calls Tryd.prog 28 #[.pointer (some ⟨s, 0, none⟩)] w fun r w' => r = .returned (.int .i64 ((sc.fin - sc.pos : Nat) : Int)) ∧ w' = w := by
  obtain ⟨-, -, P, tt, nn, p, l, hb, -, hl⟩ := h.sb
  obtain ⟨rfl, -, -, -, rfl⟩ := hl hg
  obtain ⟨-, -, -, -, c4⟩ := hb.cells
  generalize ((sc.fin - sc.pos : Nat) : Int) = L at *
  clear h hb hl h1 h2
  go_enter Tryd.func28, Tryd.ntmps28
  go_wp2
  go_ret
  exact ⟨rfl, rfl⟩
theorem sbp_gone {w : World} {s g : Nat} {sc : Scr} {E : Nat → Prop} {t n p l : Int} (h1 : 2 ≤ s) (h2 : ∀ k, E k ↔ k = s) (h : SBox w s (.pointer none) t n p l) (hg : sc.gone = true) : SBp w s g sc E :=
  ⟨h1, h2, _, t, n, p, l, h, fun _ => rfl, fun e => by rw [hg] at e; cases e⟩
set_option maxHeartbeats 4000000 in
theorem lsyncP_any (w : World) (g s n : Nat) (d : Dr) (sc : Scr) (D E : Nat → Prop) (h : Ats SBp w g s n d sc D E) :
    Calls Tryd.prog 42 #[.pointer (some ⟨s, 0, none⟩)] w fun r w' => ∃ D' sc', r = .returned (.int .i64 (sc.syncE d : Int)) ∧ Ats SBp w' g s n (sc.syncD d) sc' D' E ∧ sc.SyncS d sc' ∧ (∀ k, D' k → Dn D w w' k) ∧ Turn (fun k => D k ∨ E k) w w' := by
  obtain ⟨h2, hE, P, tt, nn, p, l, hb, hgn, hl⟩ := h.sb
  cases hg : sc.gone with
  | true =>
    obtain rfl := hgn hg
    have e1 : sc.syncE d = 20 := by unfold Scr.syncE; rw [if_pos hg]
    have e2 : sc.syncD d = d := by unfold Scr.syncD; rw [if_pos hg]
    have e3 : sc.SyncS d sc := by unfold Scr.SyncS; rw [e1, if_neg (by decide)]; exact hg
    rw [e1, e2]
    have US := Lib.hid (used_no s tt nn p l w hb)
    have H := Lib.hid h
    have E3 := Lib.hid e3
    clear h hb hl hgn hg e1 e2 e3
    go_enter Tryd.func42, Tryd.ntmps42
    go_wp2_with (go_at_call 55; refine stop ?_)
    unfold Stop
    refine US.out.mono ?_
    rintro r w1 ⟨rfl, hw⟩
    rw [hw]
    clear hw w1
    go_wp2
    go_ret
    exact ⟨D, sc, rfl, H.out, E3.out, fun k hk => .inl hk, Turn.refl _ _⟩
  | false =>
    obtain ⟨rfl, rfl, rfl, rfl, rfl⟩ := hl hg
    have e1 : sc.syncE d = d.syncE := by unfold Scr.syncE; rw [if_neg (by rw [hg]; simp)]
    have e2 : sc.syncD d = d.sync := by unfold Scr.syncD; rw [if_neg (by rw [hg]; simp)]
    rw [e1, e2]
    have US := Lib.hid (used_yes s g _ _ _ _ w hb)
    have SY := Lib.hid h.ld.sync
    obtain ⟨c0, -, -, -, -⟩ := hb.cells
    have H := Lib.hid h
    have HB := Lib.hid hb
    have HE := Lib.hid hE
    have HG := Lib.hid hg
    have h2s := h2
    have hsD : ¬ D s := h.dj s ((hE s).2 rfl)
    have E1 := Lib.hid e1
    obtain ⟨er, her⟩ : ∃ e, e = d.syncE := ⟨_, rfl⟩
    rw [← her] at SY ⊢
    have HER := Lib.hid her
    clear h hb hl hgn hg e1 e2 hE her
    go_enter Tryd.func42, Tryd.ntmps42
    go_wp2_with (go_at_call 55; refine stop ?_)
    unfold Stop
    refine US.out.mono ?_
    rintro r w1 ⟨rfl, hw⟩
    rw [hw]
    clear hw w1 US
    go_wp2_with (go_at_call 59; refine stop ?_)
    unfold Stop
    refine SY.out.mono ?_
    rintro r w1 ⟨rfl, ld1, t1⟩
    have B1 := Lib.hid (HB.out.turn t1 hsD)
    have L1 := Lib.hid ld1
    have T1 := Lib.hid t1
    clear SY c0 ld1 t1
    by_cases h0 : er = 0
    · have d0 : ((er : Int) != 0) = false := by rw [bne_eq_false_iff_eq]; omega
      have H0 := Lib.hid h0
      clear h0
      go_wp2
      go_ret
      refine ⟨D, sc, by rw [H0.out]; rfl, ⟨L1.out, ⟨h2s, HE.out, _, _, _, _, _, B1.out, fun e => by rw [HG.out] at e; (cases e), fun _ => ⟨rfl, rfl, rfl, rfl, rfl⟩⟩, H.out.dj, fun k hk => Nat.lt_of_lt_of_le (H.out.lt k hk) T1.out.size⟩, ?_, fun k hk => .inl hk, T1.out.mono (fun _ _ h => .inl h)⟩
      unfold Scr.SyncS
      rw [if_pos (by rw [E1.out, ← HER.out]; exact H0.out)]
    · have d0 : ((er : Int) != 0) = true := by rw [bne_iff_ne]; omega
      have EN := Lib.hid (ends_any s _ _ _ _ _ (er : Int) w1 B1.out)
      have H0 := Lib.hid h0
      clear h0
      go_wp2_with (go_at_call 58; refine stop ?_)
      unfold Stop
      refine EN.out.mono ?_
      rintro r w2 ⟨rfl, b2, t2⟩
      have B2 := Lib.hid b2
      have T2 := Lib.hid t2
      clear EN b2 t2
      go_wp2
      go_ret
      refine ⟨D, ⟨sc.pos, sc.fin, sc.turn, sc.n, true⟩, rfl, ⟨L1.out.keep T2.out (fun k hk e => by have e' : k = s := e; subst e'; exact hsD hk) (fun k e => by have e' : k = s := e; omega), sbp_gone h2s HE.out B2.out rfl, H.out.dj, fun k hk => Nat.lt_of_lt_of_le (H.out.lt k hk) (Nat.le_trans T1.out.size T2.out.size)⟩, ?_, fun k hk => .inl hk, (T1.out.mono (fun _ _ h => .inl h)).trans T2.out (fun k _ e => .inr ((HE.out k).2 e))⟩
      unfold Scr.SyncS
      rw [if_neg (by rw [E1.out, ← HER.out]; exact H0.out)]
end
section
set_option linter.unusedVariables false
set_option linter.unusedSimpArgs false
open Go.RowKit
set_option maxRecDepth 100000
theorem chunks_drop : ∀ (i K : Nat) (l : List B8), i < K → chunks (K - i) (l.drop (64 * i)) = (l.drop (64 * i)).take 64 :: chunks (K - (i + 1)) (l.drop (64 * (i + 1)))
  | i, K, l, h => by
    obtain ⟨j, hj⟩ : ∃ j, K - i = j + 1 := ⟨K - i - 1, by omega⟩
    rw [hj, show K - (i + 1) = j by omega]
    show _ :: chunks j ((l.drop (64 * i)).drop 64) = _
    rw [List.drop_drop, show 64 * i + 64 = 64 * (i + 1) by omega]
theorem putR_no {d : Dr} {a : Nat} {s : Sec} {l : List Sec} (h : d.writeE (a : Int) s ≠ 0) : putR d a (s :: l) = (d.write (a : Int) s, d.writeE (a : Int) s) := by
  rw [putR, if_pos h]
theorem putR_yes {d : Dr} {a : Nat} {s : Sec} {l : List Sec} (h : d.writeE (a : Int) s = 0) : putR d a (s :: l) = putR (d.write (a : Int) s) (a + 1) l := by
  rw [putR, if_neg (by rw [h]; simp)]
theorem write_W_le (d : Dr) (a : Int) (s : Sec) : (d.write a s).W.length ≤ d.W.length + 1 := by
  unfold Dr.write
  split
  · omega
  · split
    · simp [Dr.burn]
    · simp
theorem formE_or (t n : Nat) (b : List B8) (h : formE13 (t : Int) (n : Int) b = 0) : (formV13 (t : Int) (n : Int) b).length = 64 * ((formV13 (t : Int) (n : Int) b).length / 64) ∧ (formV13 (t : Int) (n : Int) b).length / 64 ≤ 1024 := by
  obtain ⟨h1, -, -, h4⟩ := formV_ok h
  have := formS_div t n b
  have h5 := formS_length t n b
  have h6 := secPad_lt (12 + (fldS t n b).length)
  have h7 := secPad_div (12 + (fldS t n b).length)
  rw [h1]; omega
theorem formV_zero (t n : Int) (b : List B8) (h : formE13 t n b ≠ 0) : formV13 t n b = [] := by unfold formV13; rw [if_neg h]
theorem sln_at {w : World} {N : Nat → Prop} {A : Option Addr} {l : List B8} (h : SlN w N A (l.map bv)) (n : Nat) : SlN w N (A.map (·.add n)) ((l.drop n).map bv) := fun j u hu => by
  rw [List.map_drop, List.getElem?_drop] at hu
  obtain ⟨ad, rfl, hb, hcl⟩ := h (n + j) u hu
  exact ⟨ad.add n, rfl, by rw [add_block]; exact hb, by rw [add_add]; exact hcl⟩
theorem dn_trans {D D1 D2 : Nat → Prop} {w w1 w2 : World} (h1 : ∀ k, D1 k → Dn D w w1 k) (h2 : ∀ k, D2 k → Dn D1 w1 w2 k) (hs : w.heap.size ≤ w1.heap.size) (hs2 : w1.heap.size ≤ w2.heap.size) : ∀ k, D2 k → Dn D w w2 k := fun k hk => by
  rcases h2 k hk with h | h
  · rcases h1 k h with h | h
    · exact .inl h
    · exact .inr ⟨h.1, Nat.lt_of_lt_of_le h.2 hs2⟩
  · exact .inr ⟨Nat.le_trans hs h.1, h.2⟩
set_option maxHeartbeats 16000000 in
theorem lput_any (w : World) (g s n : Nat) (d : Dr) (sc : Scr) (D E : Nat → Prop) (A : Option Addr) (c : Nat) (b : List B8) (h : Ats SBp w g s n d sc D E) (hn : n ≤ 8192) (hok : sc.gone = false → sc.turn ≤ mostS ∧ sc.pos ≤ sc.fin ∧ sc.fin ≤ n ∧ sc.n ≤ mostS) (hs : SlN w (fun k => D k ∨ E k) A (b.map bv)) (hA : A = none → c = 0) (hc : b.length ≤ c) (hlen : b.length ≤ 900000) (hW : d.W.length + 1024 < 10000) :
    Calls Tryd.prog 39 #[.pointer (some ⟨s, 0, none⟩), .slice A b.length c] w fun r w' => ∃ D' sc', r = .returned (.int .i64 (sc.putE d b : Int)) ∧ Ats SBp w' g s n (sc.putD d b) sc' D' E ∧ sc.PutS d b sc' ∧ (∀ k, D' k → Dn D w w' k) ∧ Turn (fun k => D k ∨ E k) w w' := by
  obtain ⟨h2, hE, P, tt, nn, p, l, hb, hgn, hl⟩ := h.sb
  cases hg : sc.gone with
  | true =>
    obtain rfl := hgn hg
    have ep : sc.pre b = 20 := by unfold Scr.pre; rw [if_pos hg]
    have e1 : sc.putE d b = 20 := by unfold Scr.putE; rw [if_pos (by rw [ep]; decide), ep]
    have e2 : sc.putD d b = d := by unfold Scr.putD; rw [if_pos (by rw [ep]; decide)]
    have e3 : sc.PutS d b sc := by unfold Scr.PutS; rw [if_pos (by rw [ep]; decide)]
    rw [e1, e2]
    have US := Lib.hid (used_no s tt nn p l w hb)
    have H := Lib.hid h
    have E3 := Lib.hid e3
    clear h hb hl hgn hg e1 e2 e3 ep hs hok
    go_enter Tryd.func39, Tryd.ntmps39
    go_wp2_with (go_at_call 55; refine stop ?_)
    unfold Stop
    refine US.out.mono ?_
    rintro r w1 ⟨rfl, hw⟩
    rw [hw]
    clear hw w1
    go_wp2
    go_ret
    exact ⟨D, sc, rfl, H.out, E3.out, fun k hk => .inl hk, Turn.refl _ _⟩
  | false =>
    obtain ⟨rfl, rfl, rfl, rfl, rfl⟩ := hl hg
    obtain ⟨ot, op, of, on⟩ := hok hg
    obtain ⟨c0, c1, c2, c3, c4⟩ := hb.cells
    have hsD : ¬ D s := h.dj s ((hE s).2 rfl)
    have US := Lib.hid (used_yes s g _ _ _ _ w hb)
    have FM := lform_any (sc.turn : Int) (sc.n : Int) A c b w.drew (glob_turn h.ld.glob ((Turn.refl _ w).drew)) (Bts.of_sl (hs.turn (N' := fun _ => False) ((Turn.refl (fun _ => False) w).drew) (fun _ h => h.elim) (fun _ _ h => h.elim)).sl) hA hc hlen
    obtain ⟨fe, hfe⟩ : ∃ e, e = formE13 (sc.turn : Int) (sc.n : Int) b := ⟨_, rfl⟩
    obtain ⟨F, hF⟩ : ∃ e, e = formV13 (sc.turn : Int) (sc.n : Int) b := ⟨_, rfl⟩
    have hFE : fe = 0 → F.length = 64 * (F.length / 64) ∧ F.length / 64 ≤ 1024 := fun e => by rw [hF]; exact formE_or _ _ _ (by rw [← hfe]; exact e)
    have hF0 : fe ≠ 0 → F = [] := fun e => by rw [hF]; exact formV_zero _ _ _ (by rw [← hfe]; exact e)
    have hpre : sc.pre b = if fe ≠ 0 then fe else if sc.fin < sc.pos + F.length / 64 then 18 else 0 := by
      unfold Scr.pre Scr.formE Scr.form secsOf
      rw [if_neg (by rw [hg]; simp), hfe, hF]
    have hall : sc.all d b = putR d sc.pos (chunks (F.length / 64) F) := by unfold Scr.all Scr.form secsOf; rw [hF]
    rw [← hfe, ← hF] at FM
    have FM := Lib.hid FM
    have H := Lib.hid h
    have HB := Lib.hid hb
    have HE := Lib.hid hE
    have HG := Lib.hid hg
    have HPRE := Lib.hid hpre
    have HALL := Lib.hid hall
    have HFE := Lib.hid hFE
    have HFF := Lib.hid (show secsOf (sc.form b) = F.length / 64 by unfold Scr.form secsOf; rw [hF])
    have HF0 := Lib.hid hF0
    obtain ⟨PE, hPE⟩ : ∃ e, e = sc.putE d b := ⟨_, rfl⟩
    obtain ⟨PD, hPD⟩ : ∃ e, e = sc.putD d b := ⟨_, rfl⟩
    rw [← hPE, ← hPD]
    have HPE := Lib.hid hPE
    have HPD := Lib.hid hPD
    obtain ⟨lb, hlb⟩ : ∃ e, e = b.length := ⟨_, rfl⟩
    rw [← hlb] at FM hlen hc ⊢
    obtain ⟨m, hm⟩ : ∃ m, m = F.length := ⟨_, rfl⟩
    rw [← hm] at FM
    have HM := Lib.hid hm
    have OT := Lib.hid (And.intro ot (And.intro op (And.intro of on)))
    clear h hb hl hgn hg hE hpre hall hFE hF0 hPE hPD hs hok hfe hF hlb hm hA
    go_enter Tryd.func39, Tryd.ntmps39
    go_wp2_with (go_at_call 55; refine stop ?_)
    unfold Stop
    refine US.out.mono ?_
    rintro r w1 ⟨rfl, hw⟩
    rw [hw]
    clear hw w1 US
    go_upto_region 3 with fail
    go_region_held3 (fun w' => w'.cell? ⟨s, 1, none⟩ = some (.int .i64 (sc.turn : Int)) ∧ w'.cell? ⟨s, 2, none⟩ = some (.int .i64 (sc.n : Int)))
      (first | exact ⟨c1, c2⟩ | exact ⟨k1, k2⟩)
      (first
        | (go_at_call 43; refine FM.out.mono ?_; clear FM; rintro r w3 ⟨A3, cc3, rfl, s3, a3, l3, t3⟩; have S3 := Lib.hid s3; have A3C := Lib.hid (And.intro a3 l3); have T3 := Lib.hid t3; have k1 := t3.cell (show w.drew.cell? _ = _ from c1) (fun h => h); have k2 := t3.cell (show w.drew.cell? _ = _ from c2) (fun h => h); clear s3 a3 l3 t3))
    have B3 := Lib.hid (HB.out.turn (((Turn.refl (fun _ => False) w).drew).trans T3.out (fun _ _ h => h)) (fun h => h))
    have L3 := Lib.hid (H.out.ld.quiet (((Turn.refl (fun _ => False) w).drew).trans T3.out (fun _ _ h => h)))
    have Q3 := Lib.hid (show Turn (fun _ => False) w w3 from ((Turn.refl (fun _ => False) w).drew).trans T3.out (fun _ _ h => h))
    have HS := Lib.hid (show s < w.heap.size from HB.out.lt)
    have SF3 := Lib.hid (show SlN w3 D A3 (F.map bv) from S3.out.turn (Turn.refl (fun _ => False) _) (fun _ h => h.elim) (fun k _ hk => H.out.ld.lt k hk))
    have AT3 := Lib.hid (show Ats SBp w3 g s n d sc D E from ⟨L3.out, sbp_keep H.out.sb Q3.out (fun _ _ h => h), H.out.dj, fun k hk => Nat.lt_of_lt_of_le (H.out.lt k hk) Q3.out.size⟩)
    clear k1 k2 c0 c1 c2 c3 c4 T3 S3
    by_cases hf0 : fe = 0
    rotate_left 1
    · have dfe : ((fe : Int) != 0) = true := by rw [bne_iff_ne]; omega
      have ep : sc.pre b = fe := by rw [HPRE.out, if_pos hf0]
      have e1 : PE = fe := by rw [HPE.out]; unfold Scr.putE; rw [if_pos (by rw [ep]; exact hf0), ep]
      have e2 : PD = d := by rw [HPD.out]; unfold Scr.putD; rw [if_pos (by rw [ep]; exact hf0)]
      have E3 := Lib.hid (show sc.PutS d b sc by unfold Scr.PutS; rw [if_pos (by rw [ep]; exact hf0)])
      have E1 := Lib.hid e1
      have E2 := Lib.hid e2
      clear hf0 ep e1 e2
      go_wp2
      go_ret
      exact ⟨D, sc, by rw [E1.out]; rfl, by rw [E2.out]; exact AT3.out, E3.out, fun k hk => .inl hk, Q3.out.mono (fun _ _ h => h.elim)⟩
    obtain ⟨hm64, hk10⟩ := HFE.out hf0
    have dfe : ((fe : Int) != 0) = false := by rw [bne_eq_false_iff_eq]; omega
    obtain ⟨K, hK⟩ : ∃ K, K = F.length / 64 := ⟨_, rfl⟩
    rw [← hK] at hm64 hk10
    have hmK : m = 64 * K := by rw [HM.out]; exact hm64
    have SI := sectorsIn_any A3 m cc3 (by omega) w3
    rw [show m / 64 = K by omega] at SI
    have SI := Lib.hid SI
    have HK := Lib.hid hK
    have FE0 := Lib.hid hf0
    have FL := Lib.hid hm64
    have HMK := Lib.hid hmK
    have hmb : m ≤ 65536 := by omega
    clear hm64 hK hf0 hmK
    go_wp2_with (go_at_call 56; refine stop ?_)
    unfold Stop
    refine SI.out.mono ?_
    rintro r w4 ⟨rfl, hw⟩
    rw [hw]
    clear hw w4 SI
    obtain ⟨lf, hlf⟩ : ∃ l, l = sc.fin - sc.pos := ⟨_, rfl⟩
    have B3' := B3.out
    rw [← hlf] at B3'
    have B3 := Lib.hid B3'
    clear B3'
    obtain ⟨c0, c1, c2, c3, c4⟩ := B3.out.cells
    have hlf9 : lf ≤ 8192 := by omega
    have HLF := Lib.hid hlf
    by_cases hfull : lf < K
    · have dl : decide ((lf : Int) < (K : Int)) = true := decide_eq_true (by omega)
      have dl' : decide (lf < K) = true := decide_eq_true hfull
      have ep : sc.pre b = 18 := by rw [HPRE.out, if_neg (by rw [FE0.out]; simp), ← HK.out, if_pos (by omega)]
      have e1 : PE = 18 := by rw [HPE.out]; unfold Scr.putE; rw [if_pos (by rw [ep]; decide), ep]
      have e2 : PD = d := by rw [HPD.out]; unfold Scr.putD; rw [if_pos (by rw [ep]; decide)]
      have E3 := Lib.hid (show sc.PutS d b sc by unfold Scr.PutS; rw [if_pos (by rw [ep]; decide)])
      have E1 := Lib.hid e1
      have E2 := Lib.hid e2
      clear ep e1 e2 hfull hlf
      go_wp2
      go_ret
      exact ⟨D, sc, by rw [E1.out]; rfl, by rw [E2.out]; exact AT3.out, E3.out, fun k hk => .inl hk, Q3.out.mono (fun _ _ h => h.elim)⟩
    have dl : decide ((lf : Int) < (K : Int)) = false := decide_eq_false (by omega)
    have dl' : decide (lf < K) = false := decide_eq_false hfull
    have ep : sc.pre b = 0 := by rw [HPRE.out, if_neg (by rw [FE0.out]; simp), ← HK.out, if_neg (by omega)]
    have hAL := HALL.out
    rw [← HK.out] at hAL
    have e1 : PE = (putR d sc.pos (chunks K F)).2 := by rw [HPE.out]; unfold Scr.putE; rw [if_neg (by rw [ep]; simp), hAL]
    have e2 : PD = (putR d sc.pos (chunks K F)).1 := by rw [HPD.out]; unfold Scr.putD; rw [if_neg (by rw [ep]; simp), hAL]
    have E3 := Lib.hid (show ∀ s', (PE = 0 → s' = ⟨sc.pos + K, sc.fin, sc.turn, sc.n + 1, false⟩) → (PE ≠ 0 → s'.gone = true) → sc.PutS d b s' by
      intro s' h1 h2
      unfold Scr.PutS
      rw [if_neg (by rw [ep]; simp), hAL, ← e1, HFF.out, ← HK.out]
      by_cases h : PE = 0
      · rw [if_pos h]; exact h1 h
      · rw [if_neg h]; exact h2 h)
    have E1 := Lib.hid e1
    have E2 := Lib.hid e2
    have hKn : sc.pos + K ≤ n := by omega
    have on40 : sc.n ≤ 1099511627776 := on
    have KLF := Lib.hid (show K ≤ lf by omega)
    clear ep e1 e2 hfull hlf hAL
    go_upto_region 10 with fail
    clear c0 c1 c2 c3 c4
    go_loopw [38] (fun iv wr => ∃ (i : Nat) (di : Dr) (Di : Nat → Prop), i ≤ K ∧ iv = .int .i64 (i : Int) ∧ LD wr g n di Di ∧ (∀ k, Di k → Dn D w wr k) ∧ SBox wr s (.pointer (some ⟨g, 0, none⟩)) sc.turn sc.n sc.pos lf ∧ SlN wr Di A3 (F.map bv) ∧ di.W.length ≤ d.W.length + i ∧ putR d sc.pos (chunks K F) = putR di (sc.pos + i) (chunks (K - i) (F.drop (64 * i))) ∧ Turn D w wr) (fun iv _ => K - (intOf iv).toNat)
    case atStart => exact ⟨0, d, D, by omega, rfl, L3.out, fun k hk => .inl hk, B3.out, SF3.out, by omega, by simp, Q3.out.mono (fun _ _ h => h.elim)⟩
    case round =>
      obtain ⟨i, di, Di, hi, rfl, ld, hD, hb, hsl, hw, hput, ht⟩ := hrel
      obtain ⟨c0, c1, c2, c3, c4⟩ := hb.cells
      have hnD : ¬ Di s := fun h => (hD s h).elim hsD (fun h => by have := h.1; have := HS.out; omega)
      by_cases hik : i < K
      · have hcd := chunks_drop i K F hik
        obtain ⟨cc, hcc⟩ : ∃ x, x = (F.drop (64 * i)).take 64 := ⟨_, rfl⟩
        have hcl : cc.length = 64 := by rw [hcc, List.length_take, List.length_drop, FL.out]; omega
        rw [← hcc] at hcd
        rw [hcd] at hput
        have CU := Lib.hid (cut_any A3 m cc3 i (by rw [HMK.out]; omega) A3C.out.2 (by omega) wr.drew)
        have td : Turn (fun _ => False) wr wr.drew := (Turn.refl _ _).drew
        have hsc : SlN wr.drew Di (A3.map (·.add (64 * i))) (cc.map bv) := by
          have h1 := (sln_at (hsl.turn (N' := Di) td (fun _ h => h.elim) (fun _ _ h => h)) (64 * i)).take 64
          rw [← List.map_take, ← hcc] at h1
          exact h1
        have WR := (ld.quiet td).write ((sc.pos + i : Nat) : Int) (A3.map (·.add (64 * i))) 64 cc hsc (by rw [hcl]; unfold maxLen; omega) (by omega)
        rw [hcl, show ((sc.pos + i : Nat) : Int) = (sc.pos : Int) + (i : Int) by omega] at WR
        obtain ⟨er, her⟩ : ∃ e, e = di.writeE ((sc.pos : Int) + (i : Int)) cc := ⟨_, rfl⟩
        rw [← her] at WR
        have WR := Lib.hid WR
        have HER := Lib.hid her
        have LDI := Lib.hid ld
        have HDI := Lib.hid hD
        have BI := Lib.hid hb
        have SLI := Lib.hid hsl
        have WI := Lib.hid hw
        have PUT := Lib.hid hput
        have TI := Lib.hid ht
        have HCC := Lib.hid (And.intro hcc hcl)
        have hw1 : IntKind.i64.wrap ((sc.pos : Int) + (i : Int)) = (sc.pos : Int) + (i : Int) := IntWalk.i64_in _ (by omega)
        clear ld hD hb hsl hw hput ht hcd hcc hcl hsc her c1 c2 c4
        go_upto_region 12 with fail
        go_region_held3 (fun w' => w'.cell? ⟨s, 0, none⟩ = some (.pointer (some ⟨g, 0, none⟩)) ∧ w'.cell? ⟨s, 3, none⟩ = some (.int .i64 (sc.pos : Int)))
          (first | exact ⟨c0, c3⟩ | exact ⟨k1, k2⟩ | exact ⟨j1, j2⟩)
          (first
            | (go_at_call 57; refine CU.out.mono ?_; clear CU; rintro r w5 ⟨rfl, hw5⟩; rw [hw5]; clear hw5; have k1 : wr.drew.cell? ⟨s, 0, none⟩ = some (.pointer (some ⟨g, 0, none⟩)) := c0; have k2 : wr.drew.cell? ⟨s, 3, none⟩ = some (.int .i64 (sc.pos : Int)) := c3)
            | (go_at_call 26; refine WR.out.mono ?_; clear WR; rintro r w6 ⟨rfl, ld6, t6⟩; have L6 := Lib.hid ld6; have T6 := Lib.hid t6; have j1 := t6.cell (show wr.drew.cell? ⟨s, 0, none⟩ = some (.pointer (some ⟨g, 0, none⟩)) from c0) hnD; have j2 := t6.cell (show wr.drew.cell? ⟨s, 3, none⟩ = some (.int .i64 (sc.pos : Int)) from c3) hnD; clear ld6 t6))
        have hpi : ((sc.pos + i : Nat) : Int) = (sc.pos : Int) + (i : Int) := by omega
        have TW := Lib.hid (show Turn Di wr w6 from ((Turn.refl (fun _ => False) wr).drew.mono (fun _ _ h => h.elim)).trans T6.out (fun _ _ h => h))
        have DI6 := Lib.hid (show ∀ k, Dn Di wr.drew w6 k → Dn D w w6 k from dn_trans HDI.out (fun k hk => hk) TI.out.size TW.out.size)
        have B6 := Lib.hid (BI.out.turn TW.out hnD)
        have TZ := Lib.hid (show Turn D w w6 from TI.out.trans TW.out (fun k hk h => (HDI.out k h).elim id (fun h => by have := h.1; omega)))
        have hs6 := Lib.hid (show s < w6.heap.size from B6.out.lt)
        clear k1 k2 j1 j2 c0 c3 T6
        by_cases her0 : er = 0
        · have d0 : ((er : Int) != 0) = false := by rw [bne_eq_false_iff_eq]; omega
          have NX := Lib.hid (show putR d sc.pos (chunks K F) = putR (di.write ((sc.pos : Int) + (i : Int)) cc) (sc.pos + (i + 1)) (chunks (K - (i + 1)) (F.drop (64 * (i + 1)))) by
            rw [PUT.out, putR_yes (by rw [hpi, ← HER.out]; exact her0), hpi, ← Nat.add_assoc])
          have SL6 := Lib.hid (show SlN w6 (Dn Di wr.drew w6) A3 (F.map bv) from SLI.out.turn TW.out (fun _ h => h) (fun k hk h => h.elim id (fun h => by have h' : wr.drew.heap.size ≤ k := h.1; have e : wr.drew.heap.size = wr.heap.size := rfl; omega)))
          have W6 := Lib.hid (show (di.write ((sc.pos : Int) + (i : Int)) cc).W.length ≤ d.W.length + (i + 1) from by have := write_W_le di ((sc.pos : Int) + (i : Int)) cc; have := WI.out; omega)
          clear her0 hpi
          go_wp2
          go_roundw
          case rel => exact ⟨i + 1, _, _, by omega, by go_num, L6.out, DI6.out, B6.out, SL6.out, W6.out, NX.out, TZ.out⟩
          case measure => simp [intOf]; omega
        · have d0 : ((er : Int) != 0) = true := by rw [bne_iff_ne]; omega
          have NX := Lib.hid (show putR d sc.pos (chunks K F) = (di.write ((sc.pos : Int) + (i : Int)) cc, er) by
            rw [PUT.out, putR_no (by rw [hpi, ← HER.out]; exact her0), hpi, ← HER.out])
          have E0 := Lib.hid her0
          have EN := Lib.hid (ends_any s _ _ _ _ _ (er : Int) w6 B6.out)
          clear her0 hpi
          go_wp2_with (go_at_call 58; refine stop ?_)
          unfold Stop
          refine EN.out.mono ?_
          rintro r w7 ⟨rfl, b7, t7⟩
          have B7 := Lib.hid b7
          have T7 := Lib.hid t7
          clear EN b7 t7
          go_wp2
          go_ret
          have hPE : PE = er := by rw [E1.out, NX.out]
          refine ⟨Dn Di wr.drew w6, ⟨sc.pos, sc.fin, sc.turn, sc.n, true⟩, by rw [hPE]; rfl, ⟨by rw [E2.out, NX.out]; exact L6.out.keep T7.out (fun k hk e => by have e' : k = s := e; subst e'; exact (DI6.out k hk).elim hsD (fun h => by have := h.1; have := HS.out; omega)) (fun k e => by have e' : k = s := e; omega), sbp_gone h2 HE.out B7.out rfl, fun k hk h => ?_, fun k hk => ?_⟩, E3.out _ (fun h => absurd (hPE.symm.trans h) E0.out) (fun _ => rfl), fun k hk => (DI6.out k hk).elim .inl (fun h => .inr ⟨h.1, Nat.lt_of_lt_of_le h.2 T7.out.size⟩), (TZ.out.mono (S := fun k => D k ∨ E k) (fun _ _ h => .inl h)).trans T7.out (fun k _ e => .inr ((HE.out k).2 e))⟩
          · have e := (HE.out k).1 hk
            subst e
            exact (DI6.out k h).elim hsD (fun h => by have := h.1; have := HS.out; omega)
          · have e := (HE.out k).1 hk
            subst e
            exact Nat.lt_of_lt_of_le hs6.out T7.out.size
      · obtain rfl : i = K := by omega
        have NX := Lib.hid (show putR d sc.pos (chunks i F) = (di, 0) by
          rw [hput, Nat.sub_self]; rfl)
        have z2 := hb.frozen 2
        have z3 := hb.frozen 3
        have z4 := hb.frozen 4
        have LDI := Lib.hid ld
        have HDI := Lib.hid hD
        have BI := Lib.hid hb
        have TI := Lib.hid ht
        have hv1 : IntKind.i64.wrap ((sc.n : Int) + 1) = (sc.n : Int) + 1 := IntWalk.i64_in _ (by omega)
        have hv2 : IntKind.i64.wrap ((sc.pos : Int) + (i : Int)) = (sc.pos : Int) + (i : Int) := IntWalk.i64_in _ (by omega)
        have hv3 : IntKind.i64.wrap ((lf : Int) - (i : Int)) = (lf : Int) - (i : Int) := IntWalk.i64_in _ (by omega)
        clear ld hD hb hsl hw hput ht
        go_wp2
        go_ret
        have hPE : PE = 0 := by rw [E1.out, NX.out]
        have b5 := ((BI.out.set2 ((sc.n : Int) + 1)).set3 ((sc.pos : Int) + (i : Int))).set4 ((lf : Int) - (i : Int))
        have t5 : Turn (fun k => k = s) wr (((wr.setCell ⟨s, 2, none⟩ (.int .i64 ((sc.n : Int) + 1))).setCell ⟨s, 3, none⟩ (.int .i64 ((sc.pos : Int) + (i : Int)))).setCell ⟨s, 4, none⟩ (.int .i64 ((lf : Int) - (i : Int)))) :=
          (((Turn.refl (fun k => k = s) wr).setCell ⟨s, 2, none⟩ (.int .i64 ((sc.n : Int) + 1)) (fun _ => rfl)).setCell ⟨s, 3, none⟩ (.int .i64 ((sc.pos : Int) + (i : Int))) (fun _ => rfl)).setCell ⟨s, 4, none⟩ (.int .i64 ((lf : Int) - (i : Int))) (fun _ => rfl)
        have hs5 := BI.out.lt
        refine ⟨Di, ⟨sc.pos + i, sc.fin, sc.turn, sc.n + 1, false⟩, by rw [hPE]; rfl, ⟨by rw [E2.out, NX.out]; exact LDI.out.keep t5 (fun k hk e => by have e' : k = s := e; subst e'; exact hnD hk) (fun k e => by have e' : k = s := e; omega), ⟨h2, HE.out, _, _, _, _, _, b5, fun e => by (cases e), fun _ => ⟨rfl, rfl, ?_, ?_, ?_⟩⟩, fun k hk h => ?_, fun k hk => ?_⟩, E3.out _ (fun _ => rfl) (fun h => absurd hPE h), fun k hk => (HDI.out k hk).elim .inl (fun h => .inr ⟨h.1, Nat.lt_of_lt_of_le h.2 t5.size⟩), (TI.out.mono (S := fun k => D k ∨ E k) (fun _ _ h => .inl h)).trans t5 (fun k _ e => .inr ((HE.out k).2 e))⟩
        · show (sc.n : Int) + 1 = ((sc.n + 1 : Nat) : Int); omega
        · show (sc.pos : Int) + (i : Int) = ((sc.pos + i : Nat) : Int); omega
        · show (lf : Int) - (i : Int) = ((sc.fin - (sc.pos + i) : Nat) : Int); have := HLF.out; have := KLF.out; omega
        · have e := (HE.out k).1 hk
          subst e
          exact hnD h
        · have e := (HE.out k).1 hk
          subst e
          exact Nat.lt_of_lt_of_le hs5 t5.size
end
section
set_option linter.unusedVariables false
set_option linter.unusedSimpArgs false
open Go.RowKit
set_option maxRecDepth 100000
/-- Zeros written over what is left of a stretch, where there is anything else. -/
def wipeD (d : Dr) (p : Nat) : Nat → Dr
  | 0 => d
  | i + 1 => if d.now (p + i) = zeros 64 then wipeD d p i else (wipeD d p i).write ((p + i : Nat) : Int) (zeros 64)
def wiB (d : Dr) (p : Nat) : Nat → Bool
  | 0 => false
  | i + 1 => if d.now (p + i) = zeros 64 then wiB d p i else true
def wipeE (d : Dr) (p m : Nat) : Dr := if wiB d p m = true then (wipeD d p m).sync else d
theorem wipeD_on {d : Dr} {n : Nat} (on : OnD d n) (p : Nat) : ∀ (i : Nat), p + i ≤ n → OnD (wipeD d p i) n ∧ (∀ k, (wipeD d p i).now k = if p ≤ k ∧ k < p + i then zeros 64 else d.now k) ∧ (wipeD d p i).W.length ≤ d.W.length + i
  | 0, h => ⟨on, fun k => by rw [if_neg (by omega)]; rfl, by show d.W.length ≤ d.W.length + 0; omega⟩
  | i + 1, h => by
    obtain ⟨h1, h2, h3⟩ := wipeD_on on p i (by omega)
    unfold wipeD
    split
    · rename_i hz
      refine ⟨h1, fun k => ?_, by omega⟩
      rw [h2]
      by_cases hk : p ≤ k ∧ k < p + i
      · rw [if_pos hk, if_pos (by omega)]
      · rw [if_neg hk]
        by_cases hk2 : k = p + i
        · subst hk2; rw [if_pos (by omega)]; exact hz
        · rw [if_neg (by omega)]
    · refine ⟨h1.write _ _, fun k => ?_, ?_⟩
      · rw [h1.write_now (p + i) (by omega) _ (by simp [zeros])]
        by_cases hk2 : p + i = k
        · rw [if_pos hk2, if_pos (by omega)]
        · rw [if_neg hk2, h2]
          by_cases hk : p ≤ k ∧ k < p + i
          · rw [if_pos hk, if_pos (by omega)]
          · rw [if_neg hk, if_neg (by omega)]
      · rw [h1.write_W (p + i) (by omega) _ (by simp [zeros]), List.length_append, List.length_singleton]; omega
theorem wiB_no (d : Dr) (p : Nat) : ∀ (i : Nat), wiB d p i = false → ∀ k, k < i → d.now (p + k) = zeros 64
  | 0, _, k, hk => by omega
  | i + 1, h, k, hk => by
    unfold wiB at h
    split at h
    · rename_i hz
      by_cases e : k = i
      · rw [e]; exact hz
      · exact wiB_no d p i h k (by omega)
    · cases h
theorem wiB_all (d : Dr) (p : Nat) : ∀ (i : Nat), (∀ k, k < i → d.now (p + k) = zeros 64) → wiB d p i = false
  | 0, _ => rfl
  | i + 1, h => by
    unfold wiB
    rw [if_pos (h i (by omega))]
    exact wiB_all d p i fun k hk => h k (by omega)
theorem wipeE_on {d : Dr} {n : Nat} (on : OnD d n) (p m : Nat) (h : p + m ≤ n) : OnD (wipeE d p m) n ∧ (∀ k, k < m → (wipeE d p m).now (p + k) = zeros 64) ∧ (∀ k, ¬ (p ≤ k ∧ k < p + m) → (wipeE d p m).now k = d.now k) ∧ ((∀ k, k < m → d.now (p + k) = zeros 64) → wipeE d p m = d) ∧ (wipeE d p m).W.length ≤ d.W.length + m ∧ (d.W = [] → (wipeE d p m).W = []) := by
  obtain ⟨h1, h2, h3⟩ := wipeD_on on p m h
  unfold wipeE
  cases hw : wiB d p m with
  | true =>
    rw [if_pos rfl]
    obtain ⟨s1, s2, s3⟩ := h1.sync
    refine ⟨s2, fun k hk => ?_, fun k hk => ?_, fun hz => ?_, by rw [s3]; simp, fun _ => s3⟩
    · rw [Dr.now_sync h1.ok s1, h2, if_pos (by omega)]
    · rw [Dr.now_sync h1.ok s1, h2, if_neg hk]
    · rw [wiB_all d p m hz] at hw; cases hw
  | false =>
    rw [if_neg (by simp)]
    exact ⟨on, fun k hk => wiB_no d p m hw k hk, fun _ _ => rfl, fun _ => rfl, by omega, fun h => h⟩
theorem wipeD_no (d : Dr) (p : Nat) : ∀ (i : Nat), wiB d p i = false → wipeD d p i = d
  | 0, _ => rfl
  | i + 1, h => by
    unfold wiB at h
    unfold wipeD
    split at h
    · rename_i hz
      rw [if_pos hz]
      exact wipeD_no d p i h
    · cases h
theorem zero_64 (w : World) : (zeroValue 91).run Tryd.prog w = .ok (.agg ZSec) w := by kernel_rfl
theorem slice_64 (b : Nat) (w : World) : (Instr.sliceAt 91 (.pointer (some ⟨b, 0, none⟩)) none none none).run Tryd.prog w = .ok (.slice (some ⟨b, 0, none⟩) 64 64) w := by
  have e : Tryd.prog.arrayLen 91 = 64 := by kernel_rfl
  rw [run_sliceAt_array_all (P := Tryd.prog) w 91 ⟨b, 0, none⟩ (by kernel_rfl)]
  rw [show Tryd.prog.elem 91 = 5 by kernel_rfl, size_u8, e]
  rfl
theorem cutD_sec {d : Dr} {n : Nat} (ok : d.Ok n) (p m i : Nat) (h : p + m ≤ n) (hi : i < m) : ((cutD d p m).drop (64 * i)).take 64 = d.now (p + i) := by
  have h1 := cutD_split ok p m i h (by omega)
  have h2 := cutD_len ok p i (by omega)
  rw [h1, ← h2, List.drop_left]
  have h3 := cutD_split ok (p + i) (m - i) 1 (by omega) (by omega)
  have h4 := cutD_len ok (p + i) 1 (by omega)
  rw [h3]
  have h5 : cutD d (p + i) 1 = d.now (p + i) := by
    have := cutD_succ d (p + i) 0
    rw [Nat.add_zero] at this
    exact this
  rw [h5] at h4 ⊢
  exact List.take_left' h4
end
section
set_option linter.unusedVariables false
set_option linter.unusedSimpArgs false
open Go.RowKit
set_option maxRecDepth 100000
theorem scanE_on {n p m t : Nat} {d : Dr} (hp : p + m ≤ n) (ht : t ≤ mostS) (hoff : d.off = false) : scanE n d (p : Int) (m : Int) (t : Int) = 0 := by
  unfold scanE
  rw [if_neg (by unfold mostS inS at *; omega), if_neg (by rw [hoff]; simp)]
end
end Go.Proofs.YtajdcekkmikbcaaDoor
