/- 'VoteOne': its walk. -/
import Derived.Test.YtmkpoodhhpfgpaaVtP
import Derived.Deep.MidRow
import Derived.Maps.AppendAt
import Derived.BigRegion
import Derived.StillTailTactics
import Derived.Deep.RegionHeld3
set_option linter.unusedVariables false
set_option linter.unusedSimpArgs false
namespace Go.Proofs.Ytmkpoodhhpfgpaa
open Go.RowKit
theorem cell_al {w : World} {p : Addr} {v : Value} {o : Obj} (h : w.cell? p = some v) : (w.alloc o).cell? p = some v := ((Turn.refl (fun _ => False) w).alloc o).cell h (fun h => h)
theorem cell_st {w : World} {b o q : Nat} {v u u' : Value} (h : w.cell? ⟨b, o, none⟩ = some v) (hne : q ≠ b) : ((w.setCell ⟨q, 0, none⟩ u).setCell ⟨q, 1, none⟩ u').cell? ⟨b, o, none⟩ = some v :=
  (((Turn.refl (fun i => i = q) w).setCell ⟨q, 0, none⟩ u (fun _ => rfl)).setCell ⟨q, 1, none⟩ u' (fun _ => rfl)).cell h (fun e => hne (Eq.symm e))
theorem add_off0 (g j : Nat) : (⟨g, 0, none⟩ : Addr).add j = ⟨g, j, none⟩ := by unfold Addr.add; by_cases hj : j = 0 <;> simp [hj]
theorem own_form3 {w : World} {B n z : Nat} {e : TypeId} {v : Value} {xs : List Value} (h : w.ownsRow B e z v n xs) : ∃ A c, v = .slice A n c := by
  rcases h.2 with ⟨rfl, h0⟩ | ⟨g, cap, _, rfl, _⟩
  · exact ⟨none, 0, by rw [h0]⟩
  · exact ⟨_, cap, rfl⟩
theorem own_some {w : World} {B n z c : Nat} {e : TypeId} {A : Option Addr} {xs : List Value} (h : w.ownsRow B e z (.slice A n c) n xs) (hn : 0 < n) : ∃ g, A = some ⟨g, 0, none⟩ := by
  rcases h.2 with ⟨_, h0⟩ | ⟨g, cap, _, e, _⟩
  · omega
  · injection e with e1 e2 e3
    exact ⟨g, e1⟩
theorem own_form2 {w : World} {B n z : Nat} {e : TypeId} {v : Value} {xs : List Value} (h : w.ownsRow B e z v n xs) (hn : 0 < n) : ∃ g c, v = .slice (some ⟨g, 0, none⟩) n c := by
  rcases h.2 with ⟨_, h0⟩ | ⟨g, cap, _, rfl, _⟩
  · omega
  · exact ⟨g, cap, rfl⟩
theorem cells_two_new (w : World) (u v : Value) (t : TypeId) : ∀ (j : Nat) (z : Value), [u, v][j]? = some z → (w.alloc (.cells #[u, v] t)).cell? ((⟨w.heap.size, 0, none⟩ : Addr).add j) = some z := fun j z h => by
  rw [show (⟨w.heap.size, 0, none⟩ : Addr).add j = ⟨w.heap.size, j, none⟩ by unfold Addr.add; by_cases hj : j = 0 <;> simp [hj]]
  rw [cell_of_row _ _ _ _ _ _ (heap_alloc_new w (.cells #[u, v] t)), List.getElem?_toArray]
  exact h
set_option maxRecDepth 100000 in
set_option maxHeartbeats 16000000 in
theorem voteOne_walk (A : Option Addr) (c : Nat) (l : List Asg) (w : World) (hs : AsgAt w A l) (hm : l.length ≤ maxLen) :
    Calls Try.prog 5 #[.slice A l.length c] w fun r w' => r = .returned (.bool true) ∧ Below w.heap.size w w' := by
  have AW := Lib.hid (fun w => (awake16_any w).mono fun _ _ ⟨h1, h2⟩ => And.intro h1 (below_of h2))
  unfold maxLen at hm
  have HS := Lib.hid (fun (w' : World) (k : Below w.heap.size w w') (i : Nat) (p : Asg) (h : l[i]? = some p) => show i64R p.t ∧ i64R p.f ∧ ∃ b o, A = some ⟨b, o, none⟩ ∧ w'.cell? ⟨b, o + i * 3, none⟩ = some (.int .i64 p.t) ∧ w'.cell? ⟨b, o + i * 3 + 1, none⟩ = some (.int .i64 p.f) ∧ w'.cell? ⟨b, o + i * 3 + 2, none⟩ = some (.bool p.n) from by
    obtain ⟨h1, h2, b, o, e, hb, q1, q2, q3⟩ := hs i p h
    exact ⟨h1, h2, b, o, e, (k.cell (p := ⟨b, o + i * 3, none⟩) hb).trans q1, (k.cell (p := ⟨b, o + i * 3 + 1, none⟩) hb).trans q2, (k.cell (p := ⟨b, o + i * 3 + 2, none⟩) hb).trans q3⟩)
  have HM := Lib.hid (fun (k : Nat) (h : k < l.length) => show ∃ p, l[k]? = some p from ⟨_, List.getElem?_eq_getElem h⟩)
  generalize l.length = n at *
  by_cases h1 : 60 < n
  · have t0 : decide (60 < (n : Int)) = true := by rw [decide_eq_true_eq]; omega
    clear h1 hs
    go_enter Try.func5, Try.ntmps5
    go_wp2_with (go_at_call 16; refine stop ?_)
    unfold Stop
    refine (AW.out w).mono ?_
    rintro r w9 ⟨rfl, t9⟩
    have T9 := Lib.hid t9
    clear t9
    go_wp2
    go_ret
    exact ⟨rfl, T9.out⟩
  have t0 : decide (60 < (n : Int)) = false := by rw [decide_eq_false_iff_not]; omega
  have hn60 : n ≤ 60 := by omega
  have CST := Lib.hid step_any
  have CGR := Lib.hid grant_any
  obtain ⟨i0, hi, hz0, hz1, hz2⟩ := info_parts bl_infoR
  clear h1 hs hm
  go_enter Try.func5, Try.ntmps5
  go_upto_region 5 with fail
  obtain ⟨w0, hw0⟩ : ∃ w0, w0 = w.alloc (.cells (blC 0 (-1)) 23) := ⟨_, rfl⟩
  have k0 : Below w.heap.size w w0 := by rw [hw0]; exact (Below.refl _ w).alloc (Nat.le_refl _) _
  have g0 : BBx w0 w.heap.size 0 (-1) := by rw [hw0]; exact BBx.new _ _ _
  have s0 : w0.heap.size = w.heap.size + 1 := by rw [hw0]; simp
  change Code.wp _ _ _ _ (w.alloc (.cells (blC 0 (-1)) 23))
  rw [← hw0]
  clear hw0
  obtain ⟨g, hg⟩ : ∃ g, g = w.heap.size := ⟨_, rfl⟩
  rw [← hg] at k0 g0 s0 HS ⊢
  have HGW := Lib.hid hg
  clear hg
  go_wp2
  go_loopw [4, 5] (fun v i wr => ∃ (k : Nat) (t f : Int) (vs : List (Int × Int)), k ≤ n ∧ i = .int .i64 (k : Int) ∧ vs.length ≤ k ∧ VI t f vs ∧ BBx wr g t f ∧ wr.ownsRow (g + 1) 23 2 v vs.length (vvs vs) ∧ Below g w wr ∧ g + 1 ≤ wr.heap.size) (fun _ i _ => n - (intOf i).toNat)
  case atStart => exact ⟨0, 0, -1, [], Nat.zero_le _, rfl, Nat.zero_le _, VI.start, g0, World.ownsRow_nil _ _ _ _, k0, by omega⟩
  case round =>
    obtain ⟨k, t, f, vs, hk, rfl, hvl, hVI, hG, hO, hB, hsz⟩ := hrel
    obtain ⟨Av, cv, rfl⟩ := own_form3 hO
    by_cases hlt : k < n
    · obtain ⟨p, hp⟩ := HM.out k hlt
      obtain ⟨-, -, b, o, rfl, -⟩ := HS.out wr hB k p hp
      have HSp := Lib.hid (fun (w' : World) (q : Below g w w') => show w'.cell? ⟨b, o + k * 3, none⟩ = some (.int .i64 p.t) ∧ w'.cell? ⟨b, o + k * 3 + 1, none⟩ = some (.int .i64 p.f) ∧ w'.cell? ⟨b, o + k * 3 + 2, none⟩ = some (.bool p.n) from by
        obtain ⟨-, -, b', o', e, q1, q2, q3⟩ := HS.out w' q k p hp
        injection e with e; injection e with e1 e2 e3; subst e1; subst e2
        exact ⟨q1, q2, q3⟩)
      generalize p.t = x at *
      generalize p.f = fr at *
      generalize p.n = an at *
      obtain ⟨⟨c0, c1⟩, c2, c3⟩ := hG.cells
      have HV := Lib.hid hVI
      have HO := Lib.hid hO
      have HB := Lib.hid hB
      have HG := Lib.hid hG
      have HSZ := Lib.hid hsz
      have HVB := Lib.hid (fun i e => HO.out.lt i e)
      clear hVI hO hB hG hsz hp k0 g0 s0
      go_upto_region 9 with fail
      obtain ⟨w1, hw1⟩ : ∃ w1, w1 = wr.alloc (.cells (blC t f) 23) := ⟨_, rfl⟩
      have t1 : Turn (fun _ => False) wr w1 := by rw [hw1]; exact (Turn.refl _ _).alloc _
      have gw := Lib.hid (show BBx w1 wr.heap.size t f by rw [hw1]; exact BBx.new _ _ _)
      have T1 := Lib.hid t1
      change Code.wp _ _ _ _ (wr.alloc (.cells (blC t f) 23))
      rw [← hw1]
      clear hw1 t1 c0 c1 c2 c3
      have HTB := Lib.hid (fun (w' : World) (q : Turn (fun i => i = g) wr w') => show Below g w w' from HB.out.trans (q.below (fun i _ hi => by have hi : i = g := hi; omega) (by have := HSZ.out; omega)))
      have HTO := Lib.hid (fun (w' : World) (q : Turn (fun i => i = g) wr w') => own_keep HO.out q (fun i hi => by have hi : i = g := hi; omega))
      have N1 := Lib.hid ((Turn.refl (fun i => i = g) wr).trans T1.out (fun i _ h => h.elim))
      have hb1 := HG.out.turn T1.out (fun h => h)
      have HG1 := Lib.hid hb1
      obtain ⟨⟨c0, c1⟩, c2, c3⟩ := hb1.cells
      obtain ⟨q1, q2, q3⟩ := HSp.out w1 (HTB.out w1 N1.out)
      clear hb1
      go_still_tail 6, (by kernel_rfl)
      change wpList _ _ _ _ _ w1.drew
      have hd1 : Turn (fun i => i = g) wr w1.drew := N1.out.drew
      have hgd := HG1.out.turn ((Turn.refl (fun _ => False) w1).drew) (fun h => h)
      have hgwd := gw.out.turn ((Turn.refl (fun _ => False) w1).drew) (fun h => h)
      generalize w1.drew = w2 at *
      have HD1 := Lib.hid hd1
      have HG2 := Lib.hid hgd
      have HW2 := Lib.hid hgwd
      clear hd1 hgd hgwd c0 c1 c2 c3 q1 q2 q3
      go_wp2_with (go_at_call 11; refine stop ?_)
      unfold Stop
      refine (CST.out _ _ _ _).mono ?_
      rintro r w3 ⟨rfl, t3⟩
      have hg3 := HG2.out.turn t3 (fun h => h)
      have HW3 := Lib.hid (HW2.out.turn t3 (fun h => h))
      have HD3 := Lib.hid (HD1.out.trans t3 (fun i _ h => h.elim))
      have HG3 := Lib.hid hg3
      obtain ⟨⟨c0, c1⟩, c2, c3⟩ := hg3.cells
      clear t3 hg3
      go_upto_region 10 with fail
      obtain ⟨T1', hT1'⟩ : ∃ z, z = stepT t x := ⟨_, rfl⟩
      obtain ⟨F1', hF1'⟩ : ∃ z, z = stepF t f x := ⟨_, rfl⟩
      rw [← hT1', ← hF1']
      obtain ⟨w4, hw4⟩ : ∃ w4, w4 = (w3.setCell ⟨g, 0, none⟩ (.int .i64 T1')).setCell ⟨g, 1, none⟩ (.int .i64 F1') := ⟨_, rfl⟩
      have hg4 := HG3.out.set T1' F1'
      rw [← hw4] at hg4 ⊢
      have HD4 := Lib.hid (HD3.out.trans hg4.2 (fun i _ h => h))
      have HW4 := Lib.hid (HW3.out.turn hg4.2 (fun h => by have := HSZ.out; omega))
      have HG4 := Lib.hid hg4.1
      have HV4 := Lib.hid (show VI T1' F1' vs by rw [hT1', hF1']; exact HV.out.step x)
      have HST := Lib.hid (show t ≤ T1' ∧ (T1' = t → F1' = f) from ⟨by rw [hT1']; exact step_ge t x, fun h => by rw [hT1'] at h; rw [hF1']; exact step_eq h⟩)
      clear hw4 hg4 hT1' hF1' c0 c1 c2 c3
      obtain ⟨⟨c0, c1⟩, -⟩ := HG4.out.cells
      obtain ⟨⟨d0, d1⟩, -⟩ := HW4.out.cells
      go_cut [45, 133] from 29 (fun s z w2 => s = .bool false ∧ z = undef ∧ w2 = w4)
      case first =>
        have e1 : decide (T1' < t) = false := decide_eq_false (by have := HST.out.1; omega)
        by_cases he : T1' = t
        · have e2 : (T1' == t) = true := by simpa using he
          have hf := HST.out.2 he
          have Q := eql_bl T1' F1' t f
          rw [decide_eq_true ⟨he, hf⟩] at Q
          clear he hf
          go_wp2_with fail
          go_meet
          case rel => exact ⟨rfl, rfl, rfl⟩
        · have e2 : (T1' == t) = false := by simpa using he
          clear he
          go_wp2_with fail
          go_meet
          case rel => exact ⟨rfl, rfl, rfl⟩
      case rest =>
        obtain ⟨rfl, rfl, rfl⟩ := hcut
        obtain ⟨wz, ewz⟩ : ∃ wz, wz = wc := ⟨_, rfl⟩
        subst ewz
        go_upto_region 12 with fail
        have HDc := Lib.hid HD4.out
        have HGc := Lib.hid HG4.out
        obtain ⟨q1, q2, q3⟩ := HSp.out wz (HTB.out wz HDc.out)
        have ng : wz.heap.size ≠ g := fun e => by have := World.block_lt_of_cell? wz _ c0; simp only at this; omega
        have nb : wz.heap.size ≠ b := fun e => by have := World.block_lt_of_cell? wz _ q1; simp only at this; omega
        clear d0 d1 HW4 HD4 HG4 HW2 HW3 HD1 HD3 HG2 HG3 HG1 N1 T1 gw
        go_cut [7, 8, 133] from 46 (fun v7 v8 z w2 => ∃ p7, z = undef ∧ v7 = .pointer (some ⟨p7, 0, none⟩) ∧ v8 = .bool (grB T1' F1' fr x an) ∧ BBx w2 p7 (grT T1' F1' fr x an) (grF T1' F1' fr x an) ∧ Turn (fun _ => False) wz w2 ∧ wz.heap.size ≤ p7)
        case first =>
          go_region_held3 (fun w' => w'.cell? ⟨g, 0, none⟩ = some (.int .i64 T1') ∧ w'.cell? ⟨g, 1, none⟩ = some (.int .i64 F1') ∧ w'.cell? ⟨b, o + k * 3, none⟩ = some (.int .i64 x) ∧ w'.cell? ⟨b, o + k * 3 + 1, none⟩ = some (.int .i64 fr) ∧ w'.cell? ⟨b, o + k * 3 + 2, none⟩ = some (.bool an))
            (first | exact ⟨c0, c1, q1, q2, q3⟩ | exact ⟨cell_al c0, cell_al c1, cell_al q1, cell_al q2, cell_al q3⟩ | exact ⟨y0, y1, y2, y3, y4⟩ | exact ⟨cell_al y0, cell_al y1, cell_al y2, cell_al y3, cell_al y4⟩ | exact ⟨cell_st y0 ng, cell_st y1 ng, cell_st y2 nb, cell_st y3 nb, cell_st y4 nb⟩)
            (first
              | (go_at_call 9; refine (CGR.out _ _ _ _ _ _).mono ?_; unfold GPost; rintro r w9 ⟨rfl, t9⟩; have k9 : Turn (fun _ => False) wz w9 := (by first | exact (Turn.refl (fun _ => False) wz).drew.trans t9 (fun _ _ h => h) | exact ((Turn.refl (fun _ => False) wz).alloc _).drew.trans t9 (fun _ _ h => h)); have T9 := Lib.hid t9; have K9 := Lib.hid k9; obtain ⟨⟨y0, y1⟩, -⟩ := (show BBx w9 g T1' F1' from HGc.out.turn k9 (fun h => h)).cells; obtain ⟨y2, y3, y4⟩ := HSp.out w9 (HTB.out w9 (HDc.out.trans k9 (fun i _ h => h.elim))); (first | (have B9 := Lib.hid (show BBx w9 wz.heap.size 0 0 from (BBx.new wz 0 0).turn ((Turn.refl (fun _ => False) (wz.alloc (.cells (blC 0 0) 23))).drew.trans t9 (fun _ _ h => h)) (fun h => h)); obtain ⟨⟨z0, z1⟩, z2, z3⟩ := B9.out.cells) | skip); clear t9 k9))
          all_goals go_wp2_with fail
          all_goals go_meet
          all_goals first
            | exact ⟨wz.heap.size, rfl, rfl, rfl, (B9.out.set _ _).1, K9.out.trans (B9.out.set _ _).2 (fun i hi e => by have e : i = wz.heap.size := e; omega), Nat.le_refl _⟩
            | exact ⟨w9.heap.size, rfl, rfl, rfl, BBx.new _ _ _, K9.out.trans ((Turn.refl (fun _ => False) w9).alloc _) (fun _ _ h => h), K9.out.size⟩
        case rest =>
          obtain ⟨p7, rfl, rfl, rfl, hb7, ht7, hp7⟩ := hcut
          obtain ⟨wy, ewy⟩ : ∃ wy, wy = wc := ⟨_, rfl⟩
          subst ewy
          have HD7 := Lib.hid (HDc.out.trans ht7 (fun i _ h => h.elim))
          have HG7 := Lib.hid (HGc.out.turn ht7 (fun h => h))
          have HB7 := Lib.hid hb7
          have HP7 := Lib.hid hp7
          have HZS := Lib.hid (And.intro HDc.out.size ht7.size)
          clear hb7 ht7 hp7 c0 c1 q1 q2 q3 HDc HGc
          obtain ⟨⟨c0, c1⟩, c2, c3⟩ := HG7.out.cells
          obtain ⟨⟨d0, d1⟩, -⟩ := HB7.out.cells
          obtain ⟨q1, q2, q3⟩ := HSp.out wy (HTB.out wy HD7.out)
          cases hgb : grB T1' F1' fr x an with
          | false =>
            obtain ⟨e1, e2⟩ := gr_no hgb
            rw [e1] at d0
            rw [e2] at d1
            have Q := eql_bl T1' F1' T1' F1'
            rw [decide_eq_true ⟨rfl, rfl⟩] at Q
            have HR := Lib.hid (And.intro (HTO.out wy HD7.out) (HTB.out wy HD7.out))
            clear hgb e1 e2 HB7
            go_wp2
            go_roundw
            case rel => exact ⟨k + 1, T1', F1', vs, by omega, by simp, by omega, HV4.out, HG7.out, HR.out.1, HR.out.2, by have := HSZ.out; have := HZS.out; omega⟩
            case measure => simp [intOf]; omega
          | true =>
            obtain ⟨e1, e2⟩ := gr_yes hgb
            obtain ⟨hg0, hn0, ht0, hf0⟩ := grB_parts hgb
            rw [e1] at d0
            rw [e2] at d1
            have HB8 := Lib.hid (show BBx wy p7 x fr by have := HB7.out; rwa [e1, e2] at this)
            subst hn0
            subst ht0
            have HF0 := Lib.hid (And.intro hg0 hf0)
            clear hgb e1 e2 hg0 hf0 HB7
            go_upto_region 16 with fail
            go_quiet (fail)
            generalize hw5 : wy.drewN _ = w5
            have t5 : Turn (fun _ => False) wy w5 := by rw [← hw5]; exact (Turn.refl _ _).drewN _
            have HD5 := Lib.hid (HD7.out.trans t5 (fun i _ h => h.elim))
            have HG5 := Lib.hid (HG7.out.turn t5 (fun h => h))
            have HB5 := Lib.hid (HB8.out.turn t5 (fun h => h))
            have HZ5 := Lib.hid t5.size
            have HR := Lib.hid (HTO.out w5 HD5.out)
            clear hw5 t5 c0 c1 c2 c3 d0 d1 q1 q2 q3 HD7 HG7 HB8
            go_wp2
            go_loopw [9] (fun j wr2 => ∃ m : Nat, m ≤ vs.length ∧ j = .int .i64 (m : Int) ∧ Turn (fun _ => False) w5 wr2) (fun j _ => vs.length - (intOf j).toNat)
            case atStart => exact ⟨0, Nat.zero_le _, rfl, Turn.refl _ _⟩
            case round =>
              obtain ⟨m, hm, rfl, hT⟩ := hrel
              have hrow := own_keep HR.out hT (fun i h => h.elim)
              have HT := Lib.hid hT
              obtain ⟨⟨d0, d1⟩, -⟩ := (HB5.out.turn hT (fun h => h)).cells
              clear hT
              by_cases hlm : m < vs.length
              · obtain ⟨gv, rfl⟩ := own_some hrow (by omega)
                have hat := vvs_at vs m hlm
                have r1 := hrow.cells (g := gv) rfl _ _ hat.1
                have r2 := hrow.cells (g := gv) rfl _ _ hat.2
                rw [add_off0] at r1 r2
                have hsame := HV4.out.same HF0.out.2 vs[m] (List.getElem_mem hlm)
                generalize vs[m].1 = y1 at *
                generalize vs[m].2 = y2 at *
                have HTn := Lib.hid (fun (q : Nat) => HT.out.drewN q)
                clear hrow hat
                by_cases e : y1 = T1'
                · obtain rfl := hsame e
                  subst e
                  clear hsame
                  go_wp2
                  go_quiet (fail)
                  go_wp2
                  go_roundw
                  case rel => exact ⟨m + 1, by omega, by simp, HTn.out _⟩
                  case measure => simp [intOf]; omega
                · have e2 : (y1 == T1') = false := by simpa using e
                  clear hsame e
                  go_wp2
                  go_quiet (fail)
                  go_wp2
                  go_roundw
                  case rel => exact ⟨m + 1, by omega, by simp, HTn.out _⟩
                  case measure => simp [intOf]; omega
              · obtain rfl : m = vs.length := by omega
                have HRW := Lib.hid hrow
                have hbnd : vs.length ≤ 60 := by omega
                obtain ⟨wq, ewq⟩ : ∃ wq, wq = wr := ⟨_, rfl⟩
                subst ewq
                have hq : Below g w wq := (HTB.out w5 HD5.out).trans ((below_of HT.out).mono (by have := HSZ.out; have := HD5.out.size; omega))
                have HQ := Lib.hid hq
                have hsq : g + 1 ≤ wq.heap.size := by have := HSZ.out; have := HD5.out.size; have := HT.out.size; omega
                have HSQ := Lib.hid hsq
                clear hrow hq hlm hm
                go_wp2_with (at_builtin; refine stop ?_)
                unfold Stop
                refine wpList_append_own _ rfl _ _ 36 rfl (g + 1) 23 i0 (.agg #[.int .i64 0, .int .i64 0]) 2 16 Try.underlying36 hi hz0 hz1 hz2 rfl (by decide) _ _ _ rfl (HRW.out.alloc _) ⟨wq.heap.size, 0, none⟩ 1 1 (vv (T1', fr)) rfl rfl ?c1 ?c2 ?c3 ?c4 ?c5 ?_
                case c1 => exact cells_two_new wq _ _ _
                case c2 => intro u hu; simp [vv] at hu; rcases hu with rfl | rfl <;> rfl
                case c3 => unfold maxLen; omega
                case c4 => omega
                case c5 => exact Nat.le_trans hsq (by simp)
                intro v' w6 hown' hgrow _
                have t6 : Turn (fun i => g + 1 ≤ i ∧ i < wz.heap.size) wq w6 := ((Turn.refl (fun i => g + 1 ≤ i ∧ i < wz.heap.size) wq).alloc _).grown hgrow (fun i hi e => by have := HVB.out i e.symm; have := HZS.out.1; omega)
                have hB6 := HB5.out.turn (HT.out.trans (Turn.refl (fun _ => False) wq) (fun _ _ h => h)) (fun h => h)
                have hG6 := HG5.out.turn HT.out (fun h => h)
                have HB6 := Lib.hid (hB6.turn t6 (fun h => by have := HP7.out; omega))
                have HG6 := Lib.hid (hG6.turn t6 (fun h => by omega))
                have HQ6 := Lib.hid (HQ.out.trans (t6.below (B := g) (fun i _ hi => by omega) (by omega)))
                have HO6 := Lib.hid (show w6.ownsRow (g + 1) 23 2 v' (vs ++ [(T1', fr)]).length (vvs (vs ++ [(T1', fr)])) by rw [vvs_snoc, List.length_append]; exact hown')
                have HS6 := Lib.hid t6.size
                clear hown' hgrow t6 hB6 hG6 d0 d1 hsq
                obtain ⟨⟨d0, d1⟩, -⟩ := HB6.out.cells
                obtain ⟨⟨c0, c1⟩, c2, c3⟩ := HG6.out.cells
                go_wp2
                have h9 := HG6.out.set T1' fr
                go_roundw
                case rel => exact ⟨k + 1, T1', fr, vs ++ [(T1', fr)], by omega, by simp, by simp; omega, HV4.out.add HF0.out.2 HF0.out.1, h9.1, own_keep HO6.out h9.2 (fun i hi => by have hi : i = g := hi; omega), HQ6.out.trans (h9.2.below (B := g) (fun i _ hi => by have hi : i = g := hi; omega) (by have := HSQ.out; have := HS6.out; omega)), by have := HSQ.out; have := HS6.out; have := h9.2.size; omega⟩
                case measure => simp [intOf]; omega
    · obtain rfl : n = k := by omega
      have HBx := Lib.hid hB
      have HSx := Lib.hid hsz
      clear hB hsz hO hG hVI
      go_wp2_with (go_at_call 16; refine stop ?_)
      unfold Stop
      refine (AW.out wr).mono ?_
      rintro r w9 ⟨rfl, t9⟩
      have T9 := Lib.hid (show Below w.heap.size w w9 from by rw [← HGW.out]; exact HBx.out.trans (t9.mono (by have := HSx.out; omega)))
      clear t9
      go_wp2
      go_ret
      exact ⟨rfl, T9.out⟩
end Go.Proofs.Ytmkpoodhhpfgpaa
