/- LineMatch. -/
import Derived.Test.YtgjplbanfnomkaaLsD
set_option linter.unusedVariables false
set_option linter.unusedSimpArgs false
namespace Go.Proofs.Ytgjplbanfnomkaa
open Go.RowKit
set_option maxRecDepth 100000
theorem Frt.th_iff {all : List Itm} (hok : ∀ p ∈ all, okIt p = true) (hn : all.length ≤ 4096) {k j : Nat} (hk : k ≤ all.length) (h : (Frt all k).th (j : Int) = true) : j ≤ k := by
  have ho := Frt.ok_items hok hn k
  have h1 := (Ln.at_neg ho (i := (j : Int))).1.1 (of_decide_eq_true h)
  have h2 := Frt.last hk
  omega
theorem Frt.from_take {all : List Itm} {k j : Nat} (hk : k ≤ all.length) (hj : 1 ≤ j) (hjk : j ≤ k) : (Frt all k).from' 1 (j : Int) = all.take j := by
  rw [Ln.from_yes (k := 0) ⟨by show (0 : Int) < 1; decide, by rw [Frt.last hk]; omega⟩ (by show (1 : Int) - 0 - 1 = _; decide)]
  rw [List.drop_zero, Int.toNat_natCast]
  show (all.take k).take j = _
  rw [List.take_take, Nat.min_eq_left hjk]
def AllP (k : Nat) (t : Int) (all : List Itm) : Prop := all.length = k ∧ (1 ≤ t ∧ t ≤ 1 + k) ∧ ∀ p ∈ all, okIt p = true
theorem AllP.snoc {k : Nat} {t d : Int} {all : List Itm} {b : List B8} (h : AllP k t all) (hd : 0 ≤ d ∧ d ≤ 1) (hk : k ≤ 1000) (hb : b.length = 1) : AllP (k + 1) (t + d) (all ++ [⟨t + d, b⟩]) := by
  obtain ⟨h1, h2, h3⟩ := h
  refine ⟨by simp [h1], by push_cast; omega, fun p hp => ?_⟩
  rcases List.mem_append.1 hp with hp | hp
  · exact h3 p hp
  · simp at hp
    subst hp
    unfold okIt MostL
    simp only [Bool.and_eq_true, decide_eq_true_eq]
    omega
/-- A row of items made since B. -/
def Rws (B : Nat) (w : World) (v : Value) (k : Nat) (all : List Itm) : Prop := ∃ cs, ItV w (Nu w) all cs ∧ w.ownsRow B 36 2 v k cs
theorem Rws.quiet {B k : Nat} {w w' : World} {v : Value} {all : List Itm} (h : Rws B w v k all) (t : Turn (fun _ => False) w w') : Rws B w' v k all := by
  obtain ⟨cs, hv, ho⟩ := h
  exact ⟨cs, hv.turn t (fun _ h => h.elim) (Nu.turn t (fun _ h => h.elim)), own_turn2 t ho (fun _ _ h => h)⟩
theorem Rws.itn {B k c : Nat} {w : World} {A : Option Addr} {all : List Itm} (h : Rws B w (.slice A k c) k all) : ItN w (fun _ => False) A all := by
  obtain ⟨cs, hv, ho⟩ := h
  exact (hv.less (N' := fun _ => False) (fun _ h => h.elim)).itN ho (fun _ h => h.elim)
set_option maxHeartbeats 32000000 in
theorem lineMatch_any (As Aa Ab : Option Addr) (cs' ca cb : Nat) (ss ps qs : List B8) (w : World) (h0 : Sl w w.heap.size As (ss.map bv)) (h1 : Sl w w.heap.size Aa (ps.map bv)) (h2 : Sl w w.heap.size Ab (qs.map bv)) (m0 : ss.length ≤ maxLen) (m1 : ps.length ≤ maxLen) (m2 : qs.length ≤ maxLen) :
    Calls Try.prog 5 #[.slice As ss.length cs', .slice Aa ps.length ca, .slice Ab qs.length cb] w fun r w' => r = .returned (.bool true) ∧ Turn (fun _ => False) w w' := by
  unfold maxLen at m0 m1 m2
  have HS0 := Lib.hid h0
  have HS1 := Lib.hid h1
  have HS2 := Lib.hid h2
  clear h0 h1 h2
  by_cases hbig : 20 < ss.length ∨ 30 < ps.length ∨ 30 < qs.length
  · have HBIG := Lib.hid hbig
    have AW := Lib.hid (awake17_any w)
    have d1 : decide ((20 : Int) < (ss.length : Int)) = decide (20 < ss.length) := by rw [decide_eq_decide]; omega
    by_cases q0 : 20 < ss.length
    · have e0 : (20 : Int) < (ss.length : Int) := by omega
      clear hbig d1
      go_enter Try.func5, Try.ntmps5
      go_wp2_with (go_at_call 8; refine stop ?_)
      unfold Stop
      refine AW.out.mono ?_
      rintro r w1 ⟨rfl, t1⟩
      have HT1 := Lib.hid t1
      clear t1 AW
      go_wp2
      go_ret
      exact ⟨rfl, HT1.out⟩
    · have e0 : ¬ (20 : Int) < (ss.length : Int) := by omega
      by_cases q1 : 30 < ps.length
      · have e1 : (30 : Int) < (ps.length : Int) := by omega
        clear hbig d1
        go_enter Try.func5, Try.ntmps5
        go_wp2_with (go_at_call 8; refine stop ?_)
        unfold Stop
        refine AW.out.mono ?_
        rintro r w1 ⟨rfl, t1⟩
        have HT1 := Lib.hid t1
        clear t1 AW
        go_wp2
        go_ret
        exact ⟨rfl, HT1.out⟩
      · have e1 : ¬ (30 : Int) < (ps.length : Int) := by omega
        have e2 : (30 : Int) < (qs.length : Int) := by omega
        clear hbig d1
        go_enter Try.func5, Try.ntmps5
        go_wp2_with (go_at_call 8; refine stop ?_)
        unfold Stop
        refine AW.out.mono ?_
        rintro r w1 ⟨rfl, t1⟩
        have HT1 := Lib.hid t1
        clear t1 AW
        go_wp2
        go_ret
        exact ⟨rfl, HT1.out⟩
  have e0 : ¬ (20 : Int) < (ss.length : Int) := by omega
  have e1 : ¬ (30 : Int) < (ps.length : Int) := by omega
  have e2 : ¬ (30 : Int) < (qs.length : Int) := by omega
  clear hbig
  go_enter Try.func5, Try.ntmps5
  go_wp2
  go_loopw [7, 8, 9] (fun v t i wr => ∃ (k : Nat) (tt : Int) (A : Option Addr) (c : Nat) (all : List Itm), k ≤ ss.length ∧ i = .int .i64 k ∧ t = .int .i64 tt ∧ v = .slice A k c ∧ AllP k tt all ∧ Rws w.heap.size wr (.slice A k c) k all ∧ Turn (fun _ => False) w wr) (fun _ _ i _ => ss.length - (intOf i).toNat)
  case atStart => exact ⟨0, 1, none, 0, [], Nat.zero_le _, rfl, rfl, rfl, ⟨rfl, by decide, fun p hp => by simp at hp⟩, ⟨[], ⟨rfl, fun i p hi => by simp at hi⟩, World.ownsRow_nil _ _ _ _⟩, Turn.refl _ _⟩
  case round =>
    obtain ⟨k, tt, A, c, all, hk, rfl, rfl, rfl, hp, hr, ht⟩ := hrel
    have HP := Lib.hid hp
    have HR := Lib.hid hr
    have HT := Lib.hid ht
    clear hp hr ht
    by_cases hlt : k < ss.length
    · obtain ⟨ad, rfl, -, hc1⟩ := (HT.out.sl HS0.out (fun _ _ h => h)).at (bvs_at ss k hlt)
      obtain ⟨y, hy⟩ : ∃ y, y = ss[k] := ⟨_, rfl⟩
      rw [← hy] at hc1
      unfold bv at hc1
      have hyb := y.isLt
      obtain ⟨pb, hpb⟩ : ∃ m, m = y.toNat := ⟨_, rfl⟩
      rw [← hpb] at hc1 hyb
      clear hy hpb
      obtain ⟨d, hd⟩ : ∃ d : Int, d = (pb : Int) % 2 := ⟨_, rfl⟩
      have hd1 : 0 ≤ d ∧ d ≤ 1 := by omega
      have hdq : (pb : Int) % 2 = d := hd.symm
      have ht1 := HP.out.2.1
      have hk1 : k ≤ 20 := by omega
      obtain ⟨i0, hi, hz0, hz1, hz2⟩ := info_parts it_info
      obtain ⟨cs, hv, ho⟩ := HR.out
      have hsz := HT.out.size
      have HV := Lib.hid hv
      have HO := Lib.hid ho
      have HSZ := Lib.hid hsz
      have hu8 : IntKind.u8.wrap (k : Int) = (k : Int) := by show (k : Int) % 256 = _; omega
      clear hv ho hd hsz
      go_upto_region 9 with fail
      go_step
      iterate 21 go_step
      obtain ⟨wz, hwz⟩ : ∃ wz, wz = (wr.alloc (.cells #[.int .u8 (k : Int)] 5)).alloc (.cells #[.int .i64 (tt + d), .slice (some ⟨wr.heap.size, 0, none⟩) 1 1] 36) := ⟨_, rfl⟩
      have tz : Turn (fun _ => False) wr wz := by rw [hwz]; exact ((Turn.refl _ _).alloc _).alloc _
      have hby : bv (BitVec.ofNat 8 k) = Value.int IntKind.u8 (k : Int) := by unfold bv; rw [BitVec.toNat_ofNat, Nat.mod_eq_of_lt (by omega)]
      have hbz : wz.ownsRow wr.heap.size 5 1 (.slice (some ⟨wr.heap.size, 0, none⟩) 1 1) 1 (([BitVec.ofNat 8 k] : List B8).map bv) := by
        have h9 := own_new wr wr.heap.size 5 [bv (BitVec.ofNat 8 k)] 1 rfl (Nat.le_refl _) (by unfold maxLen; omega)
        rw [hwz, ← hby]
        exact own_turn2 ((Turn.refl (fun _ => False) _).alloc _) h9 (fun _ _ h => h)
      have hiz : wz.heap[wr.heap.size + 1]? = some (.cells #[.int .i64 (tt + d), .slice (some ⟨wr.heap.size, 0, none⟩) 1 1] 36 (0, 0)) := by rw [hwz]; exact heap_alloc2_new _ _ _
      change wpList _ _ _ _ _ ((wr.alloc (.cells #[.int .u8 (k : Int)] 5)).alloc (.cells #[.int .i64 (tt + d), .slice (some ⟨wr.heap.size, 0, none⟩) 1 1] 36))
      rw [← hwz]
      have HTZ := Lib.hid tz
      have HBZ := Lib.hid hbz
      have HIZ := Lib.hid hiz
      clear hwz tz hby hbz hiz
      refine wpList_append_own _ (o := ⟨some 52, _, _, _, _, _⟩) rfl _ _ 27 rfl w.heap.size 36 i0 (.agg #[.int .i64 0, .slice none 0 0]) 2 32 Try.underlying27 hi hz0 hz1 hz2 rfl (by decide) (.slice A k c) k cs rfl (own_turn2 HTZ.out HO.out (fun _ _ h => h)) ⟨wr.heap.size + 1, 0, none⟩ 1 1 [.int .i64 (tt + d), .slice (some ⟨wr.heap.size, 0, none⟩) 1 1] rfl rfl (fun j u hu => ?_) (fun u hu => ?_) ?_ ?_ ?_ ?_
      · rw [Addr.add_lit, cell_of_row _ _ _ _ _ _ HIZ.out, Nat.zero_add, List.getElem?_toArray]; exact hu
      · simp at hu; rcases hu with rfl | rfl <;> rfl
      · unfold maxLen; omega
      · omega
      · have := HTZ.out.size; have := HSZ.out; omega
      intro v' w9 hown hgr _
      obtain ⟨A9, c9, e9, -, -, -, -⟩ := row_slice hown
      subst e9
      have T9 : Turn (fun i => some i = (Value.slice A k c).ownBlock) wz w9 := Turn.of_grown hgr
      have hnu : ∀ i, some i = (Value.slice A k c).ownBlock → Nu wz i := fun i e => by
        obtain ⟨cur, hc9, -⟩ := row_block (own_turn2 HTZ.out HO.out (fun _ _ h => h)) e.symm
        exact nu_item hc9
      have HAP := Lib.hid (HP.out.snoc (d := d) (b := [BitVec.ofNat 8 k]) hd1 (by omega) rfl)
      have HR9 := Lib.hid (show Rws w.heap.size w9 (.slice A9 (k + 1) c9) (k + 1) (all ++ [⟨tt + d, [BitVec.ofNat 8 k]⟩]) from by
        refine ⟨_, ?_, hown⟩
        have hb9 : BtN wz (Nu wz) (some ⟨wr.heap.size, 0, none⟩) 1 [BitVec.ofNat 8 k] := bt_own HBZ.out rfl
        have hv9 : ItV wz (Nu wz) all cs := HV.out.turn HTZ.out (fun _ h => h.elim) (Nu.turn HTZ.out (fun _ h => h.elim))
        exact (hv9.turn T9 hnu (Nu.turn T9 hnu)).add ⟨⟨by show -9223372036854775808 ≤ tt + d; omega, by show tt + d < _; omega⟩, by simp [maxLen]⟩ (hb9.turn T9 hnu (Nu.turn T9 hnu)))
      have HT9 := Lib.hid (show Turn (fun _ => False) w w9 from ((HT.out.trans HTZ.out (fun _ _ h => h)).grown hgr (fun i hi e => by
        obtain ⟨cur, -, hb9⟩ := row_block HO.out e.symm
        omega)))
      clear hown hgr T9 hnu HR HT HV HO hi hz0 hz1 hz2 HTZ HBZ HIZ hu8
      go_wp2
      go_roundw
      case rel => exact ⟨k + 1, tt + d, A9, c9, _, by omega, by go_num, rfl, rfl, HAP.out, HR9.out, HT9.out⟩
      case measure => simp [intOf]; omega
    · obtain rfl : k = ss.length := by omega
      have hn20 : ss.length ≤ 20 := by omega
      clear HS0
      generalize ss.length = n at *
      obtain ⟨cs, hv, ho⟩ := HR.out
      obtain ⟨A', c', e, hc, -, hA, -⟩ := row_slice ho
      injection e with e1' _ e3'
      subst e1' e3'
      have HAC := Lib.hid (And.intro hA hc)
      clear hv ho hA hc cs
      have HN := Lib.hid HP.out.1.symm
      have HOKA := Lib.hid HP.out.2.2
      have F1 := Lib.hid (filled_any A n c all Aa ca ps wr HR.out.itn HAC.out.1 HAC.out.2 HN.out (by omega) HOKA.out ((HT.out.sl HS1.out (fun _ _ h => h)).more HT.out.size) (by omega))
      have F2 := Lib.hid (fun (w1 : World) (t : Turn (fun _ => False) wr w1) => filled_any A n c all Ab cb qs w1 (HR.out.quiet t).itn HAC.out.1 HAC.out.2 HN.out (by omega) HOKA.out (((HT.out.trans t (fun _ _ h => h)).sl HS2.out (fun _ _ h => h)).more (HT.out.trans t (fun _ _ h => h)).size) (by omega))
      unfold FilP at F1 F2
      have hle : all.length ≤ 4096 := by have := HN.out; omega
      go_wp2_with (go_at_call 23; refine stop ?_)
      unfold Stop
      refine F1.out.mono ?_
      rintro r w2 ⟨g1, v1, k1, rfl, hk1, x1⟩
      have X1 := Lib.hid x1
      clear x1 F1
      go_wp2_with (go_at_call 23; refine stop ?_)
      unfold Stop
      refine (F2.out w2 X1.out.t).mono ?_
      rintro r w3 ⟨g2, v2, k2, rfl, hk2, x2⟩
      have X2 := Lib.hid x2.l
      have X1' := Lib.hid (X1.out.l.quiet x2.t)
      have T3 := Lib.hid (HT.out.trans (X1.out.t.trans x2.t (fun _ _ h => h)) (fun _ _ h => h))
      have RI := Lib.hid (HR.out.quiet (X1.out.t.trans x2.t (fun _ _ h => h))).itn
      clear x2 F2 X1 HR
      go_wp2
      go_loopw [12] (fun i wr => ∃ j : Nat, j ≤ n ∧ i = .int .i64 j ∧ Turn (fun _ => False) w3 wr) (fun i _ => (intOf i).toNat)
      case atStart => exact ⟨n, Nat.le_refl _, rfl, Turn.refl _ _⟩
      case round =>
        obtain ⟨j, hj, rfl, ht⟩ := hrel
        have HTJ := Lib.hid ht
        clear ht
        by_cases hj0 : j = 0
        · subst hj0
          go_wp2_with (go_at_call 8; refine stop ?_)
          unfold Stop
          refine (awake17_any _).mono ?_
          rintro r w5 ⟨rfl, t5⟩
          have HT5 := Lib.hid (T3.out.trans (HTJ.out.trans t5 (fun _ _ h => h)) (fun _ _ h => h))
          clear t5
          go_wp2
          go_ret
          exact ⟨rfl, HT5.out⟩
        · have hjp : (0 : Int) < (j : Int) := by omega
          have hj1 : 1 ≤ j := by omega
          have TA := lterm_any g1 v1 _ _ (X1'.out.quiet HTJ.out) (j : Int)
          have TB := fun (w' : World) (t : Turn (fun _ => False) w3 w') => lterm_any g2 v2 _ _ (X2.out.quiet t) (j : Int)
          have HTH1 := Lib.hid (fun h => Frt.th_iff HOKA.out hle (k := k1) (j := j) (by have := HN.out; omega) h)
          have HTH2 := Lib.hid (fun h => Frt.th_iff HOKA.out hle (k := k2) (j := j) (by have := HN.out; omega) h)
          generalize (Frt all k1).th (j : Int) = u1 at *
          generalize (Frt all k2).th (j : Int) = u2 at *
          generalize (Frt all k1).tm (j : Int) = p1 at *
          generalize (Frt all k2).tm (j : Int) = p2 at *
          have TA := Lib.hid TA
          have TB := Lib.hid TB
          by_cases hc : u1 = true ∧ u2 = true ∧ p1 = p2
          · obtain ⟨rfl, rfl, rfl⟩ := hc
            have qq : (p1 == p1) = true := by simp
            have hq1 : j ≤ k1 := HTH1.out rfl
            have hq2 : j ≤ k2 := HTH2.out rfl
            go_wp2_with (go_at_call 24; refine stop ?_)
            unfold Stop
            refine TA.out.mono ?_
            rintro r w4 ⟨rfl, t4⟩
            have HT4 := Lib.hid (HTJ.out.trans t4 (fun _ _ h => h))
            clear t4 TA
            go_wp2_with (go_at_call 24; refine stop ?_)
            unfold Stop
            refine (TB.out w4 HT4.out).mono ?_
            rintro r wr5 ⟨rfl, t5⟩
            have HT5 := Lib.hid (HT4.out.trans t5 (fun _ _ h => h))
            clear t5 TB
            have FA := fun (w' : World) (t : Turn (fun _ => False) w3 w') => lfrom_any g1 v1 _ w' (X1'.out.quiet t) 1 (j : Int)
            have FB := fun (w' : World) (t : Turn (fun _ => False) w3 w') => lfrom_any g2 v2 _ w' (X2.out.quiet t) 1 (j : Int)
            unfold FPost at FA FB
            rw [Frt.from_take (by have := HN.out; omega) (by omega) hq1] at FA
            rw [Frt.from_take (by have := HN.out; omega) (by omega) hq2] at FB
            have hln : (all.take j).length = j := by rw [List.length_take]; have := HN.out; omega
            rw [hln] at FA FB
            have RT := Lib.hid (fun (w' : World) (t : Turn (fun _ => False) w3 w') => (RI.out.quiet t).front j)
            have SM := fun (A1 A2 : Option Addr) (a1 a2 : Nat) (w' : World) (h : ItN w' (fun _ => False) A1 (all.take j)) (h' : ItN w' (fun _ => False) A2 (all.take j)) => rsameI_any A1 A2 a1 a2 _ _ (all.take j) (all.take j) w' h h' (by rw [hln]; omega) (by rw [hln]; omega)
            rw [hln, decide_eq_true rfl] at SM
            have FA := Lib.hid FA
            have FB := Lib.hid FB
            have SM := Lib.hid SM
            generalize all.take j = AL at *
            clear qq
            have hnc := HAC.out.2
            obtain ⟨ad, rfl⟩ : ∃ ad, A = some ad := by
              cases A with
              | none => have := HAC.out.1 rfl; omega
              | some ad => exact ⟨ad, rfl⟩
            go_upto_region 19 with fail
            have HWS := Lib.hid (fun (w' : World) (k : Stp wr5.drew w') => show Turn (fun _ => False) wr5 w' from Turn.of_below (stp_start k (Below.refl _ _)))
            refine wp_region_rel_tail 19 112 (by kernel_rfl) (by kernel_rfl) Stp [.one ?_, .one ?_, .rel (fun v w => ∃ A c, v = .slice A j c ∧ ItN w (fun _ => False) A AL), .one ?_, .one ?_, .rel (fun v w => ∃ A c, v = .slice A j c ∧ ItN w (fun _ => False) A AL), .one (.bool true), .one ?_, .one ?_, .one ?_, .rel (fun v w => ∃ A c, v = .slice A j c ∧ ItN w (fun _ => False) A AL), .one ?_, .one ?_, .one ?_, .one (.bool true), .one ?_, .one ?_, .one ?_, .one ?_] (by kernel_rfl) rfl (by kernel_rfl) Stp.refl Stp.trans ⟨fun v w w1 ⟨A, c, e, h⟩ hs => ⟨A, c, e, h.quiet (Turn.of_below hs)⟩, fun v w w1 ⟨A, c, e, h⟩ hs => ⟨A, c, e, h.quiet (Turn.of_below hs)⟩, fun v w w1 ⟨A, c, e, h⟩ hs => ⟨A, c, e, h.quiet (Turn.of_below hs)⟩, trivial⟩ ?main
            case main =>
            simp only [List.take_succ_cons, List.take_zero, List.drop_succ_cons, List.drop_zero]
            iterate 2
              refine wpR_one (A' := ?_) Stp.refl (by rfl) _ rfl 112 (by rfl) (by rfl) ?_ ?_ ?_
              rotate_left 1
              · simp only [Act.put, List.setIfInBounds_toArray, List.set_cons_zero, List.set_cons_succ]; rfl
              · intro w1 hs hf K hK
                go_big_quiet_op
                first
                  | go_big_quiet_on
                  | (refine ⟨_, fun _ _ => rfl, ?_⟩; go_big_quiet_on)
                rfl
            refine wpR_rel (A' := ?_) (by rfl) ?_ ?_ ?_
            · intro w1 hs hf
              have T1 := HT5.out.trans (HWS.out w1 hs) (fun _ _ h => h)
              refine does_call (w' := w1) (f := 17) (args := #[.pointer (some ⟨g1, 0, none⟩), .int .i64 1, .int .i64 (j : Int)]) (by kernel_rfl) ((FA.out w1 T1).mono ?_)
              rintro e w3 ⟨A3, c3, rfl, hi, t3⟩
              exact ⟨_, rfl, ⟨A3, c3, rfl, hi⟩, turn_stp' t3⟩
            rotate_left 1
            · intro x
              simp only [Act.put, List.setIfInBounds_toArray, List.set_cons_zero, List.set_cons_succ]; rfl
            intro x94
            iterate 2
              refine wpR_one (A' := ?_) Stp.refl (by rfl) _ rfl 112 (by rfl) (by rfl) ?_ ?_ ?_
              rotate_left 1
              · simp only [Act.put, List.setIfInBounds_toArray, List.set_cons_zero, List.set_cons_succ]; rfl
              · intro w1 hs hf K hK
                go_big_quiet_op
                first
                  | go_big_quiet_on
                  | (refine ⟨_, fun _ _ => rfl, ?_⟩; go_big_quiet_on)
                rfl
            refine wpR_rel (A' := ?_) (by rfl) ?_ ?_ ?_
            · intro w1 hs hf
              have T1 := HT5.out.trans (HWS.out w1 hs) (fun _ _ h => h)
              refine does_call (w' := w1) (f := 17) (args := #[.pointer (some ⟨g2, 0, none⟩), .int .i64 1, .int .i64 (j : Int)]) (by kernel_rfl) ((FB.out w1 T1).mono ?_)
              rintro e w3 ⟨A3, c3, rfl, hi, t3⟩
              exact ⟨_, rfl, ⟨A3, c3, rfl, hi⟩, turn_stp' t3⟩
            rotate_left 1
            · intro x
              simp only [Act.put, List.setIfInBounds_toArray, List.set_cons_zero, List.set_cons_succ]; rfl
            intro x97
            refine wpR_do (A' := ?_) (by rfl) ?_ ?_ ?_
            · intro w1 hs hf
              obtain ⟨Aa9, ca9, ea, hia⟩ := AllF_at hf 1 rfl (by kernel_rfl)
              obtain ⟨Ab9, cb9, eb, hib⟩ := AllF_at hf 0 rfl (by kernel_rfl)
              have ea : x94 = .slice Aa9 j ca9 := ea
              have eb : x97 = .slice Ab9 j cb9 := eb
              subst ea eb
              refine does_call (w' := w1) (f := 16) (args := #[.slice Aa9 j ca9, .slice Ab9 j cb9]) (by kernel_rfl) ((SM.out _ _ _ _ w1 hia hib).mono ?_)
              rintro e w3 ⟨rfl, m3, hw3⟩
              exact ⟨_, rfl, rfl, by rw [hw3]; exact turn_stp' ((Turn.refl _ _).drewN _)⟩
            rotate_left 1
            · simp only [Act.put, List.setIfInBounds_toArray, List.set_cons_zero, List.set_cons_succ]; rfl
            iterate 1
              refine wpR_one (A' := ?_) Stp.refl (by rfl) _ rfl 112 (by rfl) (by rfl) ?_ ?_ ?_
              rotate_left 1
              · simp only [Act.put, List.setIfInBounds_toArray, List.set_cons_zero, List.set_cons_succ]; rfl
              · intro w1 hs hf K hK
                go_big_quiet_op
                first
                  | go_big_quiet_on
                  | (refine ⟨_, fun _ _ => rfl, ?_⟩; go_big_quiet_on)
                rfl
            iterate 2
              refine wpR_one (A' := ?_) Stp.refl (by rfl) _ rfl 112 (by rfl) (by rfl) ?_ ?_ ?_
              rotate_left 1
              · simp only [Act.put, List.setIfInBounds_toArray, List.set_cons_zero, List.set_cons_succ]; rfl
              · intro w1 hs hf K hK
                go_big_quiet_op
                first
                  | go_big_quiet_on
                  | (refine ⟨_, fun _ _ => rfl, ?_⟩; go_big_quiet_on)
                rfl
            refine wpR_rel (A' := ?_) (by rfl) ?_ ?_ ?_
            · intro w1 hs hf
              have T1 := HT5.out.trans (HWS.out w1 hs) (fun _ _ h => h)
              refine does_call (w' := w1) (f := 17) (args := #[.pointer (some ⟨g1, 0, none⟩), .int .i64 1, .int .i64 (j : Int)]) (by kernel_rfl) ((FA.out w1 T1).mono ?_)
              rintro e w3 ⟨A3, c3, rfl, hi, t3⟩
              exact ⟨_, rfl, ⟨A3, c3, rfl, hi⟩, turn_stp' t3⟩
            rotate_left 1
            · intro x
              simp only [Act.put, List.setIfInBounds_toArray, List.set_cons_zero, List.set_cons_succ]; rfl
            intro x102
            iterate 3
              refine wpR_one (A' := ?_) Stp.refl (by rfl) _ rfl 112 (by rfl) (by rfl) ?_ ?_ ?_
              rotate_left 1
              · simp only [Act.put, List.setIfInBounds_toArray, List.set_cons_zero, List.set_cons_succ]; rfl
              · intro w1 hs hf K hK
                go_big_quiet_op
                first
                  | go_big_quiet_on
                  | (refine ⟨_, fun _ _ => rfl, ?_⟩; go_big_quiet_on)
                rfl
            refine wpR_do (A' := ?_) (by rfl) ?_ ?_ ?_
            · intro w1 hs hf
              obtain ⟨Aa9, ca9, ea, hia⟩ := AllF_at hf 0 rfl (by kernel_rfl)
              have ea : x102 = .slice Aa9 j ca9 := ea
              subst ea
              have hib := RT.out w1 (HT5.out.trans (HWS.out w1 hs) (fun _ _ h => h))
              refine does_call (w' := w1) (f := 16) (args := #[.slice Aa9 j ca9, .slice (some ad) j c]) (by kernel_rfl) ((SM.out _ _ _ _ w1 hia hib).mono ?_)
              rintro e w3 ⟨rfl, m3, hw3⟩
              exact ⟨_, rfl, rfl, by rw [hw3]; exact turn_stp' ((Turn.refl _ _).drewN _)⟩
            rotate_left 1
            · simp only [Act.put, List.setIfInBounds_toArray, List.set_cons_zero, List.set_cons_succ]; rfl
            iterate 2
              refine wpR_one (A' := ?_) Stp.refl (by rfl) _ rfl 112 (by rfl) (by rfl) ?_ ?_ ?_
              rotate_left 1
              · simp only [Act.put, List.setIfInBounds_toArray, List.set_cons_zero, List.set_cons_succ]; rfl
              · intro w1 hs hf K hK
                go_big_quiet_op
                first
                  | go_big_quiet_on
                  | (refine ⟨_, fun _ _ => rfl, ?_⟩; go_big_quiet_on)
                rfl
            refine wpR_one (A' := ?_) Stp.refl (by rfl) _ rfl 112 (by rfl) (by rfl) ?_ ?_ ?_
            rotate_left 1
            · simp only [Act.put, List.setIfInBounds_toArray, List.set_cons_zero, List.set_cons_succ]; rfl
            · intro w1 hs hf K hK
              go_big_quiet_op
              apply Exists.intro
              refine ⟨fun w2 h2 => ?_, ?_⟩
              · have T2 := (HWS.out w2 (Stp.trans _ _ _ hs h2))
                refine (awake17_any w2).mono ?_
                rintro e w3 ⟨rfl, t3⟩
                exact ⟨rfl, Stp.trans _ _ _ h2 (turn_stp' t3)⟩
              · go_big_quiet_on
                rfl
            iterate 1
              refine wpR_one (A' := ?_) Stp.refl (by rfl) _ rfl 112 (by rfl) (by rfl) ?_ ?_ ?_
              rotate_left 1
              · simp only [Act.put, List.setIfInBounds_toArray, List.set_cons_zero, List.set_cons_succ]; rfl
              · intro w1 hs hf K hK
                go_big_quiet_op
                first
                  | go_big_quiet_on
                  | (refine ⟨_, fun _ _ => rfl, ?_⟩; go_big_quiet_on)
                rfl
            intro w9 hs9 hf9
            have T9 := Lib.hid (HWS.out w9 hs9)
            clear hs9 HWS
            have T19 := Lib.hid (T3.out.trans (HT5.out.trans T9.out (fun _ _ h => h)) (fun _ _ h => h))
            clear hf9
            go_wp2
            go_ret
            exact ⟨rfl, T19.out⟩
          · skip
            go_wp2_with (go_at_call 24; refine stop ?_)
            unfold Stop
            refine TA.out.mono ?_
            rintro r w4 ⟨rfl, t4⟩
            have HT4 := Lib.hid (HTJ.out.trans t4 (fun _ _ h => h))
            clear t4 TA
            go_wp2_with (go_at_call 24; refine stop ?_)
            unfold Stop
            refine (TB.out w4 HT4.out).mono ?_
            rintro r wr5 ⟨rfl, t5⟩
            have HT5 := Lib.hid (HT4.out.trans t5 (fun _ _ h => h))
            clear t5 TB
            cases u1 with
            | false =>
              clear hc
              go_wp2
              go_roundw
              case rel => exact ⟨j - 1, by omega, by rw [show ((j - 1 : Nat) : Int) = (j : Int) - 1 by omega], HT5.out⟩
              case measure => simp [intOf]; omega
            | true =>
              cases u2 with
              | false =>
                clear hc
                go_wp2
                go_roundw
                case rel => exact ⟨j - 1, by omega, by rw [show ((j - 1 : Nat) : Int) = (j : Int) - 1 by omega], HT5.out⟩
                case measure => simp [intOf]; omega
              | true =>
                have qq : (p1 == p2) = false := by rw [beq_eq_false_iff_ne]; exact fun e => hc ⟨rfl, rfl, e⟩
                clear hc
                go_wp2
                go_roundw
                case rel => exact ⟨j - 1, by omega, by rw [show ((j - 1 : Nat) : Int) = (j : Int) - 1 by omega], HT5.out⟩
                case measure => simp [intOf]; omega
theorem lineMatch_walk (A0 : Option Addr) (c0 : Nat) (l0 : List B8) (A1 : Option Addr) (c1 : Nat) (l1 : List B8) (A2 : Option Addr) (c2 : Nat) (l2 : List B8) (w : World) (s0 : Sl w w.heap.size A0 (l0.map bv)) (m0 : l0.length ≤ maxLen) (s1 : Sl w w.heap.size A1 (l1.map bv)) (m1 : l1.length ≤ maxLen) (s2 : Sl w w.heap.size A2 (l2.map bv)) (m2 : l2.length ≤ maxLen) :
    Calls Try.prog 5 #[.slice A0 l0.length c0, .slice A1 l1.length c1, .slice A2 l2.length c2] w fun r w' => r = .returned (.bool true) ∧ Below w.heap.size w w' :=
  (lineMatch_any A0 A1 A2 c0 c1 c2 l0 l1 l2 w s0 s1 s2 m0 m1 m2).mono fun _ _ ⟨h1, h2⟩ => ⟨h1, turn_stp' h2⟩
end Go.Proofs.Ytgjplbanfnomkaa
