/- The walk of DrumPlays. -/
import Derived.Test.YtodeblffnbbcaaaLdO
import Derived.Deep.RegionHeld3
set_option linter.unusedVariables false
namespace Go.Proofs.Ytodeblffnbbcaaa
open Go.RowKit
theorem lay_max (d : Dr) (a : Int) : ({ d with fuse := (max a 0).toNat } : Dr) = d.lay a := by
  unfold Dr.lay
  congr 1
  omega
theorem readV_len {d : Dr} {n : Nat} (ok : d.Ok n) (a : Int) : (d.readV a).length ≤ maxLen := by
  unfold Dr.readV
  split
  · rename_i h
    rw [Dr.now_len ok a.toNat (Dr.readE_ok ok h).2.2]; unfold maxLen; omega
  · unfold maxLen; simp
theorem start_few (d : Dr) (M : List B8) : (d.start M).W.length = 0 := by simp [Dr.start, Dr.land]
set_option maxRecDepth 100000 in
set_option maxHeartbeats 4000000 in
theorem plays_walk (s : Int) (A : Option Addr) (c : Nat) (l : List Ac) (w : World) {p : Prop} (_ : p) (hl : Acs w w.heap.size A l) (hm : l.length ≤ maxLen) :
    Calls Try.prog 3 #[.int .i64 s, .slice A l.length c] w fun r w' => r = .returned (.bool true) ∧ Below w.heap.size w w' := by
  have HAW := Lib.hid awake_any
  unfold maxLen at hm
  by_cases hs : 1 ≤ s ∧ s ≤ 8192
  case neg =>
    have HN := Lib.hid (new_none s hs w)
    by_cases h1 : 1 ≤ s
    · have h2 : ¬ (s ≤ 8192) := fun h => hs ⟨h1, h⟩
      clear hs
      go_enter Try.func3, Try.ntmps3
      go_wp2_with (first
        | (go_at_call 7; refine HN.out.mono ?_; rintro r w1 ⟨rfl, hw1⟩; rw [hw1]; clear hw1 w1)
        | (go_at_call 8; refine (HAW.out _).mono ?_; rintro r w1 ⟨rfl, h1⟩; have H1 := Lib.hid h1; clear h1))
      go_ret
      exact ⟨rfl, H1.out.below (fun i _ h => h) (Nat.le_refl _)⟩
    · clear hs
      go_enter Try.func3, Try.ntmps3
      go_wp2_with (first
        | (go_at_call 7; refine HN.out.mono ?_; rintro r w1 ⟨rfl, hw1⟩; rw [hw1]; clear hw1 w1)
        | (go_at_call 8; refine (HAW.out _).mono ?_; rintro r w1 ⟨rfl, h1⟩; have H1 := Lib.hid h1; clear h1))
      go_ret
      exact ⟨rfl, H1.out.below (fun i _ h => h) (Nat.le_refl _)⟩
  obtain ⟨n, rfl⟩ : ∃ n : Nat, s = (n : Int) := ⟨s.toNat, by omega⟩
  have hn1 : 1 ≤ n := by omega
  have hn2 : n ≤ 8192 := by omega
  have p1 : decide ((1 : Int) ≤ (n : Int)) = true := decide_eq_true (by omega)
  have p2 : decide ((n : Int) ≤ 8192) = true := decide_eq_true (by omega)
  have p3 : decide (1 ≤ n) = true := decide_eq_true hn1
  have p4 : decide (n ≤ 8192) = true := decide_eq_true hn2
  clear hs
  have HN := Lib.hid (new_any n hn1 hn2 w)
  by_cases h12 : 12 < n
  · have q1 : decide ((12 : Int) < (n : Int)) = true := decide_eq_true (by omega)
    go_enter Try.func3, Try.ntmps3
    go_wp2_with (first
      | (go_at_call 7; refine HN.out.mono ?_; rintro r w1 ⟨g1, rfl, -, hb1⟩; have HB1 := Lib.hid hb1; clear hb1)
      | (go_at_call 8; refine (HAW.out _).mono ?_; rintro r w2 ⟨rfl, h2⟩; have H2 := Lib.hid h2; clear h2))
    go_ret
    exact ⟨rfl, HB1.out.trans ((H2.out.below (fun i _ h => h) (Nat.le_refl _)).mono HB1.out.size)⟩
  have q1 : decide ((12 : Int) < (n : Int)) = false := decide_eq_false (by omega)
  by_cases h60 : 60 < l.length
  · go_enter Try.func3, Try.ntmps3
    go_wp2_with (first
      | (go_at_call 7; refine HN.out.mono ?_; rintro r w1 ⟨g1, rfl, -, hb1⟩; have HB1 := Lib.hid hb1; clear hb1)
      | (go_at_call 8; refine (HAW.out _).mono ?_; rintro r w2 ⟨rfl, h2⟩; have H2 := Lib.hid h2; clear h2))
    go_ret
    exact ⟨rfl, HB1.out.trans ((H2.out.below (fun i _ h => h) (Nat.le_refl _)).mono HB1.out.size)⟩
  have HL := Lib.hid hl
  clear hl
  go_enter Try.func3, Try.ntmps3
  go_wp2_with (first
    | (go_at_call 7; refine HN.out.mono ?_; rintro r w1 ⟨g1, rfl, ⟨Sv1, h1⟩, hb1⟩; have HB1 := Lib.hid hb1; have H1 := Lib.hid h1; clear hb1 h1 HN)
    | (go_at_call 9; refine stop ?_))
  unfold Stop
  refine (rnew_any n (by omega) w1).mono ?_
  rintro r w2 ⟨rfl, ⟨Lv, vs, h2⟩, hb2⟩
  have hp : Both w w2 g1 w1.heap.size n (Dr.new n) (Dr.new n) (Since w w1) (Since w1 w2) :=
    ⟨⟨_, _, H1.out.keep (Turn.of_below hb2) (fun _ _ h => h)⟩, ⟨_, _, _, _, h2⟩, fun k h h' => by have := h.2; have := h'.1; omega, fun k h => h.1, fun k h => Nat.le_trans HB1.out.size h.1,
      ((Turn.of_below HB1.out).trans (Turn.of_below hb2) (fun _ _ h => h)).mono fun _ _ h => h.elim⟩
  have HP := Lib.hid hp
  obtain ⟨g2, hg2⟩ : ∃ g2, g2 = w1.heap.size := ⟨_, rfl⟩
  rw [← hg2] at HP ⊢
  clear hp h2 hb2 H1 HB1 hg2
  go_wp2
  go_loopw [7] (fun i wr => ∃ (m : Nat) (d : Dr) (D1 D2 : Nat → Prop), m ≤ l.length ∧ i = .int .i64 (m : Int) ∧ Both w wr g1 g2 n d d D1 D2 ∧ d.W.length ≤ m) (fun i _ => l.length - (intOf i).toNat)
  case atStart => exact ⟨0, _, _, _, Nat.zero_le _, rfl, HP.out, by simp [Dr.new]⟩
  case round =>
    obtain ⟨m, d, D1, D2, hml, rfl, hp, hw⟩ := hrel
    have HP := Lib.hid hp
    clear hp
    by_cases hlt : m < l.length
    · obtain ⟨f, hf⟩ : ∃ f, f = l[m] := ⟨_, rfl⟩
      obtain ⟨hok, b0, o0, rfl, hb0, hrng⟩ := HL.out m f (by rw [hf]; exact List.getElem?_eq_getElem hlt)
      have hc : ∀ j v, f.cells[j]? = some v → wr.cell? ⟨b0, o0 + m * 4 + j, none⟩ = some v := fun j v hj => HP.out.t.cell (hrng j v hj) (by show ¬ (w.heap.size ≤ b0); omega)
      have c0 := hc 0 _ rfl
      have c1 := hc 1 _ rfl
      have c2 := hc 2 _ rfl
      have c3 := hc 3 _ rfl
      rw [Nat.add_zero] at c0
      have HOK := Lib.hid hok
      have HLT := Lib.hid hlt
      have hfn := hok.n1
      clear hc hrng hf hok
      by_cases hbig : 80 < f.b.length ∨ 80 < f.m.length
      · rcases hbig with hbig | hbig
        · go_wp2_with (go_at_call 8; refine (HAW.out _).mono ?_; rintro r wa ⟨rfl, ha⟩; have HA := Lib.hid ha; clear ha)
          go_ret
          have h8 : Turn (fun k => w.heap.size ≤ k) w (wr.alloc (.cells f.cells.toArray 30)) := HP.out.t.alloc _
          exact ⟨rfl, (h8.trans HA.out (fun i hi h => Nat.le_trans h8.size h)).below (fun i _ h => h) (Nat.le_refl _)⟩
        · by_cases hb2 : 80 < f.b.length
          · go_wp2_with (go_at_call 8; refine (HAW.out _).mono ?_; rintro r wa ⟨rfl, ha⟩; have HA := Lib.hid ha; clear ha)
            go_ret
            have h8 : Turn (fun k => w.heap.size ≤ k) w (wr.alloc (.cells f.cells.toArray 30)) := HP.out.t.alloc _
            exact ⟨rfl, (h8.trans HA.out (fun i hi h => Nat.le_trans h8.size h)).below (fun i _ h => h) (Nat.le_refl _)⟩
          · go_wp2_with (go_at_call 8; refine (HAW.out _).mono ?_; rintro r wa ⟨rfl, ha⟩; have HA := Lib.hid ha; clear ha)
            go_ret
            have h8 : Turn (fun k => w.heap.size ≤ k) w (wr.alloc (.cells f.cells.toArray 30)) := HP.out.t.alloc _
            exact ⟨rfl, (h8.trans HA.out (fun i hi h => Nat.le_trans h8.size h)).below (fun i _ h => h) (Nat.le_refl _)⟩
      have hs1 : ¬ 80 < f.b.length := fun h => hbig (.inl h)
      have hs2 : ¬ 80 < f.m.length := fun h => hbig (.inr h)
      clear hbig
      go_upto_region 13 with fail
      obtain ⟨w2, hw2⟩ : ∃ w2, w2 = wr.alloc (.cells f.cells.toArray 30) := ⟨_, rfl⟩
      change Code.wp _ _ _ _ (wr.alloc (.cells f.cells.toArray 30))
      obtain ⟨ba, hba⟩ : ∃ ba, ba = wr.heap.size := ⟨_, rfl⟩
      have hnew : w2.heap[ba]? = some (.cells f.cells.toArray 30 (0, 0)) := by rw [hw2, hba]; exact heap_alloc_new wr _
      have e0 : w2.cell? ⟨ba, 0, none⟩ = some (.int .i64 f.k) := by rw [cell_of_row _ _ _ _ _ _ hnew]; rfl
      have e1 : w2.cell? ⟨ba, 1, none⟩ = some (.int .i64 f.n) := by rw [cell_of_row _ _ _ _ _ _ hnew]; rfl
      have e2 : w2.cell? ⟨ba, 2, none⟩ = some (.slice f.A f.b.length f.c) := by rw [cell_of_row _ _ _ _ _ _ hnew]; rfl
      have e3 : w2.cell? ⟨ba, 3, none⟩ = some (.slice f.A' f.m.length f.c') := by rw [cell_of_row _ _ _ _ _ _ hnew]; rfl
      have hp2 : Both w w2 g1 g2 n d d D1 D2 := by rw [hw2]; exact HP.out.quiet ((Turn.refl _ wr).alloc _)
      have nb1 : ¬ D1 ba := fun h => by have := HP.out.lt1 _ h; omega
      have nb2 : ¬ D2 ba := fun h => by have := HP.out.lt2 _ h; omega
      have hba2 : ba < w2.heap.size := lt_of_block hnew
      have HBA := Lib.hid hba2
      have HG2 := Lib.hid (show D2 g2 from by obtain ⟨_, _, _, _, h⟩ := hp2.two; exact h.ownG)
      have HP2 := Lib.hid hp2
      rw [← hw2, ← hba]
      clear hw2 hnew hp2 c0 c1 c2 c3 hba HP hba2
      by_cases k1 : f.k = 1
      · have q1 : (f.k == 1) = true := by rw [beq_iff_eq]; exact k1
        clear k1
        have HWR := Lib.hid ((HP2.out.quiet ((Turn.refl (fun _ => False) w2).drew)).write1 f.n f.A f.c f.b HOK.out.s HOK.out.l (by omega))
        go_upto_region 15 with fail
        go_region_held3 (fun w' => w'.cell? ⟨ba, 1, none⟩ = some (.int .i64 f.n) ∧ w'.cell? ⟨ba, 2, none⟩ = some (.slice f.A f.b.length f.c))
          (first | exact ⟨e1, e2⟩ | exact ⟨k1, k2⟩ | exact ⟨j1, j2⟩)
          (first
            | (go_at_call 10; refine HWR.out.mono ?_; clear HWR; rintro r w3 ⟨rfl, hp3, ht3⟩; have HP3 := Lib.hid hp3; have k1 := ht3.cell (show w2.drew.cell? _ = _ from e1) nb1; have k2 := ht3.cell (show w2.drew.cell? _ = _ from e2) nb1; have n1 : ¬ Dn D1 w2.drew w3 ba := (fun h => h.elim nb1 (fun h => absurd (show w2.heap.size ≤ ba from h.1) (Nat.not_le_of_lt HBA.out))); clear hp3 ht3)
            | (go_at_call 11; refine (HP3.out.write2 f.n f.A f.c f.b HOK.out.s HOK.out.l (by omega)).mono ?_; rintro r w4 ⟨rfl, hp4, ht4⟩; have HP4 := Lib.hid hp4; have j1 := ht4.cell k1 nb2; have j2 := ht4.cell k2 nb2; clear hp4 ht4))

        obtain ⟨d5, hd5⟩ : ∃ d5, d5 = d.write f.n f.b := ⟨_, rfl⟩
        have hn5 : d5.W.length ≤ m + 1 := by rw [hd5]; exact Nat.le_trans (write_few _ _ _) (by omega)
        rw [← hd5] at HP4
        have H5 := Lib.hid HP4.out
        have N5 := Lib.hid hn5
        clear hd5 hn5
        go_upto_region 31 with (first
          | (go_at_call 18; refine (H5.out.read1 f.n).mono ?_; rintro r w6 ⟨v, rfl, hv, hp6, ht6⟩; obtain ⟨A1, c1, rfl, hs1, hl1⟩ := hv.sl H5.out.ok; have x1 := ht6.cell j1 (fun h => h); have HS1 := Lib.hid hs1.sl; have H6 := Lib.hid hp6; clear hv hp6 ht6 hs1)
          | (go_at_call 19; refine (H6.out.read2 f.n).mono ?_; rintro r w7 ⟨A2, c2, rfl, hs2, hp7, ht7⟩; have HS2 := Lib.hid hs2; have H7 := Lib.hid hp7; have HT7 := Lib.hid ht7; clear hs2 hp7 ht7))
        have HL5 := Lib.hid (readV_len H5.out.ok f.n)
        have HBY := Lib.hid (show ∀ N, Calls Try.prog 20 #[.slice A1 (d5.readV f.n).length c1, .slice A2 (d5.readV f.n).length c2] (w7.drewN N) fun e w' => e = .returned (.bool true) ∧ ∃ m, w' = (w7.drewN N).drewN m from fun N => by
          have hby := rbytes_any A1 A2 c1 c2 _ _ (d5.readV f.n) (d5.readV f.n) (w7.drewN N) (HT7.out.sl HS1.out (fun _ _ h => h)) HS2.out HL5.out HL5.out
          rw [decide_eq_true (rfl : d5.readV f.n = d5.readV f.n)] at hby
          exact hby)
        have HON := Lib.hid (fun N => (H7.out.quiet ((Turn.refl (fun _ => False) w7).drewN N)).on)
        have HLE := Lib.hid (fun N => (H7.out.quiet ((Turn.refl (fun _ => False) w7).drewN N)).len)
        have hof : ∀ N, (w7.drewN N).cell? ⟨g2, 3, none⟩ = some (.bool d5.off) := fun N => H7.out.off
        generalize d5.readE f.n = E5
        generalize (d5.readV f.n).length = N9 at HBY ⊢
        cases ho5 : d5.off with
        | true =>
          rw [ho5] at HON hof
          clear ho5
          go_quiet (first
            | (go_at_call 20; exact Calls.quiet_of (HBY.out _))
            | (go_at_call 21; exact Calls.quiet_of_same (HON.out _))
            | (go_at_call 22; exact Calls.quiet_of_same (HLE.out _)))
          go_wp2
          have hlt2 := HLT.out
          exact ⟨⟨m + 1, d5, _, _, by omega, by go_num, H7.out.quiet ((Turn.refl (fun _ => False) w7).drewN nq), N5.out⟩, by simp [intOf]; omega⟩
        | false =>
          rw [ho5] at HON hof
          clear ho5
          go_quiet (first
            | (go_at_call 20; exact Calls.quiet_of (HBY.out _))
            | (go_at_call 21; exact Calls.quiet_of_same (HON.out _))
            | (go_at_call 22; exact Calls.quiet_of_same (HLE.out _)))
          go_wp2
          have hlt2 := HLT.out
          exact ⟨⟨m + 1, d5, _, _, by omega, by go_num, H7.out.quiet ((Turn.refl (fun _ => False) w7).drewN nq), N5.out⟩, by simp [intOf]; omega⟩

      have q1 : (f.k == 1) = false := by rw [beq_eq_false_iff_ne]; exact k1
      by_cases k2 : f.k = 2
      · have q2 : (f.k == 2) = true := by rw [beq_iff_eq]; exact k2
        clear k1 k2
        go_upto_region 29 with (first
          | (go_at_call 12; refine HP2.out.sync1.mono ?_; clear HP2; rintro r w3 ⟨rfl, hp3, ht3⟩; have HP3 := Lib.hid hp3; have x3 := ht3.cell e1 nb1; clear hp3 ht3)
          | (go_at_call 13; refine HP3.out.sync2.mono ?_; clear HP3; rintro r w4 ⟨rfl, hp4, ht4⟩; have HP4 := Lib.hid hp4; have j1 := ht4.cell x3 nb2; clear hp4 ht4))
        obtain ⟨d5, hd5⟩ : ∃ d5, d5 = d.sync := ⟨_, rfl⟩
        have hn5 : d5.W.length ≤ m + 1 := by rw [hd5]; exact Nat.le_trans (sync_few _) (by omega)
        rw [← hd5] at HP4
        have H5 := Lib.hid HP4.out
        have N5 := Lib.hid hn5
        clear hd5 hn5
        go_upto_region 31 with (first
          | (go_at_call 18; refine (H5.out.read1 f.n).mono ?_; rintro r w6 ⟨v, rfl, hv, hp6, ht6⟩; obtain ⟨A1, c1, rfl, hs1, hl1⟩ := hv.sl H5.out.ok; have x1 := ht6.cell j1 (fun h => h); have HS1 := Lib.hid hs1.sl; have H6 := Lib.hid hp6; clear hv hp6 ht6 hs1)
          | (go_at_call 19; refine (H6.out.read2 f.n).mono ?_; rintro r w7 ⟨A2, c2, rfl, hs2, hp7, ht7⟩; have HS2 := Lib.hid hs2; have H7 := Lib.hid hp7; have HT7 := Lib.hid ht7; clear hs2 hp7 ht7))
        have HL5 := Lib.hid (readV_len H5.out.ok f.n)
        have HBY := Lib.hid (show ∀ N, Calls Try.prog 20 #[.slice A1 (d5.readV f.n).length c1, .slice A2 (d5.readV f.n).length c2] (w7.drewN N) fun e w' => e = .returned (.bool true) ∧ ∃ m, w' = (w7.drewN N).drewN m from fun N => by
          have hby := rbytes_any A1 A2 c1 c2 _ _ (d5.readV f.n) (d5.readV f.n) (w7.drewN N) (HT7.out.sl HS1.out (fun _ _ h => h)) HS2.out HL5.out HL5.out
          rw [decide_eq_true (rfl : d5.readV f.n = d5.readV f.n)] at hby
          exact hby)
        have HON := Lib.hid (fun N => (H7.out.quiet ((Turn.refl (fun _ => False) w7).drewN N)).on)
        have HLE := Lib.hid (fun N => (H7.out.quiet ((Turn.refl (fun _ => False) w7).drewN N)).len)
        have hof : ∀ N, (w7.drewN N).cell? ⟨g2, 3, none⟩ = some (.bool d5.off) := fun N => H7.out.off
        generalize d5.readE f.n = E5
        generalize (d5.readV f.n).length = N9 at HBY ⊢
        cases ho5 : d5.off with
        | true =>
          rw [ho5] at HON hof
          clear ho5
          go_quiet (first
            | (go_at_call 20; exact Calls.quiet_of (HBY.out _))
            | (go_at_call 21; exact Calls.quiet_of_same (HON.out _))
            | (go_at_call 22; exact Calls.quiet_of_same (HLE.out _)))
          go_wp2
          have hlt2 := HLT.out
          exact ⟨⟨m + 1, d5, _, _, by omega, by go_num, H7.out.quiet ((Turn.refl (fun _ => False) w7).drewN nq), N5.out⟩, by simp [intOf]; omega⟩
        | false =>
          rw [ho5] at HON hof
          clear ho5
          go_quiet (first
            | (go_at_call 20; exact Calls.quiet_of (HBY.out _))
            | (go_at_call 21; exact Calls.quiet_of_same (HON.out _))
            | (go_at_call 22; exact Calls.quiet_of_same (HLE.out _)))
          go_wp2
          have hlt2 := HLT.out
          exact ⟨⟨m + 1, d5, _, _, by omega, by go_num, H7.out.quiet ((Turn.refl (fun _ => False) w7).drewN nq), N5.out⟩, by simp [intOf]; omega⟩

      have q2 : (f.k == 2) = false := by rw [beq_eq_false_iff_ne]; exact k2
      by_cases k3 : f.k = 3
      · have q3 : (f.k == 3) = true := by rw [beq_iff_eq]; exact k3
        clear k1 k2 k3
        go_upto_region 29 with (go_at_call 14; refine (HP2.out.fuse1 f.n hfn).mono ?_; clear HP2; rintro r w3 ⟨⟨v3, rfl⟩, hp3, ht3⟩; obtain ⟨⟨vf, y2⟩, z2, z3⟩ := hp3.cells; have HP3 := Lib.hid hp3; have x3 := ht3.cell e1 nb1; clear hp3 ht3)
        have hl2 := HP3.out.lay2 (max f.n 0).toNat (by omega)
        rw [lay_max, Int.toNat_of_nonneg (by omega)] at hl2
        have j1 : (w3.setCell ⟨g2, 2, none⟩ (.int .i64 (max f.n 0))).cell? ⟨ba, 1, none⟩ = some (.int .i64 f.n) := ((Turn.refl (fun i => i = g2) w3).setCell ⟨g2, 2, none⟩ _ (fun _ => rfl)).cell x3 (fun e => nb2 (by have e : ba = g2 := e; rw [e]; exact HG2.out))
        obtain ⟨w4, hw4⟩ : ∃ w4, w4 = w3.setCell ⟨g2, 2, none⟩ (.int .i64 (max f.n 0)) := ⟨_, rfl⟩
        rw [← hw4] at hl2 j1 ⊢
        have HP4 := Lib.hid hl2
        clear hl2 hw4 y2 z2 z3 x3 HP3
        obtain ⟨d5, hd5⟩ : ∃ d5, d5 = d.lay f.n := ⟨_, rfl⟩
        have hn5 : d5.W.length ≤ m + 1 := by rw [hd5]; exact (show d.W.length ≤ m + 1 by omega)
        rw [← hd5] at HP4
        have H5 := Lib.hid HP4.out
        have N5 := Lib.hid hn5
        clear hd5 hn5
        go_upto_region 31 with (first
          | (go_at_call 18; refine (H5.out.read1 f.n).mono ?_; rintro r w6 ⟨v, rfl, hv, hp6, ht6⟩; obtain ⟨A1, c1, rfl, hs1, hl1⟩ := hv.sl H5.out.ok; have x1 := ht6.cell j1 (fun h => h); have HS1 := Lib.hid hs1.sl; have H6 := Lib.hid hp6; clear hv hp6 ht6 hs1)
          | (go_at_call 19; refine (H6.out.read2 f.n).mono ?_; rintro r w7 ⟨A2, c2, rfl, hs2, hp7, ht7⟩; have HS2 := Lib.hid hs2; have H7 := Lib.hid hp7; have HT7 := Lib.hid ht7; clear hs2 hp7 ht7))
        have HL5 := Lib.hid (readV_len H5.out.ok f.n)
        have HBY := Lib.hid (show ∀ N, Calls Try.prog 20 #[.slice A1 (d5.readV f.n).length c1, .slice A2 (d5.readV f.n).length c2] (w7.drewN N) fun e w' => e = .returned (.bool true) ∧ ∃ m, w' = (w7.drewN N).drewN m from fun N => by
          have hby := rbytes_any A1 A2 c1 c2 _ _ (d5.readV f.n) (d5.readV f.n) (w7.drewN N) (HT7.out.sl HS1.out (fun _ _ h => h)) HS2.out HL5.out HL5.out
          rw [decide_eq_true (rfl : d5.readV f.n = d5.readV f.n)] at hby
          exact hby)
        have HON := Lib.hid (fun N => (H7.out.quiet ((Turn.refl (fun _ => False) w7).drewN N)).on)
        have HLE := Lib.hid (fun N => (H7.out.quiet ((Turn.refl (fun _ => False) w7).drewN N)).len)
        have hof : ∀ N, (w7.drewN N).cell? ⟨g2, 3, none⟩ = some (.bool d5.off) := fun N => H7.out.off
        generalize d5.readE f.n = E5
        generalize (d5.readV f.n).length = N9 at HBY ⊢
        cases ho5 : d5.off with
        | true =>
          rw [ho5] at HON hof
          clear ho5
          go_quiet (first
            | (go_at_call 20; exact Calls.quiet_of (HBY.out _))
            | (go_at_call 21; exact Calls.quiet_of_same (HON.out _))
            | (go_at_call 22; exact Calls.quiet_of_same (HLE.out _)))
          go_wp2
          have hlt2 := HLT.out
          exact ⟨⟨m + 1, d5, _, _, by omega, by go_num, H7.out.quiet ((Turn.refl (fun _ => False) w7).drewN nq), N5.out⟩, by simp [intOf]; omega⟩
        | false =>
          rw [ho5] at HON hof
          clear ho5
          go_quiet (first
            | (go_at_call 20; exact Calls.quiet_of (HBY.out _))
            | (go_at_call 21; exact Calls.quiet_of_same (HON.out _))
            | (go_at_call 22; exact Calls.quiet_of_same (HLE.out _)))
          go_wp2
          have hlt2 := HLT.out
          exact ⟨⟨m + 1, d5, _, _, by omega, by go_num, H7.out.quiet ((Turn.refl (fun _ => False) w7).drewN nq), N5.out⟩, by simp [intOf]; omega⟩

      have q3 : (f.k == 3) = false := by rw [beq_eq_false_iff_ne]; exact k3
      by_cases k4 : f.k = 4
      · have q4 : (f.k == 4) = true := by rw [beq_iff_eq]; exact k4
        clear k1 k2 k3 k4
        go_upto_region 29 with (go_at_call 15; refine HP2.out.fail1.mono ?_; clear HP2; rintro r w3 ⟨⟨v3, rfl⟩, hp3, ht3⟩; obtain ⟨-, z2, z3⟩ := hp3.cells; have y3 := hp3.off; have HP3 := Lib.hid hp3; have x3 := ht3.cell e1 nb1; clear hp3 ht3)
        have hl2 := HP3.out.fail2
        have j1 : (w3.setCell ⟨g2, 3, none⟩ (.bool true)).cell? ⟨ba, 1, none⟩ = some (.int .i64 f.n) := ((Turn.refl (fun i => i = g2) w3).setCell ⟨g2, 3, none⟩ _ (fun _ => rfl)).cell x3 (fun e => nb2 (by have e : ba = g2 := e; rw [e]; exact HG2.out))
        obtain ⟨w4, hw4⟩ : ∃ w4, w4 = w3.setCell ⟨g2, 3, none⟩ (.bool true) := ⟨_, rfl⟩
        rw [← hw4] at hl2 j1 ⊢
        have HP4 := Lib.hid hl2
        clear hl2 hw4 y3 z2 z3 x3 HP3
        obtain ⟨d5, hd5⟩ : ∃ d5, d5 = d.fail := ⟨_, rfl⟩
        have hn5 : d5.W.length ≤ m + 1 := by rw [hd5]; exact (show d.W.length ≤ m + 1 by omega)
        rw [← hd5] at HP4
        have H5 := Lib.hid HP4.out
        have N5 := Lib.hid hn5
        clear hd5 hn5
        go_upto_region 31 with (first
          | (go_at_call 18; refine (H5.out.read1 f.n).mono ?_; rintro r w6 ⟨v, rfl, hv, hp6, ht6⟩; obtain ⟨A1, c1, rfl, hs1, hl1⟩ := hv.sl H5.out.ok; have x1 := ht6.cell j1 (fun h => h); have HS1 := Lib.hid hs1.sl; have H6 := Lib.hid hp6; clear hv hp6 ht6 hs1)
          | (go_at_call 19; refine (H6.out.read2 f.n).mono ?_; rintro r w7 ⟨A2, c2, rfl, hs2, hp7, ht7⟩; have HS2 := Lib.hid hs2; have H7 := Lib.hid hp7; have HT7 := Lib.hid ht7; clear hs2 hp7 ht7))
        have HL5 := Lib.hid (readV_len H5.out.ok f.n)
        have HBY := Lib.hid (show ∀ N, Calls Try.prog 20 #[.slice A1 (d5.readV f.n).length c1, .slice A2 (d5.readV f.n).length c2] (w7.drewN N) fun e w' => e = .returned (.bool true) ∧ ∃ m, w' = (w7.drewN N).drewN m from fun N => by
          have hby := rbytes_any A1 A2 c1 c2 _ _ (d5.readV f.n) (d5.readV f.n) (w7.drewN N) (HT7.out.sl HS1.out (fun _ _ h => h)) HS2.out HL5.out HL5.out
          rw [decide_eq_true (rfl : d5.readV f.n = d5.readV f.n)] at hby
          exact hby)
        have HON := Lib.hid (fun N => (H7.out.quiet ((Turn.refl (fun _ => False) w7).drewN N)).on)
        have HLE := Lib.hid (fun N => (H7.out.quiet ((Turn.refl (fun _ => False) w7).drewN N)).len)
        have hof : ∀ N, (w7.drewN N).cell? ⟨g2, 3, none⟩ = some (.bool d5.off) := fun N => H7.out.off
        generalize d5.readE f.n = E5
        generalize (d5.readV f.n).length = N9 at HBY ⊢
        cases ho5 : d5.off with
        | true =>
          rw [ho5] at HON hof
          clear ho5
          go_quiet (first
            | (go_at_call 20; exact Calls.quiet_of (HBY.out _))
            | (go_at_call 21; exact Calls.quiet_of_same (HON.out _))
            | (go_at_call 22; exact Calls.quiet_of_same (HLE.out _)))
          go_wp2
          have hlt2 := HLT.out
          exact ⟨⟨m + 1, d5, _, _, by omega, by go_num, H7.out.quiet ((Turn.refl (fun _ => False) w7).drewN nq), N5.out⟩, by simp [intOf]; omega⟩
        | false =>
          rw [ho5] at HON hof
          clear ho5
          go_quiet (first
            | (go_at_call 20; exact Calls.quiet_of (HBY.out _))
            | (go_at_call 21; exact Calls.quiet_of_same (HON.out _))
            | (go_at_call 22; exact Calls.quiet_of_same (HLE.out _)))
          go_wp2
          have hlt2 := HLT.out
          exact ⟨⟨m + 1, d5, _, _, by omega, by go_num, H7.out.quiet ((Turn.refl (fun _ => False) w7).drewN nq), N5.out⟩, by simp [intOf]; omega⟩

      have q4 : (f.k == 4) = false := by rw [beq_eq_false_iff_ne]; exact k4
      by_cases k5 : f.k = 5
      · have q5 : (f.k == 5) = true := by rw [beq_iff_eq]; exact k5
        clear k1 k2 k3 k4 k5
        go_upto_region 29 with (first
          | (go_at_call 16; refine (HP2.out.start1 f.A' f.c' f.m HOK.out.s' HOK.out.l').mono ?_; clear HP2; rintro r w3 ⟨⟨v3, rfl⟩, hp3, ht3⟩; have HP3 := Lib.hid hp3; have x3 := ht3.cell e1 nb1; have y3 := ht3.cell e3 nb1; clear hp3 ht3)
          | (go_at_call 17; refine (HP3.out.start2 f.A' f.c' f.m HOK.out.s' HOK.out.l').mono ?_; clear HP3; rintro r w4 ⟨⟨v4, rfl⟩, hp4, ht4⟩; have HP4 := Lib.hid hp4; have j1 := ht4.cell x3 nb2; clear hp4 ht4))
        obtain ⟨d5, hd5⟩ : ∃ d5, d5 = d.start f.m := ⟨_, rfl⟩
        have hn5 : d5.W.length ≤ m + 1 := by rw [hd5]; exact (by rw [start_few]; omega)
        rw [← hd5] at HP4
        have H5 := Lib.hid HP4.out
        have N5 := Lib.hid hn5
        clear hd5 hn5
        go_upto_region 31 with (first
          | (go_at_call 18; refine (H5.out.read1 f.n).mono ?_; rintro r w6 ⟨v, rfl, hv, hp6, ht6⟩; obtain ⟨A1, c1, rfl, hs1, hl1⟩ := hv.sl H5.out.ok; have x1 := ht6.cell j1 (fun h => h); have HS1 := Lib.hid hs1.sl; have H6 := Lib.hid hp6; clear hv hp6 ht6 hs1)
          | (go_at_call 19; refine (H6.out.read2 f.n).mono ?_; rintro r w7 ⟨A2, c2, rfl, hs2, hp7, ht7⟩; have HS2 := Lib.hid hs2; have H7 := Lib.hid hp7; have HT7 := Lib.hid ht7; clear hs2 hp7 ht7))
        have HL5 := Lib.hid (readV_len H5.out.ok f.n)
        have HBY := Lib.hid (show ∀ N, Calls Try.prog 20 #[.slice A1 (d5.readV f.n).length c1, .slice A2 (d5.readV f.n).length c2] (w7.drewN N) fun e w' => e = .returned (.bool true) ∧ ∃ m, w' = (w7.drewN N).drewN m from fun N => by
          have hby := rbytes_any A1 A2 c1 c2 _ _ (d5.readV f.n) (d5.readV f.n) (w7.drewN N) (HT7.out.sl HS1.out (fun _ _ h => h)) HS2.out HL5.out HL5.out
          rw [decide_eq_true (rfl : d5.readV f.n = d5.readV f.n)] at hby
          exact hby)
        have HON := Lib.hid (fun N => (H7.out.quiet ((Turn.refl (fun _ => False) w7).drewN N)).on)
        have HLE := Lib.hid (fun N => (H7.out.quiet ((Turn.refl (fun _ => False) w7).drewN N)).len)
        have hof : ∀ N, (w7.drewN N).cell? ⟨g2, 3, none⟩ = some (.bool d5.off) := fun N => H7.out.off
        generalize d5.readE f.n = E5
        generalize (d5.readV f.n).length = N9 at HBY ⊢
        cases ho5 : d5.off with
        | true =>
          rw [ho5] at HON hof
          clear ho5
          go_quiet (first
            | (go_at_call 20; exact Calls.quiet_of (HBY.out _))
            | (go_at_call 21; exact Calls.quiet_of_same (HON.out _))
            | (go_at_call 22; exact Calls.quiet_of_same (HLE.out _)))
          go_wp2
          have hlt2 := HLT.out
          exact ⟨⟨m + 1, d5, _, _, by omega, by go_num, H7.out.quiet ((Turn.refl (fun _ => False) w7).drewN nq), N5.out⟩, by simp [intOf]; omega⟩
        | false =>
          rw [ho5] at HON hof
          clear ho5
          go_quiet (first
            | (go_at_call 20; exact Calls.quiet_of (HBY.out _))
            | (go_at_call 21; exact Calls.quiet_of_same (HON.out _))
            | (go_at_call 22; exact Calls.quiet_of_same (HLE.out _)))
          go_wp2
          have hlt2 := HLT.out
          exact ⟨⟨m + 1, d5, _, _, by omega, by go_num, H7.out.quiet ((Turn.refl (fun _ => False) w7).drewN nq), N5.out⟩, by simp [intOf]; omega⟩

      have q5 : (f.k == 5) = false := by rw [beq_eq_false_iff_ne]; exact k5
      clear k1 k2 k3 k4 k5
      go_upto_region 29 with fail
      have HP4 := HP2
      have j1 := e1
      obtain ⟨d5, hd5⟩ : ∃ d5, d5 = d := ⟨_, rfl⟩
      have hn5 : d5.W.length ≤ m + 1 := by rw [hd5]; exact (by omega)
      rw [← hd5] at HP4
      have H5 := Lib.hid HP4.out
      have N5 := Lib.hid hn5
      clear hd5 hn5
      go_upto_region 31 with (first
        | (go_at_call 18; refine (H5.out.read1 f.n).mono ?_; rintro r w6 ⟨v, rfl, hv, hp6, ht6⟩; obtain ⟨A1, c1, rfl, hs1, hl1⟩ := hv.sl H5.out.ok; have x1 := ht6.cell j1 (fun h => h); have HS1 := Lib.hid hs1.sl; have H6 := Lib.hid hp6; clear hv hp6 ht6 hs1)
        | (go_at_call 19; refine (H6.out.read2 f.n).mono ?_; rintro r w7 ⟨A2, c2, rfl, hs2, hp7, ht7⟩; have HS2 := Lib.hid hs2; have H7 := Lib.hid hp7; have HT7 := Lib.hid ht7; clear hs2 hp7 ht7))
      have HL5 := Lib.hid (readV_len H5.out.ok f.n)
      have HBY := Lib.hid (show ∀ N, Calls Try.prog 20 #[.slice A1 (d5.readV f.n).length c1, .slice A2 (d5.readV f.n).length c2] (w7.drewN N) fun e w' => e = .returned (.bool true) ∧ ∃ m, w' = (w7.drewN N).drewN m from fun N => by
        have hby := rbytes_any A1 A2 c1 c2 _ _ (d5.readV f.n) (d5.readV f.n) (w7.drewN N) (HT7.out.sl HS1.out (fun _ _ h => h)) HS2.out HL5.out HL5.out
        rw [decide_eq_true (rfl : d5.readV f.n = d5.readV f.n)] at hby
        exact hby)
      have HON := Lib.hid (fun N => (H7.out.quiet ((Turn.refl (fun _ => False) w7).drewN N)).on)
      have HLE := Lib.hid (fun N => (H7.out.quiet ((Turn.refl (fun _ => False) w7).drewN N)).len)
      have hof : ∀ N, (w7.drewN N).cell? ⟨g2, 3, none⟩ = some (.bool d5.off) := fun N => H7.out.off
      generalize d5.readE f.n = E5
      generalize (d5.readV f.n).length = N9 at HBY ⊢
      cases ho5 : d5.off with
      | true =>
        rw [ho5] at HON hof
        clear ho5
        go_quiet (first
          | (go_at_call 20; exact Calls.quiet_of (HBY.out _))
          | (go_at_call 21; exact Calls.quiet_of_same (HON.out _))
          | (go_at_call 22; exact Calls.quiet_of_same (HLE.out _)))
        go_wp2
        have hlt2 := HLT.out
        exact ⟨⟨m + 1, d5, _, _, by omega, by go_num, H7.out.quiet ((Turn.refl (fun _ => False) w7).drewN nq), N5.out⟩, by simp [intOf]; omega⟩
      | false =>
        rw [ho5] at HON hof
        clear ho5
        go_quiet (first
          | (go_at_call 20; exact Calls.quiet_of (HBY.out _))
          | (go_at_call 21; exact Calls.quiet_of_same (HON.out _))
          | (go_at_call 22; exact Calls.quiet_of_same (HLE.out _)))
        go_wp2
        have hlt2 := HLT.out
        exact ⟨⟨m + 1, d5, _, _, by omega, by go_num, H7.out.quiet ((Turn.refl (fun _ => False) w7).drewN nq), N5.out⟩, by simp [intOf]; omega⟩

    · obtain rfl : m = l.length := by omega
      clear hlt hw
      go_wp2_with (first
        | (go_at_call 16; refine (HP.out.start1 none 0 [] (Sl.none _ _ _) (by unfold maxLen; simp)).mono ?_; clear HP; rintro r w3 ⟨⟨v3, rfl⟩, hp3, -⟩; have HP3 := Lib.hid hp3; clear hp3)
        | (go_at_call 17; refine (HP3.out.start2 none 0 [] (Sl.none _ _ _) (by unfold maxLen; simp)).mono ?_; clear HP3; rintro r w4 ⟨⟨v4, rfl⟩, hp4, -⟩; have HP4 := Lib.hid hp4; clear hp4))
      obtain ⟨d5, hd5⟩ : ∃ d5, d5 = d.start [] := ⟨_, rfl⟩
      rw [← hd5] at HP4
      clear hd5
      go_loopw [13] (fun i wr => ∃ (k : Nat) (D1 D2 : Nat → Prop), k ≤ n ∧ i = .int .i64 (k : Int) ∧ Both w wr g1 g2 n d5 d5 D1 D2) (fun i _ => n - (intOf i).toNat)
      case atStart => exact ⟨0, _, _, Nat.zero_le _, rfl, HP4.out⟩
      case round =>
        obtain ⟨k, D1', D2', hk, rfl, hp⟩ := hrel
        have H5 := Lib.hid hp
        clear hp
        by_cases hkn : k < n
        · have r1 : decide ((k : Int) < (n : Int)) = true := decide_eq_true (by omega)
          have r2 : decide (k < n) = true := decide_eq_true hkn
          go_wp2_with (first
            | (go_at_call 18; refine (H5.out.read1 (k : Int)).mono ?_; rintro r w6 ⟨v, rfl, hv, hp6, ht6⟩; obtain ⟨A1, c1, rfl, hs1, hl1⟩ := hv.sl H5.out.ok; have HS1 := Lib.hid hs1.sl; have H6 := Lib.hid hp6; clear hv hp6 ht6 hs1)
            | (go_at_call 19; refine (H6.out.read2 (k : Int)).mono ?_; rintro r w7 ⟨A2, c2, rfl, hs2, hp7, ht7⟩; have HS2 := Lib.hid hs2; have H7 := Lib.hid hp7; have HT7 := Lib.hid ht7; clear hs2 hp7 ht7)
            | (go_at_call 20; refine stop ?_))
          unfold Stop
          have hby := rbytes_any A1 A2 c1 c2 _ _ (d5.readV (k : Int)) (d5.readV (k : Int)) w7 (HT7.out.sl HS1.out (fun _ _ h => h)) HS2.out (readV_len H5.out.ok _) (readV_len H5.out.ok _)
          rw [decide_eq_true (rfl : d5.readV (k : Int) = d5.readV (k : Int))] at hby
          refine hby.mono ?_
          clear hby
          rintro r w8 ⟨rfl, n8, hw8⟩
          have hp8 : Both w w8 g1 g2 n d5 d5 D1' D2' := by rw [hw8]; exact H7.out.quiet ((Turn.refl (fun _ => False) w7).drewN n8)
          have H8 := Lib.hid hp8
          clear hw8 hp8
          go_wp2
          exact ⟨⟨k + 1, _, _, by omega, by go_num, H8.out⟩, by simp [intOf]; omega⟩
        · have r1 : decide ((k : Int) < (n : Int)) = false := decide_eq_false (by omega)
          have r2 : decide (k < n) = false := decide_eq_false hkn
          go_wp2_with (go_at_call 8; refine (HAW.out _).mono ?_; rintro r wa ⟨rfl, ha⟩; have HA := Lib.hid ha; clear ha)
          go_ret
          exact ⟨rfl, (H5.out.t.trans HA.out (fun i hi h => Nat.le_trans H5.out.t.size h)).below (fun i _ h => h) (Nat.le_refl _)⟩
end Go.Proofs.Ytodeblffnbbcaaa
