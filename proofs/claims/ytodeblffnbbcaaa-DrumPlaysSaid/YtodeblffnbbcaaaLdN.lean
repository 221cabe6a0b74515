/- Two landed drums that share no block; the walk of DrumApart. -/
import Derived.Test.YtodeblffnbbcaaaLdM
set_option linter.unusedVariables false
namespace Go.Proofs.Ytodeblffnbbcaaa
open Go.RowKit
structure Pair (w0 w : World) (g1 g2 n : Nat) (d o : Dr) (D1 D2 : Nat → Prop) : Prop where
  one : ∃ Sv Wv, LMem w g1 Sv Wv d n D1
  two : ∃ Sv Wv, LMem w g2 Sv Wv o n D2
  apart : ∀ k, D1 k → ¬ D2 k
  new1 : ∀ k, D1 k → w0.heap.size ≤ k
  new2 : ∀ k, D2 k → w0.heap.size ≤ k
  t : Turn (fun k => w0.heap.size ≤ k) w0 w
section
variable {w0 w w2 : World} {g1 g2 n : Nat} {d o : Dr} {D1 D2 : Nat → Prop}
theorem Pair.swap (h : Pair w0 w g1 g2 n d o D1 D2) : Pair w0 w g2 g1 n o d D2 D1 := ⟨h.two, h.one, fun k a b => h.apart k b a, h.new2, h.new1, h.t⟩
theorem Pair.lt1 (h : Pair w0 w g1 g2 n d o D1 D2) (k : Nat) (hk : D1 k) : k < w.heap.size := by obtain ⟨_, _, h1⟩ := h.one; exact h1.lt k hk
theorem Pair.ok1 (h : Pair w0 w g1 g2 n d o D1 D2) : d.Ok n := by obtain ⟨_, _, h1⟩ := h.one; exact h1.ok
theorem Pair.quiet (h : Pair w0 w g1 g2 n d o D1 D2) (t : Turn (fun _ => False) w w2) : Pair w0 w2 g1 g2 n d o D1 D2 := by
  obtain ⟨⟨a, b, h1⟩, ⟨a', b', h2⟩, h3, h4, h5, h6⟩ := h
  exact ⟨⟨a, b, h1.keep t (fun _ _ h => h)⟩, ⟨a', b', h2.keep t (fun _ _ h => h)⟩, h3, h4, h5, h6.trans t (fun _ _ h => h.elim)⟩
/-- The first one's blocks are turned, or new. -/
theorem Pair.step (h : Pair w0 w g1 g2 n d o D1 D2) {w' : World} {d' : Dr} {D' : Nat → Prop} {Sv Wv : Value} (t : Turn D1 w w') (h1 : LMem w' g1 Sv Wv d' n D') (hD : ∀ k, D' k → Dn D1 w w' k) : Pair w0 w' g1 g2 n d' o D' D2 := by
  obtain ⟨-, ⟨a', b', h2⟩, h3, h4, h5, h6⟩ := h
  refine ⟨⟨_, _, h1⟩, ⟨a', b', h2.keep t (fun k hk h => h3 k h hk)⟩, fun k hk hk2 => ?_, fun k hk => ?_, h5, h6.trans t (fun k _ h => h4 k h)⟩
  · rcases hD k hk with h | h
    · exact h3 k h hk2
    · have := h2.lt k hk2; omega
  · rcases hD k hk with h | h
    · exact h4 k h
    · exact Nat.le_trans h6.size h.1
theorem Pair.on (h : Pair w0 w g1 g2 n d o D1 D2) : Calls Try.prog 21 #[.pointer (some ⟨g1, 0, none⟩)] w fun r w' => r = .returned (.bool (!d.off)) ∧ w' = w := by
  obtain ⟨Sv, Wv, h1⟩ := h.one
  exact lon_any g1 n Sv Wv d _ w h1
theorem Pair.read (h : Pair w0 w g1 g2 n d o D1 D2) (a : Int) : Calls Try.prog 18 #[.pointer (some ⟨g1, 0, none⟩), .int .i64 a] w fun r w' => ∃ v, r = .returned (.tuple #[v, .int .i64 (d.readE a : Int)]) ∧ RdV w w' d a v ∧ Pair w0 w' g1 g2 n d o D1 D2 ∧ Turn (fun _ => False) w w' := by
  obtain ⟨Sv, Wv, h1⟩ := h.one
  refine (lread_any g1 n Sv Wv d _ a w h1).mono ?_
  rintro r w' ⟨v, hr, h2, h3⟩
  exact ⟨v, hr, h2, h.quiet h3, h3⟩
theorem Pair.write (h : Pair w0 w g1 g2 n d o D1 D2) (a : Int) (A : Option Addr) (c : Nat) (bb : List B8) (hM : SlN w D1 A (bb.map bv)) (hMl : bb.length ≤ maxLen) (hroom : d.W.length < 10000) :
    Calls Try.prog 10 #[.pointer (some ⟨g1, 0, none⟩), .int .i64 a, .slice A bb.length c] w fun r w' => r = .returned (.int .i64 (d.writeE a bb : Int)) ∧ Pair w0 w' g1 g2 n (d.write a bb) o (Dn D1 w w') D2 ∧ Turn D1 w w' := by
  obtain ⟨Sv, Wv, h1⟩ := h.one
  refine (lwrite_any g1 n Sv Wv d _ a A c bb w h1 hM hMl hroom).mono ?_
  rintro r w' ⟨hr, ⟨Wv', h2⟩, h3⟩
  exact ⟨hr, h.step h3 h2 (fun _ h => h), h3⟩
theorem Pair.start (h : Pair w0 w g1 g2 n d o D1 D2) (A : Option Addr) (c : Nat) (M : List B8) (hM : SlN w D1 A (M.map bv)) (hMl : M.length ≤ maxLen) :
    Calls Try.prog 16 #[.pointer (some ⟨g1, 0, none⟩), .slice A M.length c] w fun r w' => (∃ v, r = .returned v) ∧ Pair w0 w' g1 g2 n (d.start M) o D1 D2 ∧ Turn D1 w w' := by
  obtain ⟨Sv, Wv, h1⟩ := h.one
  refine (lstart_any g1 n Sv Wv d _ A c M w h1 hM hMl).mono ?_
  rintro r w' ⟨hr, h2, h3⟩
  exact ⟨hr, h.step h3 h2 (fun _ h => .inl h), h3⟩
theorem Pair.sync (h : Pair w0 w g1 g2 n d o D1 D2) : Calls Try.prog 12 #[.pointer (some ⟨g1, 0, none⟩)] w fun r w' => r = .returned (.int .i64 (d.syncE : Int)) ∧ Pair w0 w' g1 g2 n d.sync o D1 D2 ∧ Turn D1 w w' := by
  obtain ⟨Sv, Wv, h1⟩ := h.one
  refine (lsync_any g1 n Sv Wv d _ w h1).mono ?_
  rintro r w' ⟨hr, ⟨Wv', h2⟩, h3⟩
  exact ⟨hr, h.step h3 h2 (fun _ h => .inl h), h3⟩
end
/-- An empty slice of its own. -/
theorem empty_sl (w : World) (D : Nat → Prop) (A : Option Addr) : SlN w D A (([] : List B8).map bv) := fun j u hu => by simp at hu
theorem since_new {w w' : World} {v : Value} {x : B8} (h : w'.ownsRow w.heap.size 5 1 v 64 ((fullS x).map bv)) : ∃ A c, v = .slice A (fullS x).length c ∧ SlN w' (fun k => k < w.heap.size) A ((fullS x).map bv) := full_sl h _ (fun _ h => h)
theorem on_readE {d : Dr} (h : d.Ok 6) (hn : d.off = false) (a : Nat) (ha : a < 6) : d.readE (a : Int) = 0 := by
  unfold Dr.readE
  rw [h.len, hn, if_neg (by simp), if_pos (by omega)]
theorem zero_full : zeros 64 = fullS 0 := rfl
theorem zero_len : (zeros 64).length = 64 := by simp [zeros]
set_option maxRecDepth 100000 in
set_option maxHeartbeats 2000000 in
theorem apart_walk (A : Option Addr) (c : Nat) (l : List Ac) (w : World) (hl : Acs w w.heap.size A l) (hm : l.length ≤ maxLen) :
    Calls Try.prog 5 #[.slice A l.length c] w fun r w' => r = .returned (.bool true) ∧ Below w.heap.size w w' := by
  have HAW := Lib.hid awake_any
  unfold maxLen at hm
  by_cases h30 : 30 < l.length
  · go_enter Try.func5, Try.ntmps5
    go_wp2_with (go_at_call 8; refine (HAW.out _).mono ?_; rintro r w1 ⟨rfl, h1⟩; have H1 := Lib.hid h1; clear h1)
    go_ret
    exact ⟨rfl, H1.out.below (fun i _ h => h) (Nat.le_refl _)⟩
  have HL := Lib.hid hl
  clear hl
  go_enter Try.func5, Try.ntmps5
  go_wp2_with (go_at_call 7; refine stop ?_)
  unfold Stop
  refine (new_any 6 (by omega) (by omega) w).mono ?_
  rintro r w1 ⟨g1, rfl, ⟨Sv1, h1⟩, hb1⟩
  have H1 := Lib.hid h1
  have HB1 := Lib.hid hb1
  clear h1 hb1
  go_wp2_with (go_at_call 7; refine stop ?_)
  unfold Stop
  refine (new_any 6 (by omega) (by omega) w1).mono ?_
  rintro r w2 ⟨g2, rfl, ⟨Sv2, h2⟩, hb2⟩
  have hp : Pair w w2 g1 g2 6 (Dr.new 6) (Dr.new 6) (Since w w1) (Since w1 w2) :=
    ⟨⟨_, _, H1.out.keep (Turn.of_below hb2) (fun _ _ h => h)⟩, ⟨_, _, h2⟩, fun k h h' => by have := h.2; have := h'.1; omega, fun k h => h.1, fun k h => Nat.le_trans HB1.out.size h.1,
      ((Turn.of_below HB1.out).trans (Turn.of_below hb2) (fun _ _ h => h)).mono fun _ _ h => h.elim⟩
  have HP := Lib.hid hp
  clear hp h2 hb2 H1 HB1
  go_wp2
  go_loopw [5] (fun i wr => ∃ (m : Nat) (d o : Dr) (D1 D2 : Nat → Prop), m ≤ l.length ∧ i = .int .i64 (m : Int) ∧ Pair w wr g1 g2 6 d o D1 D2 ∧ Two d o ∧ d.W.length ≤ m ∧ o.W.length ≤ m) (fun i _ => l.length - (intOf i).toNat)
  case atStart => exact ⟨0, _, _, _, _, Nat.zero_le _, rfl, HP.out, Two.new, by simp [Dr.new], by simp [Dr.new]⟩
  case round =>
    obtain ⟨m, d, o, D1, D2, hml, rfl, hp, ht, hw1, hw2⟩ := hrel
    have HP := Lib.hid hp
    have HT := Lib.hid ht
    clear hp ht
    by_cases hlt : m < l.length
    · obtain ⟨f, hf⟩ : ∃ f, f = l[m] := ⟨_, rfl⟩
      obtain ⟨hok, b0, o0, rfl, hb0, hrng⟩ := HL.out m f (by rw [hf]; exact List.getElem?_eq_getElem hlt)
      have hc : ∀ j v, f.cells[j]? = some v → wr.cell? ⟨b0, o0 + m * 4 + j, none⟩ = some v := fun j v hj => HP.out.t.cell (hrng j v hj) (by show ¬ (w.heap.size ≤ b0); omega)
      have c0 := hc 0 _ rfl
      have c1 := hc 1 _ rfl
      have c2 := hc 2 _ rfl
      have c3 := hc 3 _ rfl
      rw [Nat.add_zero] at c0
      have HLT := Lib.hid hlt
      clear hc hrng hf
      have HFU := Lib.hid (fun wq => full_any (BitVec.ofNat 8 (m + 1)) wq)
      rw [show ((BitVec.ofNat 8 (m + 1)).toNat : Int) = ((m + 1 : Nat) : Int) from by rw [BitVec.toNat_ofNat]; omega] at HFU
      go_upto_region 12 with (go_at_call 23; refine (HFU.out _).mono ?_; rintro r w2 ⟨v, rfl, hv, t2⟩; obtain ⟨A2, c2', rfl, hA2⟩ := since_new hv; have HA2 := Lib.hid hA2; have e0 := t2.cell (show World.cell? _ ⟨wr.heap.size, 0, none⟩ = some (.int .i64 f.k) from by rw [cell_of_row _ _ _ _ _ _ (heap_alloc_new wr _)]; rfl) (fun h => h); have e1 := t2.cell (show World.cell? _ ⟨wr.heap.size, 1, none⟩ = some (.int .i64 f.n) from by rw [cell_of_row _ _ _ _ _ _ (heap_alloc_new wr _)]; rfl) (fun h => h); have hp2 := HP.out.quiet (((Turn.refl (fun _ => False) wr).alloc _).trans t2 (fun _ _ h => h)); have HP2 := Lib.hid hp2; clear hv hA2 t2 hp2)
      have hA3 : SlN w2 D1 A2 ((fullS (BitVec.ofNat 8 (m + 1))).map bv) := by
        intro j u hu
        obtain ⟨ad, ea, hn, hc⟩ := HA2.out j u hu
        refine ⟨ad, ea, fun h => hn ?_, hc⟩
        have := HP.out.lt1 _ h
        simp; omega
      have hA4 : ∀ w3, Turn D1 w2 w3 → SlN w3 D2 A2 ((fullS (BitVec.ofNat 8 (m + 1))).map bv) := by
        intro w3 t3 j u hu
        obtain ⟨ad, ea, hn, hc⟩ := HA2.out j u hu
        refine ⟨ad, ea, fun h => hn ?_, t3.cell hc (by rw [add_block]; intro h; exact hn (by have := HP.out.lt1 _ h; simp; omega))⟩
        have := HP.out.swap.lt1 _ h
        simp; omega
      obtain ⟨bb, hbb⟩ : ∃ bb, bb = fullS (BitVec.ofNat 8 (m + 1)) := ⟨_, rfl⟩
      have hb64 : bb.length = 64 := by rw [hbb]; simp [fullS]
      rw [← hbb] at hA3 hA4 ⊢
      have HA3 := Lib.hid hA3
      have HA4 := Lib.hid hA4
      have HB64 := Lib.hid hb64
      have HBL := Lib.hid (show bb.length ≤ maxLen by rw [hb64]; unfold maxLen; omega)
      clear hA3 hA4 hbb hb64 HFU HA2 HP
      by_cases k1 : f.k = 1
      · have q1 : (f.k == 1) = true := by rw [beq_iff_eq]; exact k1
        clear k1
        go_wp2_with (go_at_call 24; refine stop ?_)
        unfold Stop
        refine (pick_any f.n 6 w2 (by omega) (by omega)).mono ?_
        rintro r w3 ⟨⟨k, hk, rfl⟩, hw3⟩
        rw [hw3]
        clear hw3 w3
        have HWR := Lib.hid (HP2.out.write (k : Int) A2 c2' bb HA3.out HBL.out (by omega))
        rw [on_writeE HT.out.okd HT.out.fd HT.out.nd k hk bb HB64.out] at HWR
        have HTW := Lib.hid (HT.out.write k hk bb HB64.out)
        have HOW := Lib.hid (on_writeE HT.out.oko HT.out.fo HT.out.no k hk bb HB64.out)
        by_cases k4 : k = 4
        · rw [if_pos k4] at HTW
          have q4 : ((k : Int) == 4) = true := by rw [beq_iff_eq]; omega
          clear k4
          go_wp2_with (first
            | (go_at_call 10; refine HWR.out.mono ?_; clear HWR; rintro r w3 ⟨rfl, hp3, ht3⟩; have HP3 := Lib.hid hp3; have HA5 := Lib.hid (HA4.out w3 ht3); clear hp3 ht3 HA4)
            | (go_at_call 10; have hwr := HP3.out.swap.write (k : Int) A2 c2' bb HA5.out HBL.out (by omega); rw [HOW.out] at hwr; refine hwr.mono ?_; clear hwr; rintro r w4 ⟨rfl, hp4, -⟩; have HP4 := Lib.hid hp4; clear hp4))
          exact ⟨⟨m + 1, _, _, _, _, by omega, by go_num, HP4.out.swap, HTW.out, Nat.le_trans (write_few _ _ _) (by omega), Nat.le_trans (write_few _ _ _) (by omega)⟩, by simp [intOf]; omega⟩
        · rw [if_neg k4] at HTW
          have q4 : ((k : Int) == 4) = false := by rw [beq_eq_false_iff_ne]; omega
          clear k4
          go_wp2_with (go_at_call 10; refine HWR.out.mono ?_; clear HWR; rintro r w3 ⟨rfl, hp3, ht3⟩; have HP3 := Lib.hid hp3; clear hp3 ht3 HA4)
          exact ⟨⟨m + 1, _, _, _, _, by omega, by go_num, HP3.out, HTW.out, Nat.le_trans (write_few _ _ _) (by omega), by omega⟩, by simp [intOf]; omega⟩
      · have q1 : (f.k == 1) = false := by rw [beq_eq_false_iff_ne]; exact k1
        by_cases k2 : f.k = 2
        · have q2 : (f.k == 2) = true := by rw [beq_iff_eq]; exact k2
          have HTS := Lib.hid HT.out.sync
          clear k1 k2
          go_wp2_with (first
            | (go_at_call 12; refine HP2.out.sync.mono ?_; clear HP2; rintro r w3 ⟨rfl, hp3, -⟩; have HP3 := Lib.hid hp3; clear hp3)
            | (go_at_call 12; refine HP3.out.swap.sync.mono ?_; clear HP3; rintro r w4 ⟨rfl, hp4, -⟩; have HP4 := Lib.hid hp4; clear hp4))
          exact ⟨⟨m + 1, _, _, _, _, by omega, by go_num, HP4.out.swap, HTS.out, Nat.le_trans (sync_few _) (by omega), Nat.le_trans (sync_few _) (by omega)⟩, by simp [intOf]; omega⟩
        · have q2 : (f.k == 2) = false := by rw [beq_eq_false_iff_ne]; exact k2
          by_cases k5 : f.k = 5
          · have q5 : (f.k == 5) = true := by rw [beq_iff_eq]; exact k5
            have HTS := Lib.hid HT.out.start
            clear k1 k2 k5
            go_wp2_with (first
              | (go_at_call 16; refine ((HP2.out.quiet ((Turn.refl (fun _ => False) w2).alloc _)).start _ 0 [] (empty_sl _ _ _) (by unfold maxLen; simp)).mono ?_; clear HP2; rintro r w3 ⟨⟨v3, rfl⟩, hp3, -⟩; have HP3 := Lib.hid hp3; clear hp3)
              | (go_at_call 16; refine ((HP3.out.quiet ((Turn.refl (fun _ => False) w3).alloc _)).swap.start _ 0 [] (empty_sl _ _ _) (by unfold maxLen; simp)).mono ?_; clear HP3; rintro r w4 ⟨⟨v4, rfl⟩, hp4, -⟩; have HP4 := Lib.hid hp4; clear hp4))
            exact ⟨⟨m + 1, _, _, _, _, by omega, by go_num, HP4.out.swap, HTS.out, by simp [Dr.start, Dr.land], by simp [Dr.start, Dr.land]⟩, by simp [intOf]; omega⟩
          · have q5 : (f.k == 5) = false := by rw [beq_eq_false_iff_ne]; exact k5
            clear k1 k2 k5
            go_wp2
            exact ⟨⟨m + 1, _, _, _, _, by omega, by go_num, HP2.out, HT.out, by omega, by omega⟩, by simp [intOf]; omega⟩
    · obtain rfl : m = l.length := by omega
      clear hlt hw1 hw2
      have r4 := on_readE HT.out.okd HT.out.nd 4 (by omega)
      have r4' := on_readE HT.out.oko HT.out.no 4 (by omega)
      have r3 := on_readE HT.out.oko HT.out.no 3 (by omega)
      have hf4 := HT.out.four
      have hl4 := Dr.now_len HT.out.oko 4 (by omega)
      obtain ⟨s, hs⟩ : ∃ s, s = o.now 4 := ⟨_, rfl⟩
      rw [← hs] at hf4 hl4
      have R4 := Lib.hid r4
      have R4' := Lib.hid r4'
      have R3 := Lib.hid r3
      have HF4 := Lib.hid hf4
      have HS4 := Lib.hid hs
      have HL4 := Lib.hid hl4
      have HS3 := Lib.hid HT.out.three
      clear r4 r4' r3 hf4 hs hl4 HT
      go_wp2_with (go_at_call 18; refine stop ?_)
      unfold Stop
      have hrd := HP.out.read ((4 : Nat) : Int)
      rw [R4.out] at hrd
      refine hrd.mono ?_
      clear hrd
      rintro r w3 ⟨v, rfl, hv, hp3, -⟩
      rcases hv with ⟨hv, -⟩ | ⟨-, ga, rfl, -, hh⟩
      · exact absurd R4.out hv
      rw [show ((4 : Nat) : Int).toNat = 4 from rfl, HF4.out] at hh
      have HA := Lib.hid hh
      have HP3 := Lib.hid hp3
      clear hh hp3 HP
      go_wp2_with (go_at_call 18; refine stop ?_)
      unfold Stop
      have hrd := HP3.out.swap.read ((4 : Nat) : Int)
      rw [R4'.out] at hrd
      refine hrd.mono ?_
      clear hrd
      rintro r w4 ⟨v, rfl, hv, hp4, ht4⟩
      rcases hv with ⟨hv, -⟩ | ⟨-, gb, rfl, -, hh⟩
      · exact absurd R4'.out hv
      rw [show ((4 : Nat) : Int).toNat = 4 from rfl, ← HS4.out] at hh
      have HA4 := Lib.hid (ht4.heap HA.out (fun h => h))
      have HB := Lib.hid hh
      have HP4 := Lib.hid hp4
      clear hh hp4 ht4 HP3 HA
      go_wp2_with (go_at_call 18; refine stop ?_)
      unfold Stop
      have hrd := HP4.out.read ((3 : Nat) : Int)
      rw [R3.out] at hrd
      refine hrd.mono ?_
      clear hrd
      rintro r w5 ⟨v, rfl, hv, hp5, ht5⟩
      rcases hv with ⟨hv, -⟩ | ⟨-, gc, rfl, -, hh⟩
      · exact absurd R3.out hv
      rw [show ((3 : Nat) : Int).toNat = 3 from rfl, HS3.out] at hh
      have HA5 := Lib.hid (ht5.heap HA4.out (fun h => h))
      have HB5 := Lib.hid (ht5.heap HB.out (fun h => h))
      have HC := Lib.hid hh
      have HP5 := Lib.hid hp5
      clear hh hp5 ht5 HP4 HA4 HB
      have HY1 : Hid (Calls Try.prog 20 #[.slice (some ⟨ga, 0, none⟩) 64 64, .slice (some ⟨gb, 0, none⟩) 64 64] w5 fun e w' => e = .returned (.bool true) ∧ ∃ n, w' = w5.drewN n) := by
        have hby := rbytes_any (some ⟨ga, 0, none⟩) (some ⟨gb, 0, none⟩) 64 64 _ _ s s w5 (row_sl HA5.out) (row_sl HB5.out) (by rw [HL4.out]; unfold maxLen; omega) (by rw [HL4.out]; unfold maxLen; omega)
        rw [HL4.out, decide_eq_true (rfl : s = s)] at hby
        exact Lib.hid hby
      go_wp2_with (go_at_call 20; refine stop ?_)
      unfold Stop
      refine HY1.out.mono ?_
      clear HY1
      rintro r w6 ⟨rfl, n6, hw6⟩
      have hc6 : w6.heap[gc]? = some (.cells ((zeros 64).map bv).toArray 60 (0, 0)) := by rw [hw6]; exact HC.out
      have HC6 := Lib.hid hc6
      have T6 := Lib.hid (show Turn (fun _ => False) w5 w6 by rw [hw6]; exact (Turn.refl _ _).drewN _)
      clear hw6 hc6
      go_wp2_with (go_at_call 23; refine stop ?_)
      unfold Stop
      refine (full_any 0 w6).mono ?_
      rintro r w7 ⟨v, rfl, hv, t7⟩
      obtain ⟨A7, c7, rfl, hA7⟩ := since_new hv
      have HA7 := Lib.hid hA7.sl
      have HC7 := Lib.hid (t7.heap HC6.out (fun h => h))
      have T7 := Lib.hid t7
      clear hv hA7 t7
      go_wp2_with (go_at_call 20; refine stop ?_)
      unfold Stop
      have hby := rbytes_any (some ⟨gc, 0, none⟩) A7 64 c7 _ _ (zeros 64) (fullS 0) w7 (row_sl HC7.out) HA7.out (by rw [zero_len]; unfold maxLen; omega) (by rw [← zero_full, zero_len]; unfold maxLen; omega)
      rw [zero_len, decide_eq_true zero_full] at hby
      refine hby.mono ?_
      clear hby
      rintro r w8 ⟨rfl, n8, hw8⟩
      have T8 := Lib.hid (show Turn (fun _ => False) w7 w8 by rw [hw8]; exact (Turn.refl _ _).drewN _)
      clear hw8
      go_wp2_with (go_at_call 8; refine (HAW.out _).mono ?_; rintro r wd ⟨rfl, hd⟩; have HD := Lib.hid hd; clear hd)
      go_ret
      have h8 : Turn (fun k => w.heap.size ≤ k) w w8 := HP5.out.t.trans ((T6.out.trans T7.out (fun _ _ h => h)).trans T8.out (fun _ _ h => h)) (fun _ _ h => h.elim)
      exact ⟨rfl, (h8.trans HD.out (fun i hi h => Nat.le_trans h8.size h)).below (fun i _ h => h) (Nat.le_refl _)⟩
end Go.Proofs.Ytodeblffnbbcaaa
