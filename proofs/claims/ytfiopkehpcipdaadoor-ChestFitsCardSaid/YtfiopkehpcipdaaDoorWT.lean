/- ChestFits: whether notes would fit is told rightly. -/
import Derived.Test.YtfiopkehpcipdaaDoorR00
set_option linter.unusedVariables false
set_option linter.unusedSimpArgs false
namespace Go.Proofs.YtfiopkehpcipdaaDoor
open Go.RowKit
set_option maxRecDepth 100000
def NZ7 (B : Nat) (Z : Array Value) (v : Value) (w : World) : Prop := ∃ x, B ≤ x ∧ v = .slice (some ⟨x, 0, none⟩) 70000 70000 ∧ w.heap[x]? = some (.cells Z 5 (0, 0))
def LZ7 (B : Nat) (Z : Array Value) (v : Value) (w : World) : Prop := ∃ g x, B ≤ g ∧ v = .slice (some ⟨g, 0, none⟩) 1 1 ∧ w.heap[g]? = some (.cells #[.slice (some ⟨x, 0, none⟩) 70000 70000] 36 (0, 0)) ∧ w.heap[x]? = some (.cells Z 5 (0, 0))
theorem LZ7.stable {B : Nat} {Z : Array Value} (v : Value) (w w' : World) (h : LZ7 B Z v w) (hs : Stp w w') : LZ7 B Z v w' := by
  obtain ⟨g, x, h1, h2, h3, h4⟩ := h
  exact ⟨g, x, h1, h2, (hs.block g (lt_of_block h3)).trans h3, (hs.block x (lt_of_block h4)).trans h4⟩
theorem LZ7.lst {B : Nat} {Z : Array Value} {v : Value} {w : World} (hZ : Z = ((zeros 70000).map bv).toArray) (h : LZ7 B Z v w) : ∃ A, v = .slice A 1 1 ∧ LstN w A [zeros 70000] := by
  obtain ⟨g, x, -, rfl, h3, h4⟩ := h
  refine ⟨_, rfl, fun i xs hi => ?_⟩
  match i, hi with
  | 0, hi =>
    injection hi with hi
    subst hi
    refine ⟨_, some ⟨x, 0, none⟩, 70000, rfl, by rw [Addr.add_lit, cell_of_row _ _ _ _ _ _ h3, zeros_len]; rfl, by rw [zeros_len]; exact Nat.le_refl _, (fun e => by cases e), fun j u hu => ⟨_, rfl, ?_⟩⟩
    rw [Addr.add_lit, cell_of_row _ _ _ _ _ _ h4, hZ, List.getElem?_toArray, Nat.zero_add]
    exact hu
theorem does_make7 {o : Oper} {a : Act} {w w' : World} {R : Value → World → Prop} {x y : Operand} {n : Int} {v : Value} (ho : o.op = .makeSlice 36 x y) (hx : a.eval x = .int .i64 n) (hy : a.eval y = .int .i64 n) (hr : (Instr.makeSlice 36 (.int .i64 n) (.int .i64 n)).run Tryd.prog w = .ok v w') (h : R v w') : doesR Tryd.prog o a w R := by
  unfold doesR execOp
  simp only [ho, hx, hy, Sem.run_bind, hr, Result.andThen_ok]
  exact h
theorem fits_long (t nn l : Nat) : fitsB t nn l [zeros 70000] = false := by
  have h : 1024 < secB t nn (zeros 70000).length := by rw [zeros_len]; unfold secB; omega
  rw [fitsB, if_pos (.inl h)]
/-- Fits of a chest in memory. -/
theorem kfits_any {w : World} {g c n : Nat} {d : Dr} {k : Ck} {D E : Nat → Prop} (h : KAt w g c n d k D E) (hn : n ≤ 8192) : ∃ s, w.cell? ⟨c, 0, none⟩ = some (.pointer (some ⟨s, 0, none⟩)) ∧ ∀ (w2 : World), Stp w w2 → ∀ (A : Option Addr) (cc : Nat) (L : List (List B8)), LstN w2 A L → L.length ≤ 1000 → (∀ x ∈ L, x.length ≤ maxLen) → Calls Tryd.prog 19 #[.pointer (some ⟨s, 0, none⟩), .slice A L.length cc] w2 (LFPost k.t k.L.length (k.fin (n / 2) - k.p) L w2) := by
  have hfin := h.ok.fin
  have ht := h.ok.t
  have hm := h.ok.m
  obtain ⟨ld, ok, ⟨s, hd, Ah, ch, NV, o, vs, bx, sb, hL1, hh, hAh, hch, ho, hv, hsc, hEs, hNE⟩, hEc, two, dj, lt⟩ := h
  obtain ⟨c0, -⟩ := bx.cells
  refine ⟨s, c0, fun w2 hs A cc L hL hl hx => ?_⟩
  obtain ⟨-, -, P, tt, nn, p, l, hb, -, hg⟩ := sbp_keep sb (Turn.of_below hs) (fun _ _ h => h)
  obtain ⟨-, rfl, rfl, rfl, rfl⟩ := hg rfl
  exact lfitsW_any w2 s k.t k.L.length (k.fin (n / 2) - k.p) P _ A cc L hb hL ht (by omega) (by omega) hx
theorem txt_arg {w0 w : World} {A : Option Addr} {l : List (List B8)} {B : Nat} (hl : LstN w0 A l) (hB : B = w0.heap.size) (t : Turn (fun _ => False) w0 w) {i : Nat} {b : List B8} (h : l[i]? = some b) : ∃ ad Ai ci, A = some ad ∧ w.cell? (ad.add i) = some (.slice Ai b.length ci) ∧ b.length ≤ ci ∧ (Ai = none → ci = 0) ∧ SlN w (fun j => B ≤ j) Ai (b.map bv) := by
  obtain ⟨ad, Ai, ci, e, h1, h2, h3, h4⟩ := hl i b h
  refine ⟨ad, Ai, ci, e, t.cell h1 (fun h => h), h2, h3, fun j u hu => ?_⟩
  obtain ⟨ad', e', hc⟩ := h4 j u hu
  have hlt := World.block_lt_of_cell? w0 _ hc
  rw [add_block] at hlt
  exact ⟨ad', e', fun h => by omega, t.cell hc (fun h => h)⟩
theorem kept_leL {t half : Int} {L : List (List B8)} {b : List B8} : (keepL t half L b).length ≤ L.length + 1 := by
  unfold keepL; split
  · simp
  · omega
/-- A Keep and what Fits says of it. -/
theorem keep_fit {d : Dr} {n : Nat} {k : Ck} (cg : CG d n k) (b : List B8) (hm : k.L.length ≤ 1000) : (keepE k.t ((n / 2 : Nat) : Int) k.L b = 0 ↔ ¬ (1024 < secB k.t k.L.length b.length ∨ k.fin (n / 2) - k.p < secB k.t k.L.length b.length)) := by
  unfold keepE
  rw [cg.left, sizeC_sec cg.iv.turn (by omega)]
  by_cases h1 : 1024 < secB k.t k.L.length b.length
  · rw [if_pos h1, if_pos (by decide)]
    constructor
    · intro h; cases h
    · intro h; exact absurd (.inl h1) h
  · rw [if_neg h1, if_neg (by omega)]
    by_cases h2 : k.fin (n / 2) - k.p < secB k.t k.L.length b.length
    · rw [if_pos (by omega)]
      constructor
      · intro h; cases h
      · intro h; exact absurd (.inr h2) h
    · rw [if_neg (by omega)]
      exact ⟨fun _ h => h.elim h1 h2, fun _ => rfl⟩
theorem keep_left {d d' : Dr} {n p' : Nat} {k : Ck} {b : List B8} (cg : CG d n k) (cg' : CG d' n ⟨k.a, k.t, k.L ++ [b], p'⟩) (hm : k.L.length ≤ 1000) (h : keepE k.t ((n / 2 : Nat) : Int) k.L b = 0) : k.fin (n / 2) - p' = (k.fin (n / 2) - k.p) - secB k.t k.L.length b.length := by
  have h1 := cg.left
  have h2 : leftC k.t ((n / 2 : Nat) : Int) (k.L ++ [b]) = ((k.fin (n / 2) - p' : Nat) : Int) := cg'.left
  unfold leftC at h1 h2
  rw [leftsC_snoc, h1, Nat.zero_add, sizeC_sec cg.iv.turn (by omega)] at h2
  have h3 := (keep_fit cg b hm).1 h
  rw [not_or] at h3
  rw [if_neg h3.1] at h2
  omega
set_option maxHeartbeats 16000000 in
theorem chestFits_of (f : Nat) (hf : f < 256) (A1 : Option Addr) (c1 : Nat) (l1 : List (List B8)) (A2 : Option Addr) (c2 : Nat) (l2 : List (List B8)) (w : World) (hG : Glob w) (hl1 : LstN w A1 l1) (hl2 : LstN w A2 l2) (x1 : ∀ x ∈ l1, x.length ≤ maxLen) (x2 : ∀ x ∈ l2, x.length ≤ maxLen) :
    Calls Tryd.prog 4 #[.int .u8 (f : Int), .slice A1 l1.length c1, .slice A2 l2.length c2] w fun r w' => r = .returned (.bool true) ∧ Turn (fun _ => False) w w' := by
  have AW := Lib.hid (fun (w' : World) (t : Turn (fun _ => False) w w') => awake14 w' (glob_turn hG t))
  obtain ⟨m1, hm1⟩ : ∃ x, x = l1.length := ⟨_, rfl⟩
  obtain ⟨m2, hm2⟩ : ∃ x, x = l2.length := ⟨_, rfl⟩
  rw [← hm1, ← hm2]
  by_cases hbig : 12 < m1 ∨ 12 < m2
  · by_cases h12 : 12 < m1
    · have d1 : decide ((12 : Int) < (m1 : Int)) = true := decide_eq_true (by omega)
      have d1' : decide (12 < m1) = true := decide_eq_true h12
      clear hbig h12 hl1 hl2 x1 x2 hm1 hm2
      go_enter Tryd.func4, Tryd.ntmps4
      go_wp2_with (go_at_call 9; refine stop ?_)
      unfold Stop
      refine (AW.out w (Turn.refl _ _)).mono ?_
      rintro r w6 ⟨rfl, t6⟩
      have T6 := Lib.hid t6
      clear t6
      go_wp2
      go_ret
      exact ⟨rfl, T6.out⟩
    · have d1 : decide ((12 : Int) < (m1 : Int)) = false := decide_eq_false (by omega)
      have d1' : decide (12 < m1) = false := decide_eq_false h12
      have d2 : decide ((12 : Int) < (m2 : Int)) = true := decide_eq_true (by omega)
      have d2' : decide (12 < m2) = true := decide_eq_true (by omega)
      clear hbig h12 hl1 hl2 x1 x2 hm1 hm2
      go_enter Tryd.func4, Tryd.ntmps4
      go_wp2_with (go_at_call 9; refine stop ?_)
      unfold Stop
      refine (AW.out w (Turn.refl _ _)).mono ?_
      rintro r w6 ⟨rfl, t6⟩
      have T6 := Lib.hid t6
      clear t6
      go_wp2
      go_ret
      exact ⟨rfl, T6.out⟩
  rw [not_or] at hbig
  obtain ⟨h12, h13⟩ := hbig
  have d1 : decide ((12 : Int) < (m1 : Int)) = false := decide_eq_false (by omega)
  have d1' : decide (12 < m1) = false := decide_eq_false h12
  have d2 : decide ((12 : Int) < (m2 : Int)) = false := decide_eq_false (by omega)
  have d2' : decide (12 < m2) = false := decide_eq_false h13
  obtain ⟨q60, hq60⟩ : ∃ k, k = f % 60 := ⟨_, rfl⟩
  have hrem : ((f : Int)).tmod 60 = (q60 : Int) := by rw [Int.tmod_eq_emod_of_nonneg (by omega)]; omega
  have hq : q60 < 60 := by omega
  obtain ⟨n, hn⟩ : ∃ n, n = 4 + q60 := ⟨_, rfl⟩
  have hn63 : 4 ≤ n ∧ n ≤ 63 := by omega
  have hni : (4 : Int) + (q60 : Int) = (n : Int) := by omega
  have NW := LD.new n (by omega) (by omega) w hG
  rw [← hni] at NW
  have NW := Lib.hid NW
  have HL1 := Lib.hid hl1
  have HL2 := Lib.hid hl2
  have HX2 := Lib.hid x2
  have HM1 := Lib.hid hm1
  have HM2 := Lib.hid hm2
  have HN := Lib.hid hn63
  clear hl1 hl2 x1 x2 hm1 hm2 hq60 hn hni hn63
  go_enter Tryd.func4, Tryd.ntmps4
  go_wp2_with (go_at_call 10; refine stop ?_)
  unfold Stop
  refine NW.out.mono ?_
  rintro r w1 ⟨g, rfl, ld1, t1⟩
  obtain ⟨b1, b2, b3, b4⟩ := chest_new (n := n) (by have := HN.out; omega)
  have OP := Lib.hid (kopen_any w1 g n (Dr.new n) _ ld1 rfl (by have := HN.out; omega) (by have := HN.out; omega) (by have := HN.out; show 0 + n / 2 + 1024 < 10000; omega))
  have T1 := Lib.hid t1
  have HB := Lib.hid (And.intro b1 (And.intro b2 (And.intro b3 b4)))
  clear NW ld1 t1 b1 b2 b3 b4 hrem hq
  go_wp2_with (go_at_call 11; refine stop ?_)
  unfold Stop
  refine OP.out.mono ?_
  rintro r w2 ⟨D2, hD2, t2, hpost⟩
  rcases hpost with ⟨-, c, E2, rfl, ka, hE2⟩ | ⟨he, -⟩
  rotate_left 1
  · exact absurd HB.out.1 he
  have cg2 := HB.out.2.1
  rw [HB.out.2.2.2] at ka cg2
  have KA := Lib.hid ka
  have CGA := Lib.hid cg2
  have TW := Lib.hid (show Turn (fun _ => False) w w2 from T1.out.trans t2 (fun k hk h => by have := h.1; omega))
  have DE := Lib.hid (show (∀ k, D2 k → w.heap.size ≤ k) ∧ (∀ k, E2 k → w.heap.size ≤ k) from ⟨fun k hk => (hD2 k hk).elim (fun h => h.1) (fun h => Nat.le_trans T1.out.size h.1), fun k hk => Nat.le_trans T1.out.size (hE2 k hk).1⟩)
  have W0 := Lib.hid HB.out.2.2.1
  obtain ⟨s, cs0, FT⟩ := kfits_any KA.out (by have := HN.out; omega)
  have FT0 := Lib.hid (FT w2 (Stp.refl _) none 0 [] (fun i x h => by cases h) (by show 0 ≤ 1000; omega) (fun x hx => by cases hx))
  clear OP ka cg2 t2 hD2 hE2 HB FT
  go_wp2_with (go_at_call 19; refine stop ?_)
  unfold Stop
  refine (show Calls Tryd.prog 19 #[.pointer (some ⟨s, 0, none⟩), .slice none 0 0] w2 _ from FT0.out).mono ?_
  rintro r w3 ⟨v, rfl, hv, t3⟩
  have hv1 : v = true := hv.2 (fun x hx => by cases hx)
  subst hv1
  have K3 := Lib.hid (KA.out.quiet t3)
  have T3 := Lib.hid (TW.out.trans t3 (fun _ _ h => h))
  clear hv t3 FT0 cs0
  go_wp2
  go_loopw [9] (fun iv wr => ∃ (i : Nat) (d : Dr) (k : Ck) (D E : Nat → Prop), i ≤ m1 ∧ iv = .int .i64 (i : Int) ∧ KAt wr g c n d k D E ∧ CG d n k ∧ d.W.length ≤ 40 * i ∧ k.L.length ≤ 1 + i ∧ ((∀ j, D j → w.heap.size ≤ j) ∧ (∀ j, E j → w.heap.size ≤ j)) ∧ Turn (fun _ => False) w wr) (fun iv _ => m1 - (intOf iv).toNat)
  case atStart => exact ⟨0, _, _, D2, E2, by omega, rfl, K3.out, CGA.out, by rw [W0.out]; exact Nat.zero_le _, Nat.le_refl _, DE.out, T3.out⟩
  case round =>
    obtain ⟨i, d, k, D, E, hi, rfl, ka, cg, hWb, hLb, hDE, ht⟩ := hrel
    clear K3 T3 DE W0 CGA KA TW
    have HK := Lib.hid ka
    have HCG := Lib.hid cg
    have HDE := Lib.hid hDE
    have HT := Lib.hid ht
    have HWB := Lib.hid hWb
    have HLB := Lib.hid hLb
    clear ka cg hDE ht hWb hLb
    obtain ⟨W5, eW5⟩ : ∃ W5, W5 = wr := ⟨_, rfl⟩
    subst eW5
    by_cases hil : i < m1
    · have HIL := Lib.hid hil
      have dl : decide ((i : Int) < (m1 : Int)) = true := decide_eq_true (by omega)
      have dl' : decide (i < m1) = true := decide_eq_true hil
      have hit : i < l1.length := by rw [← HM1.out]; exact hil
      obtain ⟨b, hb⟩ : ∃ b, b = l1[i] := ⟨_, rfl⟩
      obtain ⟨ad, Ai, ci, rfl, hcell, hci, hai, hsl⟩ := txt_arg HL1.out rfl HT.out (show l1[i]? = some b by rw [hb]; exact List.getElem?_eq_getElem hit)
      obtain ⟨lb, hlb⟩ : ∃ x, x = b.length := ⟨_, rfl⟩
      rw [← hlb] at hcell hci
      have hi30 : i < 30 := by omega
      have hwi : IntKind.i64.wrap ((i : Int) + 1) = (i : Int) + 1 := IntWalk.i64_in _ (by omega)
      by_cases h300 : 300 < lb
      · have d3 : decide ((300 : Int) < (lb : Int)) = true := decide_eq_true (by omega)
        have d3' : decide (300 < lb) = true := decide_eq_true h300
        clear hit hb hci hai hsl hlb h300
        go_wp2_with (go_at_call 9; refine stop ?_)
        unfold Stop
        refine (AW.out W5 HT.out).mono ?_
        rintro r w6 ⟨rfl, t6⟩
        have T6 := Lib.hid (HT.out.trans t6 (fun _ _ h => h))
        clear t6
        go_wp2
        go_ret
        exact ⟨rfl, T6.out⟩
      have d3 : decide ((300 : Int) < (lb : Int)) = false := decide_eq_false (by omega)
      have d3' : decide (300 < lb) = false := decide_eq_false h300
      have KP := kkeep_good HK.out HCG.out Ai ci b (by have := HN.out; omega) (hsl.turn (N' := fun j => D j ∨ E j) (Turn.refl (fun _ => False) _) (fun _ h => h.elim) (fun j _ h => h.elim (HDE.out.1 j) (HDE.out.2 j))) hai (by rw [← hlb]; exact hci) (by omega) (by have := HLB.out; omega) (by have := HWB.out; omega)
      rw [← hlb] at KP
      have KP := Lib.hid KP
      clear hit hb hci hai hsl hlb h300
      go_wp2_with (go_at_call 15; refine stop ?_)
      unfold Stop
      refine KP.out.mono ?_
      rintro r wz ⟨dz, pz, Dz, Ez, rfl, kaz, cgz, hWz, hDz, hEz, tz⟩
      have KZ := Lib.hid kaz
      have CZ := Lib.hid cgz
      have hszT := HT.out.size
      have WZ := Lib.hid (show dz.W.length ≤ 40 * (i + 1) by have := HWB.out; have := HN.out; omega)
      have LZ := Lib.hid (show (keepL k.t ((n / 2 : Nat) : Int) k.L b).length ≤ 1 + (i + 1) by have := HLB.out; have h9 := kept_leL (t := (k.t : Int)) (half := ((n / 2 : Nat) : Int)) (L := k.L) (b := b); omega)
      have DZ := Lib.hid (show (∀ j, Dz j → w.heap.size ≤ j) ∧ (∀ j, Ez j → w.heap.size ≤ j) from ⟨fun j h => (hDz j h).elim (HDE.out.1 j) (fun h => by have := h.1; omega), fun j h => (hEz j h).elim (HDE.out.2 j) (fun h => by have := h.1; omega)⟩)
      have TZ := Lib.hid (show Turn (fun _ => False) w wz from HT.out.trans tz (fun j hj h => by have := h.elim (HDE.out.1 j) (HDE.out.2 j); omega))
      clear KP kaz cgz hWz hDz hEz tz hszT
      go_wp2
      go_roundw
      case rel => exact ⟨i + 1, dz, _, Dz, Ez, by have := HIL.out; omega, by go_num, KZ.out, CZ.out, WZ.out, LZ.out, DZ.out, TZ.out⟩
      case measure => simp [intOf]; have := HIL.out; omega
    have dl : decide ((i : Int) < (m1 : Int)) = false := decide_eq_false (by omega)
    have dl' : decide (i < m1) = false := decide_eq_false hil
    have hi12 : i ≤ 12 := by omega
    obtain ⟨s, cs0, FT⟩ := kfits_any HK.out (by have := HN.out; omega)
    have FT0 := FT W5 (Stp.refl _) A2 c2 l2 (HL2.out.below (turn_stp HT.out)) (by rw [← HM2.out]; omega) HX2.out
    rw [← HM2.out] at FT0
    have FT0 := Lib.hid FT0
    clear FT hil hi
    go_wp2_with (go_at_call 19; refine stop ?_)
    unfold Stop
    refine FT0.out.mono ?_
    rintro r w6 ⟨fv, rfl, hfv, t6⟩
    have HFV := Lib.hid hfv
    have K6 := Lib.hid (HK.out.quiet t6)
    have T6 := Lib.hid (HT.out.trans t6 (fun _ _ h => h))
    have HWB2 := Lib.hid (show d.W.length ≤ 480 by have := HWB.out; omega)
    have HLB2 := Lib.hid (show k.L.length ≤ 13 by have := HLB.out; omega)
    obtain ⟨n0, hn0⟩ : ∃ x, x = k.L.length := ⟨_, rfl⟩
    obtain ⟨lf0, hlf0⟩ : ∃ x, x = k.fin (n / 2) - k.p := ⟨_, rfl⟩
    obtain ⟨t0, ht0⟩ : ∃ x, x = k.t := ⟨_, rfl⟩
    rw [← hn0, ← hlf0, ← ht0] at HFV
    have HN0 := Lib.hid hn0
    have HLF0 := Lib.hid hlf0
    have HT0 := Lib.hid ht0
    clear hfv t6 FT0 cs0 dl dl' HWB HLB hn0 hlf0 ht0 hi12
    go_wp2
    go_loopw [11, 12] (fun av iv wr => ∃ (j : Nat) (all : Bool) (d : Dr) (k : Ck) (D E : Nat → Prop), j ≤ m2 ∧ av = .bool all ∧ iv = .int .i64 (j : Int) ∧ KAt wr g c n d k D E ∧ CG d n k ∧ d.W.length ≤ 480 + 40 * j ∧ k.L.length ≤ 13 + j ∧ smallB l2 j ∧ fitsB t0 n0 lf0 (l2.take j) = all ∧ (all = true → k.t = t0 ∧ k.L.length = n0 + j ∧ k.fin (n / 2) - k.p = remB t0 n0 lf0 (l2.take j)) ∧ ((∀ j, D j → w.heap.size ≤ j) ∧ (∀ j, E j → w.heap.size ≤ j)) ∧ Turn (fun _ => False) w wr) (fun _ iv _ => m2 - (intOf iv).toNat)
    case atStart => exact ⟨0, true, d, k, D, E, by omega, rfl, rfl, K6.out, HCG.out, by have := HWB2.out; omega, by have := HLB2.out; omega, fun i hi => by omega, by rw [List.take_zero]; rfl, fun _ => ⟨HT0.out.symm, HN0.out.symm, by rw [List.take_zero]; exact HLF0.out.symm⟩, HDE.out, T6.out⟩
    case round =>
      obtain ⟨j, all, d, k, D, E, hj, rfl, rfl, ka, cg, hWb, hLb, hsm, hfit, hall, hDE, ht⟩ := hrel
      clear K6 T6 HLB2 HWB2 HDE HCG HK
      have HK := Lib.hid ka
      have HCG := Lib.hid cg
      have HDE := Lib.hid hDE
      have HT2 := Lib.hid ht
      have HWB := Lib.hid hWb
      have HLB := Lib.hid hLb
      have HSM := Lib.hid hsm
      have HFIT := Lib.hid hfit
      have HALL := Lib.hid hall
      clear ka cg hDE ht hWb hLb hsm hfit hall
      obtain ⟨wq, ewq⟩ : ∃ wq, wq = wr := ⟨_, rfl⟩
      subst ewq
      have CONT : (j < m2 ∧ all = true) ∨ (j = m2 ∨ all = false) := by
        cases all with
        | false => exact .inr (.inr rfl)
        | true => rcases Nat.lt_or_ge j m2 with h | h; exact .inl ⟨h, rfl⟩; exact .inr (.inl (by omega))
      rcases CONT with ⟨hjl, hat⟩ | hend
      · subst hat
        have HJL := Lib.hid hjl
        have dl : decide ((j : Int) < (m2 : Int)) = true := decide_eq_true (by omega)
        have dl' : decide (j < m2) = true := decide_eq_true hjl
        have hit : j < l2.length := by rw [← HM2.out]; exact hjl
        obtain ⟨b, hb⟩ : ∃ b, b = l2[j] := ⟨_, rfl⟩
        have hbj : l2[j]? = some b := by rw [hb]; exact List.getElem?_eq_getElem hit
        obtain ⟨ad, Ai, ci, e2, hcell, hci, hai, hsl⟩ := txt_arg HL2.out rfl HT2.out hbj
        subst e2
        obtain ⟨lb, hlb⟩ : ∃ x, x = b.length := ⟨_, rfl⟩
        rw [← hlb] at hcell hci
        have hj30 : j < 30 := by omega
        have hwi : IntKind.i64.wrap ((j : Int) + 1) = (j : Int) + 1 := IntWalk.i64_in _ (by omega)
        by_cases h300 : 300 < lb
        · have d3 : decide ((300 : Int) < (lb : Int)) = true := decide_eq_true (by omega)
          have d3' : decide (300 < lb) = true := decide_eq_true h300
          clear hit hb hbj hci hai hsl hlb h300
          go_wp2_with (go_at_call 9; refine stop ?_)
          unfold Stop
          refine (AW.out wq HT2.out).mono ?_
          rintro r w7 ⟨rfl, t7⟩
          have T7 := Lib.hid (HT2.out.trans t7 (fun _ _ h => h))
          clear t7
          go_wp2
          go_ret
          exact ⟨rfl, T7.out⟩
        have d3 : decide ((300 : Int) < (lb : Int)) = false := decide_eq_false (by omega)
        have d3' : decide (300 < lb) = false := decide_eq_false h300
        have KP := kkeep_good HK.out HCG.out Ai ci b (by have := HN.out; omega) (hsl.turn (N' := fun j => D j ∨ E j) (Turn.refl (fun _ => False) _) (fun _ h => h.elim) (fun j _ h => h.elim (HDE.out.1 j) (HDE.out.2 j))) hai (by rw [← hlb]; exact hci) (by omega) (by have := HLB.out; omega) (by have := HWB.out; omega)
        rw [← hlb] at KP
        have KP := Lib.hid KP
        obtain ⟨ee, hee⟩ : ∃ e, e = keepE k.t ((n / 2 : Nat) : Int) k.L b := ⟨_, rfl⟩
        have HEE := Lib.hid hee
        rw [← hee] at KP
        have hl13 := HLB.out
        obtain ⟨hkt, hkl, hkr⟩ := HALL.out rfl
        have hfit := HFIT.out
        have htk : l2.take (j + 1) = l2.take j ++ [b] := by rw [List.take_add_one, hbj]; rfl
        have hlk : (l2.take j).length = j := by rw [List.length_take]; omega
        have KF := keep_fit HCG.out b (by omega)
        have NF := Lib.hid (show smallB l2 (j + 1) ∧ (fitsB t0 n0 lf0 (l2.take (j + 1)) = decide (ee = 0)) ∧ (ee = 0 → remB t0 n0 lf0 (l2.take (j + 1)) = (k.fin (n / 2) - k.p) - secB k.t k.L.length b.length) from by
          refine ⟨fun i hi x hx => ?_, ?_, fun h0 => ?_⟩
          · by_cases hij : i < j
            · exact HSM.out i hij x hx
            · obtain rfl : i = j := by omega
              rw [hbj] at hx; injection hx with hx; rw [← hx]; omega
          · rw [htk, fits_app, hfit, hlk, fitsB, ← hkr, ← hkt, ← hkl]
            by_cases h0 : ee = 0
            · have h1 := KF.1 (by rw [← hee]; exact h0)
              rw [if_neg h1, decide_eq_true h0]; rfl
            · have h1 : ¬ ¬ (1024 < secB k.t k.L.length b.length ∨ k.fin (n / 2) - k.p < secB k.t k.L.length b.length) := fun h => h0 (by rw [hee]; exact KF.2 h)
              rw [if_pos (Decidable.not_not.1 h1), decide_eq_false h0]; rfl
          · rw [htk, rem_app, hlk, ← hkr, ← hkt, ← hkl])
        have HKT := Lib.hid (And.intro hkt hkl)
        clear hit hb hci hai hsl hlb h300 hee hkt hkl hkr hfit htk hlk KF hbj hl13
        go_wp2_with (go_at_call 15; refine stop ?_)
        unfold Stop
        refine KP.out.mono ?_
        rintro r wz ⟨dz, pz, Dz, Ez, rfl, kaz, cgz, hWz, hDz, hEz, tz⟩
        have KZ := Lib.hid kaz
        have CZ := Lib.hid cgz
        have hszT := HT2.out.size
        have WZ := Lib.hid (show dz.W.length ≤ 480 + 40 * (j + 1) by have := HWB.out; have := HN.out; omega)
        have LZ := Lib.hid (show (keepL k.t ((n / 2 : Nat) : Int) k.L b).length ≤ 13 + (j + 1) by have := HLB.out; have h9 := kept_leL (t := (k.t : Int)) (half := ((n / 2 : Nat) : Int)) (L := k.L) (b := b); omega)
        have DZ := Lib.hid (show (∀ j, Dz j → w.heap.size ≤ j) ∧ (∀ j, Ez j → w.heap.size ≤ j) from ⟨fun j h => (hDz j h).elim (HDE.out.1 j) (fun h => by have := h.1; omega), fun j h => (hEz j h).elim (HDE.out.2 j) (fun h => by have := h.1; omega)⟩)
        have TZ := Lib.hid (show Turn (fun _ => False) w wz from HT2.out.trans tz (fun j hj h => by have := h.elim (HDE.out.1 j) (HDE.out.2 j); omega))
        clear kaz cgz hWz hDz hEz tz hszT KP
        by_cases h0 : ee = 0
        · have d0 : ((ee : Int) == 0) = true := by rw [beq_iff_eq]; omega
          have hl13 := HLB.out
          have AZ := Lib.hid (show fitsB t0 n0 lf0 (l2.take (j + 1)) = true ∧ (k.t = t0 ∧ (keepL k.t ((n / 2 : Nat) : Int) k.L b).length = n0 + (j + 1) ∧ k.fin (n / 2) - pz = remB t0 n0 lf0 (l2.take (j + 1))) from by
            have hk0 : keepE k.t ((n / 2 : Nat) : Int) k.L b = 0 := by rw [← HEE.out]; exact h0
            have hkL : keepL k.t ((n / 2 : Nat) : Int) k.L b = k.L ++ [b] := by unfold keepL; rw [if_pos hk0]
            have cz := CZ.out
            rw [hkL] at cz
            refine ⟨by rw [NF.out.2.1, decide_eq_true h0], HKT.out.1, ?_, ?_⟩
            · rw [hkL, List.length_append, List.length_singleton, HKT.out.2]; omega
            · rw [NF.out.2.2 h0]; exact keep_left HCG.out cz (by omega) hk0)
          clear h0 hl13
          go_wp2
          go_roundw
          case rel => exact ⟨j + 1, true, dz, _, Dz, Ez, by have := HJL.out; omega, rfl, by go_num, KZ.out, CZ.out, WZ.out, LZ.out, NF.out.1, AZ.out.1, fun _ => AZ.out.2, DZ.out, TZ.out⟩
          case measure => simp [intOf]; have := HJL.out; omega
        · have d0 : ((ee : Int) == 0) = false := by rw [beq_eq_false_iff_ne]; omega
          have AZ := Lib.hid (show fitsB t0 n0 lf0 (l2.take (j + 1)) = false from by rw [NF.out.2.1, decide_eq_false h0])
          clear h0
          go_wp2
          go_roundw
          case rel => exact ⟨j + 1, false, dz, _, Dz, Ez, by have := HJL.out; omega, rfl, by go_num, KZ.out, CZ.out, WZ.out, LZ.out, NF.out.1, AZ.out, (fun h => by cases h), DZ.out, TZ.out⟩
          case measure => simp [intOf]; have := HJL.out; omega
      have hfv : fv = all := by
        have h1 := HFIT.out
        cases all with
        | false => exact HFV.out.1 j HSM.out h1
        | true =>
          rcases hend with h | h
          · rw [List.take_of_length_le (by rw [h, HM2.out]; exact Nat.le_refl _)] at h1
            rw [HFV.out.2 (fun x hx => by
              obtain ⟨i, hi, rfl⟩ := List.getElem_of_mem hx
              exact HSM.out i (by rw [h, HM2.out]; exact hi) _ (List.getElem?_eq_getElem hi))]
            exact h1
          · cases h
      subst hfv
      have TQ := Lib.hid HT2.out
      obtain ⟨sq, q0, FT⟩ := kfits_any (HK.out.quiet ((Turn.refl (fun _ => False) wq).drew)) (by have := HN.out; omega)
      have q0 : wq.cell? ⟨c, 0, none⟩ = some (.pointer (some ⟨sq, 0, none⟩)) := q0
      obtain ⟨cq, hcq⟩ : ∃ cq, cq = c := ⟨_, rfl⟩
      obtain ⟨Z7, hZ7⟩ : ∃ Z, Z = ((zeros 70000).map bv).toArray := ⟨_, rfl⟩
      have mk7 : ∀ wx : World, (Instr.makeSlice 36 (.int .i64 70000) (.int .i64 70000)).run Tryd.prog wx = .ok (.slice (some ⟨wx.heap.size, 0, none⟩) 70000 70000) (wx.alloc (.cells Z7 5)) := fun wx => by rw [hZ7]; exact make_bytes 70000 (by omega) wx
      have HZ7 := Lib.hid hZ7
      have FT := Lib.hid FT
      rw [← hcq] at q0 ⊢
      have e11 : (fv == fv) = true := by cases fv <;> rfl
      have e12 : decide (fv = fv) = true := decide_eq_true rfl
      clear hZ7 hcq HFV HALL HFIT
      have ENDL : (decide ((j : Int) < (m2 : Int)) = true ∧ fv = false) ∨ decide ((j : Int) < (m2 : Int)) = false := by
        rcases hend with h | h
        · right; exact decide_eq_false (by omega)
        · rcases Nat.lt_or_ge j m2 with h2 | h2
          · left; exact ⟨decide_eq_true (by omega), h⟩
          · right; exact decide_eq_false (by omega)
      rcases ENDL with ⟨dl, hfe⟩ | dl
      · subst hfe
        have dl' : decide (j < m2) = true := by rw [decide_eq_true_iff] at dl ⊢; omega
        clear hend
        go_upto_region 20 with fail
        have SN : ∀ (v : Value) (w1 w2 : World), NZ7 wq.drew.heap.size Z7 v w1 → Stp w1 w2 → NZ7 wq.drew.heap.size Z7 v w2 := fun v w1 w2 ⟨x, h1, h2, h3⟩ hs => ⟨x, h1, h2, (hs.block x (lt_of_block h3)).trans h3⟩
        have SL : ∀ (v : Value) (w1 w2 : World), LZ7 wq.drew.heap.size Z7 v w1 → Stp w1 w2 → LZ7 wq.drew.heap.size Z7 v w2 := fun v w1 w2 h hs => LZ7.stable _ _ _ h hs
        refine wp_region_rel 109 Stp [(.one ?_), (.one ?_), (.one ?_), (.one ?_), (.one ?_), (.one ?_), (.one ?_), (.one ?_), (.rel (NZ7 wq.drew.heap.size Z7)), (.rel (LZ7 wq.drew.heap.size Z7)), (.one ?_), (.one ?_), (.one ?_), (.one ?_), (.one ?_), (.one ?_), (.one ?_)] (by kernel_rfl) (by kernel_rfl) rfl (by kernel_rfl) Stp.refl Stp.trans ⟨SN, SL, trivial⟩ ?main
        case main =>
        iterate 7
          refine wpR_one (A' := ?_) Stp.refl (by rfl) _ rfl 109 (by rfl) (by rfl) ?_ ?_ ?_
          rotate_left 1
          · simp only [Act.put, List.setIfInBounds_toArray, List.set_cons_zero, List.set_cons_succ]; rfl
          · intro w1 hs hf K hK
            go_big_quiet_op
            first
              | go_big_quiet_on
              | (refine ⟨_, fun _ _ => rfl, ?_⟩; go_big_quiet_on)
            rfl
        refine wpR_one (A' := ?_) Stp.refl (by rfl) _ rfl 109 (by rfl) (by rfl) ?_ ?_ ?_
        rotate_left 1
        · simp only [Act.put, List.setIfInBounds_toArray, List.set_cons_zero, List.set_cons_succ]; rfl
        · intro w1 hs hf K hK
          refine cls_load_cell 45 (.tmp 99) rfl ⟨cq, 0, none⟩ rfl (.pointer (some ⟨sq, 0, none⟩)) (fun w h => by simp [go_sem, h]) (fun w2 h2 => (Turn.of_below (Stp.trans _ _ _ hs h2)).cell (show wq.drew.cell? _ = _ from q0) (fun h => h)) ?_
          refine hK _ ?_
          simp only [Act.put, List.setIfInBounds_toArray, List.set_cons_zero, List.set_cons_succ]
          rfl
        refine wpR_rel (A' := ?_) (by rfl) ?_ ?_ ?_
        · intro w1 hs hf
          refine does_make7 (n := 70000) rfl rfl rfl (mk7 w1) ?_
          exact ⟨⟨_, hs.size, rfl, heap_alloc_new _ _⟩, (Below.refl _ _).alloc (Nat.le_refl _) _⟩
        rotate_left 1
        · intro x
          simp only [Act.put, List.setIfInBounds_toArray, List.set_cons_zero, List.set_cons_succ]; rfl
        intro x101
        refine wpR_rel (A' := ?_) (by rfl) ?_ ?_ ?_
        · intro w1 hs hf
          obtain ⟨g1, hB1, e1, hh1⟩ := AllF_at hf 0 rfl (by kernel_rfl)
          have e1 : x101 = .slice (some ⟨g1, 0, none⟩) 70000 70000 := e1
          refine does_build_slT (.tmp 101) rfl (some ⟨g1, 0, none⟩) 70000 70000 (by rw [← e1]; rfl) ?_
          exact ⟨⟨w1.heap.size, g1, hs.size, rfl, heap_alloc_new _ _, (Turn.alloc (Turn.refl (fun _ => False) w1) _).heap hh1 (fun h => h)⟩, (Below.refl _ _).alloc (Nat.le_refl _) _⟩
        rotate_left 1
        · intro x
          simp only [Act.put, List.setIfInBounds_toArray, List.set_cons_zero, List.set_cons_succ]; rfl
        intro x102
        refine wpR_one (A' := ?_) Stp.refl (by rfl) _ rfl 109 (by rfl) (by rfl) ?_ ?_ ?_
        rotate_left 1
        · simp only [Act.put, List.setIfInBounds_toArray, List.set_cons_zero, List.set_cons_succ]; rfl
        · intro w1 hs hf K hK
          go_big_quiet_op
          apply Exists.intro
          refine ⟨fun w2 h2 => ?_, ?_⟩
          · have hx := LZ7.stable _ _ _ (show LZ7 wq.drew.heap.size Z7 x102 w1 from AllF_at hf 0 rfl (by kernel_rfl)) h2
            obtain ⟨A7, e7, hl7⟩ := LZ7.lst HZ7.out hx
            rw [e7]
            have LF := FT.out w2 (Stp.trans _ _ _ hs h2) A7 1 [zeros 70000] hl7 (by show 1 ≤ 1000; omega) (fun y hy => by rw [List.mem_singleton] at hy; rw [hy, zeros_len]; unfold maxLen; omega)
            refine (show Calls Tryd.prog 19 #[.pointer (some ⟨sq, 0, none⟩), .slice A7 1 1] w2 _ from LF).mono ?_
            rintro e w3 ⟨v, rfl, hv, t3⟩
            have hv0 : v = false := by rw [hv.2 (fun y hy => by rw [List.mem_singleton] at hy; rw [hy, zeros_len]; omega)]; exact fits_long _ _ _
            rw [hv0]
            exact ⟨rfl, Stp.trans _ _ _ h2 (turn_stp t3)⟩
          · go_big_quiet_on
            rfl
        iterate 3
          refine wpR_one (A' := ?_) Stp.refl (by rfl) _ rfl 109 (by rfl) (by rfl) ?_ ?_ ?_
          rotate_left 1
          · simp only [Act.put, List.setIfInBounds_toArray, List.set_cons_zero, List.set_cons_succ]; rfl
          · intro w1 hs hf K hK
            go_big_quiet_op
            first
              | go_big_quiet_on
              | (refine ⟨_, fun _ _ => rfl, ?_⟩; go_big_quiet_on)
            rfl
        refine wpR_one (A' := ?_) Stp.refl (by rfl) _ rfl 109 (by rfl) (by rfl) ?_ ?_ ?_
        rotate_left 1
        · simp only [Act.put, List.setIfInBounds_toArray, List.set_cons_zero, List.set_cons_succ]; rfl
        · intro w1 hs hf K hK
          go_big_quiet_op
          apply Exists.intro
          refine ⟨fun w2 h2 => ?_, ?_⟩
          · refine (AW.out w2 (TQ.out.trans (Turn.of_below (show Below wq.heap.size wq w2 from (fun h => ⟨h.os, h.tape, h.output, h.size, h.block⟩) (Stp.trans _ _ _ hs h2))) (fun _ _ h => h))).mono ?_
            rintro e w3 ⟨rfl, t3⟩
            exact ⟨rfl, Stp.trans _ _ _ h2 (turn_stp t3)⟩
          · go_big_quiet_on
            rfl
        iterate 2
          refine wpR_one (A' := ?_) Stp.refl (by rfl) _ rfl 109 (by rfl) (by rfl) ?_ ?_ ?_
          rotate_left 1
          · simp only [Act.put, List.setIfInBounds_toArray, List.set_cons_zero, List.set_cons_succ]; rfl
          · intro w1 hs hf K hK
            go_big_quiet_op
            first
              | go_big_quiet_on
              | (refine ⟨_, fun _ _ => rfl, ?_⟩; go_big_quiet_on)
            rfl
        intro w9 hs hf
        have T9 := Lib.hid (TQ.out.trans (Turn.of_below (show Below wq.heap.size wq w9 from ⟨hs.os, hs.tape, hs.output, hs.size, hs.block⟩)) (fun _ _ h => h))
        clear hs hf
        go_wp2
        go_ret
        exact ⟨rfl, T9.out⟩
      · have dl' : decide (j < m2) = false := by rw [decide_eq_false_iff_not] at dl ⊢; omega
        clear hend
        go_upto_region 20 with fail
        have SN : ∀ (v : Value) (w1 w2 : World), NZ7 wq.drew.heap.size Z7 v w1 → Stp w1 w2 → NZ7 wq.drew.heap.size Z7 v w2 := fun v w1 w2 ⟨x, h1, h2, h3⟩ hs => ⟨x, h1, h2, (hs.block x (lt_of_block h3)).trans h3⟩
        have SL : ∀ (v : Value) (w1 w2 : World), LZ7 wq.drew.heap.size Z7 v w1 → Stp w1 w2 → LZ7 wq.drew.heap.size Z7 v w2 := fun v w1 w2 h hs => LZ7.stable _ _ _ h hs
        refine wp_region_rel 109 Stp [(.one ?_), (.one ?_), (.one ?_), (.one ?_), (.one ?_), (.one ?_), (.one ?_), (.one ?_), (.rel (NZ7 wq.drew.heap.size Z7)), (.rel (LZ7 wq.drew.heap.size Z7)), (.one ?_), (.one ?_), (.one ?_), (.one ?_), (.one ?_), (.one ?_), (.one ?_)] (by kernel_rfl) (by kernel_rfl) rfl (by kernel_rfl) Stp.refl Stp.trans ⟨SN, SL, trivial⟩ ?main
        case main =>
        iterate 7
          refine wpR_one (A' := ?_) Stp.refl (by rfl) _ rfl 109 (by rfl) (by rfl) ?_ ?_ ?_
          rotate_left 1
          · simp only [Act.put, List.setIfInBounds_toArray, List.set_cons_zero, List.set_cons_succ]; rfl
          · intro w1 hs hf K hK
            go_big_quiet_op
            first
              | go_big_quiet_on
              | (refine ⟨_, fun _ _ => rfl, ?_⟩; go_big_quiet_on)
            rfl
        refine wpR_one (A' := ?_) Stp.refl (by rfl) _ rfl 109 (by rfl) (by rfl) ?_ ?_ ?_
        rotate_left 1
        · simp only [Act.put, List.setIfInBounds_toArray, List.set_cons_zero, List.set_cons_succ]; rfl
        · intro w1 hs hf K hK
          refine cls_load_cell 45 (.tmp 99) rfl ⟨cq, 0, none⟩ rfl (.pointer (some ⟨sq, 0, none⟩)) (fun w h => by simp [go_sem, h]) (fun w2 h2 => (Turn.of_below (Stp.trans _ _ _ hs h2)).cell (show wq.drew.cell? _ = _ from q0) (fun h => h)) ?_
          refine hK _ ?_
          simp only [Act.put, List.setIfInBounds_toArray, List.set_cons_zero, List.set_cons_succ]
          rfl
        refine wpR_rel (A' := ?_) (by rfl) ?_ ?_ ?_
        · intro w1 hs hf
          refine does_make7 (n := 70000) rfl rfl rfl (mk7 w1) ?_
          exact ⟨⟨_, hs.size, rfl, heap_alloc_new _ _⟩, (Below.refl _ _).alloc (Nat.le_refl _) _⟩
        rotate_left 1
        · intro x
          simp only [Act.put, List.setIfInBounds_toArray, List.set_cons_zero, List.set_cons_succ]; rfl
        intro x101
        refine wpR_rel (A' := ?_) (by rfl) ?_ ?_ ?_
        · intro w1 hs hf
          obtain ⟨g1, hB1, e1, hh1⟩ := AllF_at hf 0 rfl (by kernel_rfl)
          have e1 : x101 = .slice (some ⟨g1, 0, none⟩) 70000 70000 := e1
          refine does_build_slT (.tmp 101) rfl (some ⟨g1, 0, none⟩) 70000 70000 (by rw [← e1]; rfl) ?_
          exact ⟨⟨w1.heap.size, g1, hs.size, rfl, heap_alloc_new _ _, (Turn.alloc (Turn.refl (fun _ => False) w1) _).heap hh1 (fun h => h)⟩, (Below.refl _ _).alloc (Nat.le_refl _) _⟩
        rotate_left 1
        · intro x
          simp only [Act.put, List.setIfInBounds_toArray, List.set_cons_zero, List.set_cons_succ]; rfl
        intro x102
        refine wpR_one (A' := ?_) Stp.refl (by rfl) _ rfl 109 (by rfl) (by rfl) ?_ ?_ ?_
        rotate_left 1
        · simp only [Act.put, List.setIfInBounds_toArray, List.set_cons_zero, List.set_cons_succ]; rfl
        · intro w1 hs hf K hK
          go_big_quiet_op
          apply Exists.intro
          refine ⟨fun w2 h2 => ?_, ?_⟩
          · have hx := LZ7.stable _ _ _ (show LZ7 wq.drew.heap.size Z7 x102 w1 from AllF_at hf 0 rfl (by kernel_rfl)) h2
            obtain ⟨A7, e7, hl7⟩ := LZ7.lst HZ7.out hx
            rw [e7]
            have LF := FT.out w2 (Stp.trans _ _ _ hs h2) A7 1 [zeros 70000] hl7 (by show 1 ≤ 1000; omega) (fun y hy => by rw [List.mem_singleton] at hy; rw [hy, zeros_len]; unfold maxLen; omega)
            refine (show Calls Tryd.prog 19 #[.pointer (some ⟨sq, 0, none⟩), .slice A7 1 1] w2 _ from LF).mono ?_
            rintro e w3 ⟨v, rfl, hv, t3⟩
            have hv0 : v = false := by rw [hv.2 (fun y hy => by rw [List.mem_singleton] at hy; rw [hy, zeros_len]; omega)]; exact fits_long _ _ _
            rw [hv0]
            exact ⟨rfl, Stp.trans _ _ _ h2 (turn_stp t3)⟩
          · go_big_quiet_on
            rfl
        iterate 3
          refine wpR_one (A' := ?_) Stp.refl (by rfl) _ rfl 109 (by rfl) (by rfl) ?_ ?_ ?_
          rotate_left 1
          · simp only [Act.put, List.setIfInBounds_toArray, List.set_cons_zero, List.set_cons_succ]; rfl
          · intro w1 hs hf K hK
            go_big_quiet_op
            first
              | go_big_quiet_on
              | (refine ⟨_, fun _ _ => rfl, ?_⟩; go_big_quiet_on)
            rfl
        refine wpR_one (A' := ?_) Stp.refl (by rfl) _ rfl 109 (by rfl) (by rfl) ?_ ?_ ?_
        rotate_left 1
        · simp only [Act.put, List.setIfInBounds_toArray, List.set_cons_zero, List.set_cons_succ]; rfl
        · intro w1 hs hf K hK
          go_big_quiet_op
          apply Exists.intro
          refine ⟨fun w2 h2 => ?_, ?_⟩
          · refine (AW.out w2 (TQ.out.trans (Turn.of_below (show Below wq.heap.size wq w2 from (fun h => ⟨h.os, h.tape, h.output, h.size, h.block⟩) (Stp.trans _ _ _ hs h2))) (fun _ _ h => h))).mono ?_
            rintro e w3 ⟨rfl, t3⟩
            exact ⟨rfl, Stp.trans _ _ _ h2 (turn_stp t3)⟩
          · go_big_quiet_on
            rfl
        iterate 2
          refine wpR_one (A' := ?_) Stp.refl (by rfl) _ rfl 109 (by rfl) (by rfl) ?_ ?_ ?_
          rotate_left 1
          · simp only [Act.put, List.setIfInBounds_toArray, List.set_cons_zero, List.set_cons_succ]; rfl
          · intro w1 hs hf K hK
            go_big_quiet_op
            first
              | go_big_quiet_on
              | (refine ⟨_, fun _ _ => rfl, ?_⟩; go_big_quiet_on)
            rfl
        intro w9 hs hf
        have T9 := Lib.hid (TQ.out.trans (Turn.of_below (show Below wq.heap.size wq w9 from ⟨hs.os, hs.tape, hs.output, hs.size, hs.block⟩)) (fun _ _ h => h))
        clear hs hf
        go_wp2
        go_ret
        exact ⟨rfl, T9.out⟩
theorem fits_law (a0 : Nat) (A1 : Option Addr) (c1 : Nat) (l1 : List (List B8)) (A2 : Option Addr) (c2 : Nat) (l2 : List (List B8)) (W : World) (b0 : a0 < 256) (s1 : LstN W A1 l1) (m1 : l1.length ≤ maxLen) (hA1 : A1 = none → c1 = 0) (hc1 : l1.length ≤ c1) (x1 : ∀ x ∈ l1, x.length ≤ maxLen) (s2 : LstN W A2 l2) (m2 : l2.length ≤ maxLen) (hA2 : A2 = none → c2 = 0) (hc2 : l2.length ≤ c2) (x2 : ∀ x ∈ l2, x.length ≤ maxLen) (hG : Glob W) :
    Calls Tryd.prog 4 #[.int .u8 (a0 : Int), .slice A1 l1.length c1, .slice A2 l2.length c2] W fun r w' => r = .returned (.bool true) ∧ Below W.heap.size W w' :=
  (chestFits_of a0 b0 A1 c1 l1 A2 c2 l2 W hG s1 s2 x1 x2).mono fun _ _ h => to_below14 h
end Go.Proofs.YtfiopkehpcipdaaDoor
