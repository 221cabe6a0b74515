/- LineFull. -/
import Derived.Test.YtgjplbanfnomkaaLsB
set_option linter.unusedVariables false
set_option linter.unusedSimpArgs false
namespace Go.Proofs.Ytgjplbanfnomkaa
open Go.RowKit
set_option maxRecDepth 100000
theorem Ln.join_full {x : Ln} {prev term : Int} {its : List Itm} (h : x.Ok) (hb : its.any badI = false) (hr : x.roomB (prev + its.length) = false) : x.join prev term its = (x, 0, false) := by
  cases hm : x.meetB prev term with
  | false => exact Ln.join_no1 h hm
  | true => exact Ln.join_no3 h hm hb hr
def i1 : Itm := ⟨1, []⟩
def i2 : Itm := ⟨2, []⟩
theorem bad_rep (k : Nat) : (List.replicate k i1).any badI = false := by
  induction k with
  | zero => rfl
  | succ k ih => rw [List.replicate_succ, List.any_cons, ih]; rfl
theorem full_add {n k : Nat} (hn : n ≤ 39) (hk : k < n) : (Ln.mk (1099511627776 - n) 1 (List.replicate k i2)).add ⟨2, []⟩ = ((Ln.mk (1099511627776 - n) 1 (List.replicate (k + 1) i2)), (1099511627776 - n + 1 + k : Int)) := by
  rw [Ln.add_yes (And.intro (by decide) (And.intro (by show (List.replicate k i2).length + 1 ≤ _; rw [List.length_replicate]; omega) (by show (1099511627776 : Int) - n + ((List.replicate k i2).length : Int) + 1 ≤ _; rw [List.length_replicate]; omega)))]
  show ((⟨_, _, List.replicate k i2 ++ [i2]⟩ : Ln), (1099511627776 : Int) - n + ((List.replicate k i2).length : Int) + 1) = _
  rw [List.length_replicate, ← List.replicate_succ', show (1099511627776 : Int) - n + (k : Int) + 1 = 1099511627776 - n + 1 + k by omega]
theorem full_no {n : Nat} : (Ln.mk (1099511627776 - n) 1 (List.replicate n i2)).add ⟨2, []⟩ = (Ln.mk (1099511627776 - n) 1 (List.replicate n i2), 0) :=
  Ln.add_no (fun h => by
    have h2 : (1099511627776 : Int) - n + ((List.replicate n i2).length : Int) + 1 ≤ 1099511627776 := h.2.2
    rw [List.length_replicate] at h2; omega)
theorem full_join {x : Ln} {n : Nat} {t : Int} (hx : x = Ln.mk (1099511627776 - n) 1 (List.replicate n i2)) (h : x.Ok) : x.join 1099511627776 t [⟨3, []⟩] = (x, 0, false) :=
  Ln.join_full h (by rfl) (by unfold Ln.roomB; rw [decide_eq_false_iff_not]; simp)
theorem room_join : (Ln.mk 0 0 []).join 0 0 (List.replicate 4096 i1) = (⟨0, 0, List.replicate 4096 i1⟩, 1, true) := by
  have ok : (Ln.mk 0 0 []).Ok := ⟨by decide, by decide, by decide, by decide, fun p hp => by simp at hp, by simp, by simp⟩
  have h := (Ln.join_some (x := Ln.mk 0 0 []) (prev := 0) (term := 0) (its := List.replicate 4096 i1) (k := 0) (i := 0) (p := i1) ok (by kernel_rfl) (bad_rep 4096) (by rw [List.length_replicate]; decide) (by rw [List.getElem?_replicate]; rfl) rfl (by decide) (by decide) rfl (by simp)).1
  rw [h]
  rfl
theorem more_join {x : Ln} {q : Nat} (hx : x = Ln.mk 0 0 (List.replicate 4096 i1)) (h : x.Ok) (hq : q < 256) : x.join (4096 - q) 1 (List.replicate (q + 1) i1) = (x, 0, false) :=
  Ln.join_full h (bad_rep _) (by unfold Ln.roomB; rw [hx, decide_eq_false_iff_not, List.length_replicate]; push_cast; omega)
theorem full_more {x : Ln} (hx : x = Ln.mk 0 0 (List.replicate 4096 i1)) : x.add ⟨1, []⟩ = (x, 0) :=
  Ln.add_no (fun h => by rw [hx] at h; have h2 : (List.replicate 4096 i1).length + 1 ≤ 4096 := h.2.1; rw [List.length_replicate] at h2; omega)
/-- A row of items of term 1, made since B. -/
def R1s (B : Nat) (w : World) (v : Value) (k : Nat) : Prop := ∃ cs, ItV w (fun _ => False) (List.replicate k i1) cs ∧ w.ownsRow B 36 2 v k cs
theorem R1s.turn {B k : Nat} {v : Value} {T : Nat → Prop} {w w' : World} (h : R1s B w v k) (t : Turn T w w') (hT : ∀ i, T i → v.ownBlock ≠ some i) : R1s B w' v k := by
  obtain ⟨cs, hv, ho⟩ := h
  refine ⟨cs, ⟨hv.1, fun i p hi => ?_⟩, own_turn2 t ho (fun g hg e => hT g e hg)⟩
  obtain ⟨a, b, S, c, d, e⟩ := hv.2 i p hi
  have hp : p = i1 := by
    have := List.mem_of_getElem? hi
    exact List.eq_of_mem_replicate this
  subst hp
  exact ⟨a, b, S, c, d, fun j u hu => by simp [i1] at hu, e.a, e.c⟩
theorem R1s.itn {B k : Nat} {A : Option Addr} {c : Nat} {w : World} {N : Nat → Prop} (h : R1s B w (.slice A k c) k) (hN : ∀ i, N i → i < B) : ItN w N A (List.replicate k i1) := by
  obtain ⟨cs, hv, ho⟩ := h
  refine ItV.itN (N := N) ⟨hv.1, fun i p hi => ?_⟩ ho (fun i h => .inl (hN i h))
  obtain ⟨a, b, S, c, d, e⟩ := hv.2 i p hi
  have hp : p = i1 := List.eq_of_mem_replicate (List.mem_of_getElem? hi)
  subst hp
  exact ⟨a, b, S, c, d, fun j u hu => by simp [i1] at hu, e.a, e.c⟩
theorem R1s.snoc {B k : Nat} {v' : Value} {w w' : World} {cs : List Value} (hv : ItV w (fun _ => False) (List.replicate k i1) cs) (ho : w'.ownsRow B 36 2 v' (k + 1) (cs ++ [.int .i64 1, .slice none 0 0])) : R1s B w' v' (k + 1) := by
  refine ⟨_, ⟨by rw [List.length_append, hv.1, List.length_replicate, List.length_replicate]; simp; omega, fun i p hi => ?_⟩, ho⟩
  have hp : p = i1 := List.eq_of_mem_replicate (List.mem_of_getElem? hi)
  subst hp
  have hl := hv.1
  rw [List.length_replicate] at hl
  have hik := (List.getElem?_eq_some_iff.1 hi).1
  rw [List.length_replicate] at hik
  have bt : BtN w' (fun _ => False) none 0 i1.b := bt_nil
  by_cases hlt : i < k
  · obtain ⟨a, b, S, c, d, e⟩ := hv.2 i i1 (by rw [List.getElem?_replicate]; simp [hlt])
    exact ⟨a, by rw [List.getElem?_append_left (by omega)]; exact b, S, c, by rw [List.getElem?_append_left (by omega)]; exact d, fun j u hu => by simp [i1] at hu, e.a, e.c⟩
  · obtain rfl : i = k := by omega
    exact ⟨⟨⟨by decide, by decide⟩, by simp [i1]⟩, by rw [List.getElem?_append_right (by omega), hl, Nat.sub_self]; rfl, none, 0, by rw [List.getElem?_append_right (by omega), hl, show i * 2 + 1 - i * 2 = 1 by omega]; rfl, bt⟩
theorem two_step {w wr w' : World} {g1 g2 : Nat} {v1 v1' v2 : Value} {x1 x2 : Ln} (H1 : Owd w wr g1 v1 x1) (H2 : Owd w wr g2 v2 x2) (NE : ∀ i, Ow g1 v1 i → ¬ Ow g2 v2 i) (S : LnStep wr w' g1 v1 v1') : Owd w w' g2 v2 x2 ∧ (∀ i, Ow g1 v1' i → ¬ Ow g2 v2 i) :=
  ⟨⟨H2.l.turn S.t (fun i hi => H1.l.nu hi) (fun i hi hj => NE i hj hi), H2.o, H2.t.trans S.t (fun i hi hj => by have := H1.o i hj; omega)⟩,
   fun i hi hj => hi.elim (fun e => NE i (.inl e) hj) (fun e => (S.o i e).elim (fun e => NE i (.inr e) hj) (fun e => by have := H2.l.ltO hj; omega))⟩
theorem row_one {w : World} {B k : Nat} {cs : List Value} {v : Value} (hv : ItV w (fun _ => False) (List.replicate k i1) cs) (ho : w.ownsRow B 36 2 v k cs) : R1s B w v k := ⟨cs, hv, ho⟩
set_option maxHeartbeats 16000000 in
theorem lineFull_any (a q : Nat) (w : World) (ha : a < 256) (hq : q < 256) : Calls Try.prog 4 #[.int .u8 (a : Int), .int .u8 (q : Int)] w fun r w' => r = .returned (.bool true) ∧ Turn (fun _ => False) w w' := by
  obtain ⟨n, hn⟩ : ∃ n, n = a % 40 := ⟨_, rfl⟩
  have hn39 : n ≤ 39 := by omega
  have hna : (a : Int) % 40 = (n : Int) := by omega
  have HNA := Lib.hid hn
  clear hn
  have T0 := Lib.hid (fun w' => lnew_yes (1099511627776 - n) 1 w' (by omega))
  have T1 := Lib.hid (fun w' => lnew_yes 0 0 w' (by decide))
  go_enter Try.func4, Try.ntmps4
  go_upto_region 2 with fail
  simp only [hna]
  go_wp2_with (go_at_call 9; refine stop ?_)
  unfold Stop
  refine (T0.out w).mono ?_
  rintro r w1 ⟨g1, rfl, h1⟩
  have H1 := Lib.hid h1
  clear h1 T0
  go_wp2_with (go_at_call 9; refine stop ?_)
  unfold Stop
  refine (T1.out w1).mono ?_
  rintro r w2 ⟨g2, rfl, h2⟩
  have H2 := Lib.hid h2
  have HS2 := Lib.hid (And.intro h2.t.size (And.intro H1.out.t.size H1.out.l.lt))
  have H1b := Lib.hid (H1.out.quiet h2.t)
  have HNE := Lib.hid (show ∀ i, Ow g1 (.slice none 0 0) i → ¬ Ow g2 (.slice none 0 0) i from fun i hi hj => by
    have := H1.out.l.ltO hi
    have := h2.o i hj
    omega)
  have H2b := Lib.hid (show Owd w w2 g2 (.slice none 0 0) ⟨0, 0, []⟩ from ⟨h2.l, fun i hi => Nat.le_trans H1.out.t.size (h2.o i hi), H1.out.t.trans h2.t (fun _ _ h => h)⟩)
  clear h2 T1 H1 H2
  go_wp2
  go_loopw [8] (fun i wr => ∃ (k : Nat) (v1 : Value), k ≤ n ∧ i = .int .i64 k ∧ Owd w wr g1 v1 ⟨1099511627776 - n, 1, List.replicate k i2⟩ ∧ Owd w wr g2 (.slice none 0 0) ⟨0, 0, []⟩ ∧ (∀ i, Ow g1 v1 i → ¬ Ow g2 (.slice none 0 0) i)) (fun i _ => n - (intOf i).toNat)
  case atStart => exact ⟨0, _, Nat.zero_le _, rfl, H1b.out, H2b.out, HNE.out⟩
  case round =>
    clear H1b H2b HNE
    obtain ⟨k, v1, hk, rfl, h1, h2, hne⟩ := hrel
    have H1 := Lib.hid h1
    have H2 := Lib.hid h2
    have HNE := Lib.hid hne
    clear h1 h2 hne
    by_cases hlt : k < n
    · have TA := Lib.hid (ladd_any g1 v1 _ ⟨2, []⟩ none 0 (Ow g1 v1) wr H1.out.l bt_nil ⟨⟨by decide, by decide⟩, by simp⟩ (fun _ h => h))
      have HE := Lib.hid (full_add hn39 hlt)
      have q5 : (1099511627776 - (n : Int) + 1 + (k : Int) != 1099511627776 - (n : Int) + 1 + (k : Int)) = false := by simp
      go_wp2_with (go_at_call 11; refine stop ?_)
      unfold Stop
      refine TA.out.mono ?_
      rintro r w3 ⟨v3, e3, l3, s3⟩
      rw [HE.out] at e3 l3
      subst e3
      have H1' := Lib.hid (H1.out.step l3 s3)
      have H2' := Lib.hid (show Owd w w3 g2 (.slice none 0 0) ⟨0, 0, []⟩ from ⟨H2.out.l.turn s3.t (fun i hi => H1.out.l.nu hi) (fun i hi hj => HNE.out i hj hi), H2.out.o, H2.out.t.trans s3.t (fun i hi hj => by have := H1.out.o i hj; omega)⟩)
      have HNE' := Lib.hid (show ∀ i, Ow g1 v3 i → ¬ Ow g2 (.slice none 0 0) i from fun i hi hj => hi.elim (fun e => HNE.out i (.inl e) hj) (fun e => (s3.o i e).elim (fun e => HNE.out i (.inr e) hj) (fun e => by have := H2.out.l.ltO hj; omega)))
      clear l3 s3 TA
      go_wp2
      go_roundw
      case rel => exact ⟨k + 1, v3, by omega, by go_num, H1'.out, H2'.out, HNE'.out⟩
      case measure => simp [intOf]; omega
    · obtain rfl : k = n := by omega
      go_wp2_with (go_at_call 21; refine stop ?_)
      unfold Stop
      refine (l0_any (k : Int) wr).mono ?_
      rintro r w0' ⟨rfl, hw0'⟩
      rw [hw0']
      clear hw0' w0'
      generalize (if (k : Int) = 0 then (1 : Int) else 2) = t0
      obtain ⟨w5, hw5⟩ : ∃ w5, w5 = wr.alloc (.cells #[.int .i64 3, .slice none 0 0] 36) := ⟨_, rfl⟩
      have t5 : Turn (fun _ => False) wr w5 := by rw [hw5]; exact (Turn.refl _ _).alloc _
      have hi5 : ItN w5 (Ow g1 v1) (some ⟨wr.heap.size, 0, none⟩) [⟨3, []⟩] := by rw [hw5]; exact itn_new wr _ (fun h => by have := H1.out.l.ltO h; omega) 3 ⟨by decide, by decide⟩
      have H1' := Lib.hid (H1.out.quiet t5)
      have H2' := Lib.hid (H2.out.quiet t5)
      have TJ := Lib.hid (ljoin_own (m := 1) (c2 := 1) (term := t0) H1'.out hi5 (fun h => by cases h) (by simp) (by simp) (by simp) (full_join rfl H1.out.l.ok))
      have HW5 := Lib.hid hw5
      clear hw5 t5 hi5
      go_wp2_with (go_at_call 13; refine stop ?_)
      unfold Stop
      change Calls _ _ _ (wr.alloc (.cells #[.int .i64 3, .slice none 0 0] 36)) _
      rw [← HW5.out]
      refine TJ.out.mono ?_
      rintro r w6 ⟨rfl, v6, h6, s6⟩
      obtain ⟨h6b, n6⟩ := two_step H1'.out H2'.out HNE.out s6
      have A1 := Lib.hid h6
      have A2 := Lib.hid h6b
      have ANE := Lib.hid n6
      clear h6 h6b n6 s6 TJ H1 H2 H1' H2' HNE HW5 w5
      have TA := Lib.hid (ladd_any g1 v6 _ ⟨2, []⟩ none 0 (Ow g1 v6) w6 A1.out.l bt_nil ⟨⟨by decide, by decide⟩, by simp⟩ (fun _ h => h))
      have HE := Lib.hid (full_no (n := k))
      go_wp2_with (go_at_call 11; refine stop ?_)
      unfold Stop
      refine TA.out.mono ?_
      rintro r w7 ⟨v7, e7, l7, s7⟩
      rw [HE.out] at e7 l7
      subst e7
      have B2 := Lib.hid (two_step A1.out A2.out ANE.out s7).1
      clear l7 s7 TA HE A1 A2 ANE
      clear hna hn39 HNA hk hlt
      obtain ⟨BB, hBB⟩ : ∃ B, B = w7.heap.size := ⟨_, rfl⟩
      have HBB := Lib.hid (show g2 < BB by rw [hBB]; exact B2.out.l.lt)
      have HT0 := Lib.hid (show Turn (fun i => BB ≤ i) w7 w7 from Turn.refl _ _)
      have HR0 := Lib.hid (show R1s BB w7 (.slice none 0 0) 0 from ⟨[], ⟨rfl, fun i p hi => by simp at hi⟩, World.ownsRow_nil _ _ _ _⟩)
      have HB7 := Lib.hid hBB
      clear hBB
      go_wp2
      go_loopw [11, 12] (fun v i wr => ∃ (k : Nat) (A : Option Addr) (c : Nat), k ≤ 4096 ∧ i = .int .i64 k ∧ v = .slice A k c ∧ R1s BB wr (.slice A k c) k ∧ Turn (fun i => BB ≤ i) w7 wr) (fun _ i _ => 4096 - (intOf i).toNat)
      case atStart => exact ⟨0, none, 0, Nat.zero_le _, rfl, rfl, HR0.out, HT0.out⟩
      case round =>
        clear HR0 HT0
        obtain ⟨k, A, c, hk, rfl, rfl, hr, ht⟩ := hrel
        have HR := Lib.hid hr
        have HT := Lib.hid ht
        clear hr ht
        by_cases hlt : k < 4096
        · obtain ⟨i0, hi, hz0, hz1, hz2⟩ := info_parts it_info
          obtain ⟨cs, hv, ho⟩ := HR.out
          have hsz : BB ≤ wr.heap.size := by have := HT.out.size; have := HB7.out; omega
          have HV := Lib.hid hv
          have HO := Lib.hid ho
          clear hv ho
          go_upto_region 18 with fail
          go_step
          iterate 9 go_step
          refine wpList_append_own _ (o := ⟨some 69, _, _, _, _, _⟩) rfl _ _ 27 rfl BB 36 i0 (.agg #[.int .i64 0, .slice none 0 0]) 2 32 Try.underlying27 hi hz0 hz1 hz2 rfl (by decide) (.slice A k c) k cs rfl (own_turn2 ((Turn.refl (fun _ => False) wr).alloc _) HO.out (fun _ _ h => h)) ⟨wr.heap.size, 0, none⟩ 1 1 [.int .i64 1, .slice none 0 0] rfl rfl (fun j u hu => ?_) (fun u hu => ?_) ?_ ?_ ?_ ?_
          · rw [Addr.add_lit, cell_of_row _ _ _ _ _ _ (heap_alloc_new wr _), Nat.zero_add, List.getElem?_toArray]; exact hu
          · simp at hu; rcases hu with rfl | rfl <;> rfl
          · unfold maxLen; omega
          · omega
          · simp; omega
          intro v' w9 hown hgr _
          obtain ⟨A9, c9, e9, -, -, -, -⟩ := row_slice hown
          subst e9
          have HR9 := Lib.hid (R1s.snoc HV.out hown)
          have HT9 := Lib.hid (show Turn (fun i => BB ≤ i) w7 w9 from (HT.out.alloc _).grown hgr (fun i hi e => (row_block HO.out e.symm).elim fun _ h => h.2))
          clear hown hgr HR HT HV HO hi hz0 hz1 hz2
          go_wp2
          go_roundw
          case rel => exact ⟨k + 1, A9, c9, by omega, by go_num, rfl, HR9.out, HT9.out⟩
          case measure => simp [intOf]; omega
        · obtain rfl : k = 4096 := by omega
          obtain ⟨cs, hv, ho⟩ := HR.out
          obtain ⟨A', c', e, hc, -, hA, hA2⟩ := row_slice ho
          injection e with e1 _ e3
          subst e1 e3
          have hA3 : ∃ b, A = some ⟨b, 0, none⟩ ∧ BB ≤ b := by
            rcases hA2 with rfl | ⟨b, e, hb, -⟩
            · have := hA rfl; omega
            · exact ⟨b, e, hb⟩
          obtain ⟨b, rfl, hb⟩ := hA3
          have HG2 : ∀ i, Ow g2 (.slice none 0 0) i → i < BB := fun i hi => hi.elim (fun e => by have := HBB.out; omega) (fun e => by cases e)
          have C2 := Lib.hid (show Owd w wr g2 (.slice none 0 0) ⟨0, 0, []⟩ from ⟨B2.out.l.turn HT.out (fun i e => by rintro ⟨cs, m, e'⟩; have := lt_of_block e'; have e : BB ≤ i := e; have := HB7.out; omega) (fun i hi e => by have := HG2 i hi; have e : BB ≤ i := e; omega), B2.out.o, B2.out.t.trans HT.out (fun i hi e => by have e : BB ≤ i := e; have := B2.out.t.size; have := HB7.out; omega)⟩)
          have hi9 := HR.out.itn (N := Ow g2 (.slice none 0 0)) HG2
          have TJ := Lib.hid (ljoin_own (m := 4096) C2.out hi9 (fun h => by cases h) (by rw [List.length_replicate]; exact hc) (by rw [List.length_replicate]; decide) (by rw [List.length_replicate]) room_join)
          clear hv ho hA hA2 hi9 cs B2
          go_wp2_with (go_at_call 13; refine stop ?_)
          unfold Stop
          refine TJ.out.mono ?_
          rintro r w8 ⟨rfl, v8, h8, s8⟩
          have D2 := Lib.hid h8
          have HR8 := Lib.hid (HR.out.turn s8.t (fun i hi e => by have := HG2 i hi; injection e with e; have e : b = i := e; omega))
          have HS8 := Lib.hid s8.o
          have HWR := Lib.hid (show b < wr.heap.size from by obtain ⟨cs, -, ho⟩ := HR.out; exact (ho.lt b rfl).2)
          clear h8 s8 TJ C2 HT HR
          have hq1 : ((q : Int) + 1).toNat = q + 1 := by omega
          have hN8 : ∀ i, Ow g2 v8 i → i ≠ b := fun i hi e => hi.elim (fun e2 => by have := HBB.out; omega) (fun e2 => (HS8.out i e2).elim (fun e3 => by cases e3) (fun e3 => by have := HWR.out; omega))
          have hi9 : ItN w8 (Ow g2 v8) (some ⟨b, 0, none⟩) (List.replicate (q + 1) i1) := by
            obtain ⟨cs, hv, ho⟩ := HR8.out
            have h1 := (R1s.itn (N := fun _ => False) HR8.out (fun _ h => h.elim)).cut 0 (q + 1)
            rw [Nat.zero_mul, List.drop_zero, List.take_replicate, Nat.min_eq_left (by omega)] at h1
            intro i p hi
            obtain ⟨a1, b1, o1, S1, c1, e1, -, q1, q2, q3⟩ := h1 i p hi
            have hp : p = i1 := List.eq_of_mem_replicate (List.mem_of_getElem? hi)
            subst hp
            refine ⟨a1, b1, o1, S1, c1, e1, fun hn => ?_, ⟨fun j u hu => by simp [i1] at hu, q1.a, q1.c⟩, q2, q3⟩
            injection e1 with e1
            injection e1 with e1
            exact hN8 _ hn e1.symm
          have TJ := Lib.hid (ljoin_own (m := q + 1) (c2 := c) D2.out hi9 (fun h => by cases h) (by rw [List.length_replicate]; omega) (by rw [List.length_replicate]; omega) (by rw [List.length_replicate]) (more_join rfl D2.out.l.ok hq))
          clear hi9 hN8 HR8 HS8 HWR
          go_wp2_with (go_at_call 13; refine stop ?_)
          unfold Stop
          refine TJ.out.mono ?_
          rintro r w9 ⟨rfl, v9, h9, -⟩
          have E2 := Lib.hid h9
          clear h9 TJ D2
          have TL := llastT_any g2 v9 _ w9 E2.out.l
          rw [show (Ln.mk 0 0 (List.replicate 4096 i1)).last = 4096 by unfold Ln.last; rw [List.length_replicate]; rfl] at TL
          generalize (Ln.mk 0 0 (List.replicate 4096 i1)).tm 4096 = t9 at TL
          have TL := Lib.hid TL
          go_wp2_with (go_at_call 22; refine stop ?_)
          unfold Stop
          refine TL.out.mono ?_
          rintro r wa ⟨rfl, ta⟩
          have F2 := Lib.hid (E2.out.quiet ta)
          clear ta TL E2
          have TA := Lib.hid (ladd_nil F2.out (t := 1) ⟨by decide, by decide⟩ (full_more rfl))
          go_wp2_with (go_at_call 11; refine stop ?_)
          unfold Stop
          refine TA.out.mono ?_
          rintro r wb ⟨rfl, vb, hb9⟩
          have G2 := Lib.hid hb9
          clear hb9 TA F2
          go_wp2_with (go_at_call 8; refine stop ?_)
          unfold Stop
          refine (awake17_any wb).mono ?_
          rintro r wc ⟨rfl, tc⟩
          have HTC := Lib.hid (G2.out.quiet tc).t
          clear tc G2
          go_wp2
          go_ret
          exact ⟨rfl, HTC.out⟩
theorem lineFull_walk (a q : Nat) (w : World) (ha : a < 256) (hq : q < 256) : Calls Try.prog 4 #[.int .u8 (a : Int), .int .u8 (q : Int)] w fun r w' => r = .returned (.bool true) ∧ Below w.heap.size w w' :=
  (lineFull_any a q w ha hq).mono fun _ _ ⟨h1, h2⟩ => ⟨h1, turn_stp' h2⟩
end Go.Proofs.Ytgjplbanfnomkaa
