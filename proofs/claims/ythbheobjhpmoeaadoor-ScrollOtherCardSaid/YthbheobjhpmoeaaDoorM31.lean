/- Merged: A scroll that goes well: its records, its drum. Awake. ScrollForms and ScrollLong. ScrollGone. ScrollOther. -/
import Derived.Test.YthbheobjhpmoeaaDoorM30
namespace Go.Proofs.YthbheobjhpmoeaaDoor
section
set_option linter.unusedVariables false
set_option linter.unusedSimpArgs false
open Go.RowKit
set_option maxRecDepth 100000
theorem putD_W {n : Nat} : ∀ (l : List Sec) (d : Dr) (p : Nat), OnD d n → p + l.length ≤ n → (∀ s ∈ l, s.length = 64) → (putD d p l).W.length = d.W.length + l.length
  | [], d, p, h, hp, hs => rfl
  | s :: l, d, p, h, hp, hs => by
    rw [List.length_cons] at hp ⊢
    rw [putD, putD_W l _ _ (h.write _ _) (by omega) fun x hx => hs x (List.mem_cons_of_mem _ hx), h.write_W p (by omega) s (hs s (List.mem_cons_self ..)), List.length_append, List.length_singleton]
    omega
/-- A scroll over the records put, of turn t in the stretch of m sectors from p on. -/
structure Gd (SB : World → Nat → Nat → Scr → (Nat → Prop) → Prop) (w : World) (g s n p m t : Nat) (d : Dr) (put : List (List B8)) (sure : Nat) (D E : Nat → Prop) : Prop where
  ats : Ats SB w g s n d ⟨p + secsS t 0 put, p + m, t, put.length, false⟩ D E
  inv : Inv d n p m t put sure
section
variable {SB : World → Nat → Nat → Scr → (Nat → Prop) → Prop} {w w' : World} {g s n p m t sure : Nat} {d : Dr} {put : List (List B8)} {D E S : Nat → Prop}
theorem Gd.keep (h : Gd SB w g s n p m t d put sure D E) (S13 : SC SB) (ht : Turn S w w') (hD : ∀ k, D k → ¬ S k) (hE : ∀ k, E k → ¬ S k) (h2 : ∀ k, S k → 2 ≤ k) : Gd SB w' g s n p m t d put sure D E := ⟨h.ats.keep S13 ht hD hE h2, h.inv⟩
theorem Gd.quiet (h : Gd SB w g s n p m t d put sure D E) (S13 : SC SB) (ht : Turn (fun _ => False) w w') : Gd SB w' g s n p m t d put sure D E := ⟨h.ats.quiet S13 ht, h.inv⟩
/-- A record that has room. -/
theorem Gd.putOk (h : Gd SB w g s n p m t d put sure D E) (S13 : SC SB) (hn : n ≤ 8192) (A : Option Addr) (c : Nat) (b : List B8) (hs : SlN w (fun k => D k ∨ E k) A (b.map bv)) (hA : A = none → c = 0) (hc : b.length ≤ c) (hl : (fldS t put.length b).length ≤ 65524) (hm : put.length < mostS) (hW : d.W.length + 1024 < 10000) (hr : secsS t 0 put + (formS t put.length b).length / 64 ≤ m) :
    Calls Tryd.prog 23 #[.pointer (some ⟨s, 0, none⟩), .slice A b.length c] w fun r w' => ∃ D' d', r = .returned (.int .i64 0) ∧ Gd SB w' g s n p m t d' (put ++ [b]) sure D' E ∧ d'.W.length = d.W.length + (formS t put.length b).length / 64 ∧ (∀ k, D' k → Dn D w w' k) ∧ Turn (fun k => D k ∨ E k) w w' := by
  have hfit := h.inv.fit
  have hb : b.length ≤ (fldS t put.length b).length := by simp [fldS]; omega
  have he : formE13 t put.length b = 0 := formE_ok h.inv.turn (by omega) hl
  have hv : formV13 t put.length b = formS t put.length b := (formV_ok he).1
  have hpre : (⟨p + secsS t 0 put, p + m, t, put.length, false⟩ : Scr).pre b = 0 := by
    unfold Scr.pre Scr.formE Scr.form secsOf
    rw [if_neg (by simp), if_neg (by show ¬ formE13 t put.length b ≠ 0; rw [he]; simp), if_neg (by show ¬ p + m < p + secsS t 0 put + (formV13 t put.length b).length / 64; rw [hv]; omega)]
  obtain ⟨h1, h2, h3, h4⟩ := put_on h.inv.on hfit hpre
  refine (S13.put w g s n d _ D E A c b h.ats hn (fun _ => ⟨h.inv.turn, by show p + secsS t 0 put ≤ p + m; have := h.inv.room; omega, hfit, by show put.length ≤ mostS; omega⟩) hs hA hc (by omega) hW).mono ?_
  rintro r w' ⟨D', sc', rfl, ha, hp, hD, ht⟩
  rw [h1]
  have hsc := h4 sc' hp
  have hs1 : secsS t 0 (put ++ [b]) = secsS t 0 put + (formS t put.length b).length / 64 := by rw [secsS_append, Nat.zero_add, secsS_one]
  refine ⟨D', (⟨p + secsS t 0 put, p + m, t, put.length, false⟩ : Scr).putD d b, rfl, ⟨?_, ?_⟩, ?_, hD, ht⟩
  · rw [hsc] at ha
    rw [hs1, List.length_append, List.length_singleton, ← Nat.add_assoc]
    exact ha
  · rw [h2]; exact h.inv.put b hl hm hr
  · rw [h2, putD_W (n := n) _ d _ h.inv.on (by rw [chunks_len]; show p + secsS t 0 put + (formS t put.length b).length / 64 ≤ n; omega) (chunks_sec _ _ (by unfold secsOf; omega)), chunks_len]; rfl
/-- A record that has no room. -/
theorem Gd.putFull (h : Gd SB w g s n p m t d put sure D E) (S13 : SC SB) (hn : n ≤ 8192) (A : Option Addr) (c : Nat) (b : List B8) (hs : SlN w (fun k => D k ∨ E k) A (b.map bv)) (hA : A = none → c = 0) (hc : b.length ≤ c) (hl : (fldS t put.length b).length ≤ 65524) (hm : put.length < mostS) (hW : d.W.length + 1024 < 10000) (hr : m < secsS t 0 put + (formS t put.length b).length / 64) :
    Calls Tryd.prog 23 #[.pointer (some ⟨s, 0, none⟩), .slice A b.length c] w fun r w' => ∃ D', r = .returned (.int .i64 18) ∧ Gd SB w' g s n p m t d put sure D' E ∧ (∀ k, D' k → Dn D w w' k) ∧ Turn (fun k => D k ∨ E k) w w' := by
  have hfit := h.inv.fit
  have hb : b.length ≤ (fldS t put.length b).length := by simp [fldS]; omega
  have he : formE13 t put.length b = 0 := formE_ok h.inv.turn (by omega) hl
  have hv : formV13 t put.length b = formS t put.length b := (formV_ok he).1
  have hpre : (⟨p + secsS t 0 put, p + m, t, put.length, false⟩ : Scr).pre b = 18 := by
    unfold Scr.pre Scr.formE Scr.form secsOf
    rw [if_neg (by simp), if_neg (by show ¬ formE13 t put.length b ≠ 0; rw [he]; simp), if_pos (by show p + m < p + secsS t 0 put + (formV13 t put.length b).length / 64; rw [hv]; omega)]
  refine (S13.put w g s n d _ D E A c b h.ats hn (fun _ => ⟨h.inv.turn, by show p + secsS t 0 put ≤ p + m; have := h.inv.room; omega, hfit, by show put.length ≤ mostS; omega⟩) hs hA hc (by omega) hW).mono ?_
  rintro r w' ⟨D', sc', rfl, ha, hp, hD, ht⟩
  have h1 : (⟨p + secsS t 0 put, p + m, t, put.length, false⟩ : Scr).putE d b = 18 := by unfold Scr.putE; rw [if_pos (by rw [hpre]; decide), hpre]
  have h2 : (⟨p + secsS t 0 put, p + m, t, put.length, false⟩ : Scr).putD d b = d := by unfold Scr.putD; rw [if_pos (by rw [hpre]; decide)]
  unfold Scr.PutS at hp
  rw [if_pos (by rw [hpre]; decide)] at hp
  rw [h1]
  rw [h2, hp] at ha
  exact ⟨D', rfl, ⟨ha, h.inv⟩, hD, ht⟩
theorem Gd.syncOk (h : Gd SB w g s n p m t d put sure D E) (S13 : SC SB) :
    Calls Tryd.prog 24 #[.pointer (some ⟨s, 0, none⟩)] w fun r w' => ∃ D', r = .returned (.int .i64 0) ∧ Gd SB w' g s n p m t d.sync put put.length D' E ∧ (∀ k, D' k → Dn D w w' k) ∧ Turn (fun k => D k ∨ E k) w w' := by
  obtain ⟨h1, h2⟩ := h.inv.sync
  refine (S13.sync w g s n d _ D E h.ats).mono ?_
  rintro r w' ⟨D', sc', rfl, ha, hp, hD, ht⟩
  have e1 : (⟨p + secsS t 0 put, p + m, t, put.length, false⟩ : Scr).syncE d = 0 := by unfold Scr.syncE; rw [if_neg (by simp), h1]
  have e2 : (⟨p + secsS t 0 put, p + m, t, put.length, false⟩ : Scr).syncD d = d.sync := by unfold Scr.syncD; rw [if_neg (by simp)]
  unfold Scr.SyncS at hp
  rw [if_pos e1] at hp
  rw [e1]
  rw [e2, hp] at ha
  exact ⟨D', rfl, ⟨ha, h2⟩, hD, ht⟩
theorem Gd.leftOk (h : Gd SB w g s n p m t d put sure D E) (S13 : SC SB) (hn : n ≤ 8192) : Calls Tryd.prog 22 #[.pointer (some ⟨s, 0, none⟩)] w fun r w' => r = .returned (.int .i64 ((m - secsS t 0 put : Nat) : Int)) ∧ w' = w := by
  have h1 := S13.left w g s n d _ D E h.ats rfl (by show p + secsS t 0 put ≤ p + m; have := h.inv.room; omega) h.inv.fit hn
  have e : ((p + m) - (p + secsS t 0 put) : Nat) = m - secsS t 0 put := by omega
  rw [← e]; exact h1
end
/-- A blank scroll of a new drum. -/
theorem gd_new {SB : World → Nat → Nat → Scr → (Nat → Prop) → Prop} (S13 : SC SB) (w : World) (g n p m t : Nat) (D : Nat → Prop) (h : LD w g n (Dr.new n) D) (hn : n ≤ 8192) (hp : p + m ≤ n) (ht : t ≤ mostS) :
    Calls Tryd.prog 21 #[.pointer (some ⟨g, 0, none⟩), .int .i64 (p : Int), .int .i64 (m : Int), .int .i64 (t : Int)] w fun r w' => ∃ s D' E, r = .returned (.tuple #[.pointer (some ⟨s, 0, none⟩), .int .i64 0]) ∧ Gd SB w' g s n p m t (Dr.new n) [] 0 D' E ∧ (∀ k, D' k → Dn D w w' k) ∧ (∀ k, E k → w.heap.size ≤ k) ∧ Turn D w w' := by
  have iv := Inv.new n p m t hp ht
  refine (S13.blank w g n p m t (Dr.new n) D h iv.on hn hp ht (by show 0 + m < 10000; omega)).mono ?_
  rintro r w' ⟨s, d', D', E, rfl, ha, h1, h2, h3, h4, h5, h6, h7⟩
  have e := h5 fun k hk => iv.zero k (Nat.zero_le _) hk
  rw [e] at ha
  exact ⟨s, D', E, rfl, ⟨ha, iv⟩, h1, h2, h7⟩
end
section
set_option linter.unusedVariables false
set_option linter.unusedSimpArgs false
open Go.RowKit
set_option maxRecDepth 100000
theorem klen_one {n : Nat} (h : 0 < n) (h2 : n < 256) : klen n = 1 := by rw [klen_pos (by omega), Nat.div_eq_of_lt h2, klen_zero]
theorem formS_length (t n : Nat) (b : List B8) : (formS t n b).length = 12 + (fldS t n b).length + secPad (12 + (fldS t n b).length) := laidS_len _
theorem fldS_length (t n : Nat) (b : List B8) : (fldS t n b).length = klen t + klen n + klen b.length + b.length + 3 := by simp [fldS, numB_len]; omega
theorem formV_len {t n : Nat} {b : List B8} {L : Nat} (ht : t ≤ mostS) (hn : n ≤ mostS) (hL : (fldS t n b).length = L) (h : L ≤ 65524) : formE13 (t : Int) (n : Int) b = 0 ∧ (formV13 (t : Int) (n : Int) b).length = 12 + L + secPad (12 + L) := by
  have he := formE_ok ht hn (by rw [hL]; exact h)
  exact ⟨he, by rw [(formV_ok he).1, formS_length, hL]⟩
theorem aw1 : formE13 0 0 ([1, 2, 3] : List B8) = 0 ∧ (formV13 0 0 ([1, 2, 3] : List B8)).length = 64 := by
  obtain ⟨a, b⟩ := formV_len (t := 0) (n := 0) (b := [1, 2, 3]) (L := 7) (by unfold mostS; omega) (by unfold mostS; omega) (by rw [fldS_length, klen_zero, klen_one (by simp) (by simp)]; rfl) (by omega)
  exact ⟨a, b⟩
theorem aw2 : formE13 0 0 (zeros 60) = 0 ∧ (formV13 0 0 (zeros 60)).length = 128 := by
  obtain ⟨a, b⟩ := formV_len (t := 0) (n := 0) (b := zeros 60) (L := 64) (by unfold mostS; omega) (by unfold mostS; omega) (by rw [fldS_length, klen_zero, zeros_len, klen_one (by omega) (by omega)]) (by omega)
  exact ⟨a, b⟩
theorem made_bytes (n : Nat) : madeCells (Value.int .u8 0).cells (n * 1) = ((zeros n).map bv).toArray := by
  apply Array.ext'
  have h1 : ∀ u ∈ (madeCells (Value.int .u8 0).cells (n * 1)).toList, u = bv 0 := by
    intro u hu
    simp only [madeCells, Value.cells, Array.mem_toList_iff, Array.mem_map, Array.mem_range] at hu
    obtain ⟨i, -, rfl⟩ := hu
    rw [show i % (#[Value.int .u8 0] : Array Value).size = 0 from Nat.mod_one i]
    rfl
  rw [List.eq_replicate_of_mem h1]
  simp [madeCells, zeros]
theorem make_bytes (n : Nat) (hn : n ≤ 1000000) (w : World) : (Instr.makeSlice 22 (.int .i64 (n : Int)) (.int .i64 (n : Int))).run Tryd.prog w = .ok (.slice (some ⟨w.heap.size, 0, none⟩) n n) (w.alloc (.cells ((zeros n).map bv).toArray 5)) := by
  obtain ⟨i0, hi, hz0, hz1, hz2⟩ := info_parts info_u8
  have := run_makeSlice (P := Tryd.prog) (w := w) 22 5 i0 (.int .u8 0) Tryd.underlying22 hi hz0 .i64 .i64 (n : Int) (n : Int) (by omega) (by omega) (by rw [hz1]; omega) (by rw [hz2]; omega) (by omega)
  rw [hz1, Int.toNat_natCast, made_bytes] at this
  exact this
theorem bts_new (w : World) (b : List B8) (Z : Array Value) (hZ : Z = (b.map bv).toArray) : SlN (w.alloc (.cells Z 5)) (fun k => k < w.heap.size) (some ⟨w.heap.size, 0, none⟩) (b.map bv) := fun j u hu => by
  refine ⟨_, rfl, by simp, ?_⟩
  rw [add_row, cell_of_row _ _ _ _ _ _ (heap_alloc_new _ _), hZ, List.getElem?_toArray]; exact hu
theorem peek_first {d : Dr} {n p m t sure : Nat} {b : List B8} {rest : List (List B8)} (h : Inv d n p m t (b :: rest) sure) : peekV n d (p : Int) (m : Int) = some ⟨t, 0, (formS t 0 b).length / 64, b⟩ := by
  have hfit := h.fit
  have hl := h.lens 0 (by simp)
  have hb := h.bytes
  have hr := form_read t 0 b (formsS t (0 + 1) rest ++ zeros (64 * (m - secsS t 0 (b :: rest)))) h.turn (Nat.zero_le _) hl
  rw [formsS, List.append_assoc] at hb
  unfold peekV
  rw [if_neg (by unfold inS; rw [h.on.off]; simp; omega), Int.toNat_natCast, Int.toNat_natCast, hb, hr]
  rfl
theorem awake13 {SB : World → Nat → Nat → Scr → (Nat → Prop) → Prop} (S13 : SC SB) (w : World) (hG : Glob w) : Calls Tryd.prog 9 #[] w fun r w' => r = .returned (.bool true) ∧ Turn (fun _ => False) w w' := by
  have F1 := Lib.hid (S13.form 0 0 (some ⟨w.heap.size, 0, none⟩) 3 [1, 2, 3] (w.alloc (.cells #[.int .u8 1, .int .u8 2, .int .u8 3] 5)) (hG.alloc _) (Bts.of_sl (bts_new w [1, 2, 3] _ rfl).sl) (fun h => by cases h) (by simp) (by simp))
  rw [aw1.1, aw1.2] at F1
  obtain ⟨w1, hw1⟩ : ∃ w1, w1 = w.alloc (.cells #[.int .u8 1, .int .u8 2, .int .u8 3] 5) := ⟨_, rfl⟩
  rw [← hw1] at F1
  have T1 := Lib.hid (show Turn (fun _ => False) w w1 by rw [hw1]; exact (Turn.refl _ _).alloc _)
  obtain ⟨Z, hZ⟩ : ∃ Z, Z = ((zeros 60).map bv).toArray := ⟨_, rfl⟩
  have mk60 := make_bytes 60 (by omega)
  rw [← hZ] at mk60
  have mk60' : ∀ w, (Instr.makeSlice 22 (.int .i64 60) (.int .i64 60)).run Tryd.prog w = .ok (.slice (some ⟨w.heap.size, 0, none⟩) 60 60) (w.alloc (.cells Z 5)) := mk60
  clear mk60
  have HGL := Lib.hid hG
  have F2 := Lib.hid (fun (w : World) (g : Glob w) => S13.form 0 0 (some ⟨w.heap.size, 0, none⟩) 60 (zeros 60) (w.alloc (.cells Z 5)) (g.alloc _) (Bts.of_sl (bts_new w (zeros 60) _ hZ).sl) (fun h => by cases h) (by rw [zeros_len]; omega) (by rw [zeros_len]; omega))
  rw [aw2.1, aw2.2] at F2
  rw [zeros_len] at F2
  clear hZ
  go_enter Tryd.func9, Tryd.ntmps9
  go_wp2_with (go_at_call 10; refine stop ?_)
  unfold Stop
  rw [← hw1]
  clear hw1
  refine F1.out.mono ?_
  rintro r w2 ⟨A2, c2, rfl, -, -, -, t2⟩
  have T2 := Lib.hid (T1.out.trans t2 (fun _ _ h => h))
  clear F1 T1 t2 hG
  go_wp2_with (go_at_call 10; refine stop ?_)
  unfold Stop
  refine (F2.out w2 (glob_turn HGL.out T2.out)).mono ?_
  rintro r w3 ⟨A3, c3, rfl, -, -, -, t3⟩
  have T3 := Lib.hid ((T2.out.alloc _).trans t3 (fun _ _ h => h))
  clear F2 T2 t3 mk60'
  have HN := Lib.hid (LD.new 4 (by omega) (by omega) w3 (glob_turn HGL.out T3.out))
  go_wp2_with (go_at_call 13; refine stop ?_)
  unfold Stop
  refine HN.out.mono ?_
  rintro r w4 ⟨g, rfl, ld4, t4⟩
  have T4 := Lib.hid (T3.out.trans t4 (fun _ _ h => h))
  have HB := Lib.hid (gd_new S13 w4 g 4 1 3 7 (Since w3 w4) ld4 (by omega) (by omega) (by unfold mostS; omega))
  have S34 := t4.size
  have S03 := T3.out.size
  clear HN T3 ld4 t4
  go_wp2_with (go_at_call 21; refine stop ?_)
  unfold Stop
  refine HB.out.mono ?_
  rintro r w5 ⟨s, D5, E5, rfl, gd5, hD5, hE5, t5⟩
  have G5 := Lib.hid gd5
  have T5 := Lib.hid (T4.out.trans t5 (fun i hi h => by have := h.1; omega))
  have HD5 := Lib.hid hD5
  have HE5 := Lib.hid hE5
  have S45 := t5.size
  clear HB T4 gd5 hD5 hE5 t5
  go_wp2_with (go_at_call 23; refine stop ?_)
  unfold Stop
  obtain ⟨w6, hw6⟩ : ∃ w6, w6 = w5.alloc (.cells #[.int .u8 9] 5) := ⟨_, rfl⟩
  have t6 : Turn (fun _ => False) w5 w6 := by rw [hw6]; exact (Turn.refl _ _).alloc _
  have gd6 := G5.out.quiet S13 t6
  have s6 : SlN w6 (fun k => D5 k ∨ E5 k) (some ⟨w5.heap.size, 0, none⟩) (([9] : List B8).map bv) := by
    rw [hw6]
    exact (bts_new w5 [9] _ rfl).turn (Turn.refl (fun _ => False) _) (fun _ h => h.elim) (fun i _ h => h.elim (fun h => G5.out.ats.ld.lt i h) (fun h => G5.out.ats.lt i h))
  rw [← hw6]
  have hf9 : (fldS 7 0 ([9] : List B8)).length = 6 := by rw [fldS_length, klen_zero, klen_one (by omega) (by omega), klen_one (by simp) (by simp)]; rfl
  have hl9 : (formS 7 0 ([9] : List B8)).length = 64 := by rw [formS_length, hf9]; rfl
  have P6 := Lib.hid (gd6.putOk S13 (by omega) (some ⟨w5.heap.size, 0, none⟩) 1 [9] s6 (fun h => by cases h) (by simp) (by show (fldS 7 0 [9]).length ≤ 65524; rw [hf9]; omega) (by unfold mostS; simp) (by show 0 + 1024 < 10000; omega) (by show 0 + (formS 7 0 [9]).length / 64 ≤ 3; rw [hl9]; omega))
  have T6 := Lib.hid (T5.out.trans t6 (fun _ _ h => h))
  have hd5 : ∀ k, D5 k → w.heap.size ≤ k := fun k hk => by
    rcases HD5.out k hk with h | h
    · have := h.1; omega
    · have := h.1; omega
  have he5 : ∀ k, E5 k → w.heap.size ≤ k := fun k hk => by have := HE5.out k hk; omega
  have HDE := Lib.hid (And.intro hd5 he5)
  have HL9 := Lib.hid hl9
  clear hw6 t6 gd6 s6 hf9 hl9 hd5 he5 G5 T5 HD5 HE5
  refine P6.out.mono ?_
  rintro r w7 ⟨D7, d7, rfl, gd7, -, hD7, t7⟩
  have LE7 := Lib.hid (gd7.leftOk S13 (by omega))
  have hs7 : 3 - secsS 7 0 (([] : List (List B8)) ++ [[9]]) = 2 := by rw [List.nil_append, secsS_one, HL9.out]
  rw [hs7] at LE7
  have PK := S13.peek w7 g 4 d7 D7 1 3 gd7.ats.ld (by omega) (by omega)
  have hpk : peekV 4 d7 1 3 = some ⟨7, 0, (formS 7 0 [9]).length / 64, [9]⟩ := peek_first (rest := []) gd7.inv
  rw [hpk] at PK
  have PK := Lib.hid PK
  have T7 := Lib.hid (T6.out.trans t7 (fun i hi h => by
    rcases h with h | h
    · have := HDE.out.1 i h; omega
    · have := HDE.out.2 i h; omega))
  clear P6 T6 gd7 hD7 t7 hs7 hpk HDE HL9
  go_wp2_with (go_at_call 22; refine stop ?_)
  unfold Stop
  refine LE7.out.mono ?_
  rintro r w7' ⟨rfl, hw⟩
  rw [hw]
  clear LE7 hw w7'
  go_wp2_with (go_at_call 16; refine stop ?_)
  unfold Stop
  refine PK.out.mono ?_
  rintro r w8 ⟨⟨A8, c8, rfl, s8, -, -⟩, t8⟩
  obtain ⟨ad8, rfl, -, hc8⟩ := s8 0 (bv 9) rfl
  have hc8' : w8.cell? ad8 = some (.int .u8 9) := by rw [addr_zero0] at hc8; exact hc8
  have T8 := Lib.hid (T7.out.trans t8 (fun _ _ h => h))
  clear T7 PK s8 t8 hc8
  go_wp2
  go_ret
  exact ⟨rfl, T8.out⟩
end
section
set_option linter.unusedVariables false
set_option linter.unusedSimpArgs false
open Go.RowKit
set_option maxRecDepth 100000
theorem scrollForms_of {SB : World → Nat → Nat → Scr → (Nat → Prop) → Prop} (S13 : SC SB) (t n : Int) (A : Option Addr) (c : Nat) (b : List B8) (w : World) (hG : Glob w) (hb : Sl w w.heap.size A (b.map bv)) (hA : A = none → c = 0) (hc : b.length ≤ c) :
    Calls Tryd.prog 3 #[.int .i64 t, .int .i64 n, .slice A b.length c] w fun r w' => r = .returned (.bool true) ∧ Turn (fun _ => False) w w' := by
  have AW := Lib.hid (fun (w' : World) (t : Turn (fun _ => False) w w') => awake13 S13 w' (glob_turn hG t))
  by_cases hl : 700 < b.length
  · have d1 : decide ((700 : Int) < (b.length : Int)) = true := decide_eq_true (by omega)
    clear hb hA hc hl
    go_enter Tryd.func3, Tryd.ntmps3
    go_wp2_with (go_at_call 9; refine stop ?_)
    unfold Stop
    refine (AW.out w (Turn.refl _ _)).mono ?_
    rintro r w1 ⟨rfl, t1⟩
    have T1 := Lib.hid t1
    clear t1 AW
    go_wp2
    go_ret
    exact ⟨rfl, T1.out⟩
  have d1 : decide ((700 : Int) < (b.length : Int)) = false := decide_eq_false (by omega)
  have F1 := Lib.hid (S13.form t n A c b w hG (Bts.of_sl hb) hA hc (by omega))
  have F2 := Lib.hid (fun (w1 : World) (h : Turn (fun _ => False) w w1) => rform_any t n A c b w1 ((Bts.of_sl hb).below (turn_stp' h)) hA (by omega))
  obtain ⟨lb, hlb⟩ : ∃ x, x = b.length := ⟨_, rfl⟩
  obtain ⟨V, hV⟩ : ∃ V, V = formV13 t n b := ⟨_, rfl⟩
  obtain ⟨E, hE⟩ : ∃ E, E = formE13 t n b := ⟨_, rfl⟩
  rw [← hV, ← hE, ← hlb] at F1 F2
  have hVl : V.length ≤ 1048576 := by
    rw [hV]; unfold formV13
    split
    · rename_i he
      by_cases ht : 0 ≤ t
      · by_cases hn : 0 ≤ n
        · obtain ⟨T, rfl⟩ : ∃ T : Nat, t = (T : Int) := ⟨t.toNat, by omega⟩
          obtain ⟨N, rfl⟩ : ∃ N : Nat, n = (N : Int) := ⟨n.toNat, by omega⟩
          obtain ⟨-, -, -, h⟩ := formV_ok he
          rw [Int.toNat_natCast, Int.toNat_natCast, formS_length]
          have := secPad_lt (12 + (fldS T N b).length)
          omega
        · unfold formE13 at he; rw [if_pos (by omega)] at he; cases he
      · unfold formE13 at he; rw [if_pos (by omega)] at he; cases he
    · simp
  have HVL := Lib.hid hVl
  rw [← hlb] at d1 ⊢
  clear hb hA hc hl hlb hV hE hVl
  go_enter Tryd.func3, Tryd.ntmps3
  go_wp2_with (go_at_call 10; refine stop ?_)
  unfold Stop
  refine F1.out.mono ?_
  rintro r w1 ⟨A1, c1, rfl, s1, a1, k1, t1⟩
  have F2' := Lib.hid (F2.out w1 t1)
  have T1 := Lib.hid t1
  have S1 := Lib.hid s1
  clear F1 F2 s1 t1
  go_wp2_with (go_at_call 11; refine stop ?_)
  unfold Stop
  refine F2'.out.mono ?_
  rintro r w2 ⟨A2, c2, rfl, s2, a2, k2, b2⟩
  have T2 := Lib.hid (T1.out.trans (of_turn b2) (fun _ _ h => h))
  have BY := Lib.hid (rbytes_any A1 A2 c1 c2 _ _ V V w2 (S1.out.turn (N' := fun _ => False) (of_turn b2) (fun _ h => h.elim) (fun _ _ h => h.elim)).sl s2 (by have := HVL.out; unfold maxLen; omega) (by have := HVL.out; unfold maxLen; omega))
  rw [decide_eq_true (show V = V from rfl)] at BY
  have q1 : ((E : Int) == (E : Int)) = true := beq_self_eq_true _
  clear F2' S1 s2 b2 T1
  go_wp2_with (go_at_call 12; refine stop ?_)
  unfold Stop
  refine BY.out.mono ?_
  rintro r w3 ⟨rfl, m, hw3⟩
  have T3 := Lib.hid (T2.out.trans (show Turn (fun _ => False) w2 w3 by rw [hw3]; exact of_turn (below_drewN (Below.refl _ _))) (fun _ _ h => h))
  clear hw3 BY T2
  go_wp2_with (go_at_call 9; refine stop ?_)
  unfold Stop
  refine (AW.out w3 T3.out).mono ?_
  rintro r w4 ⟨rfl, t4⟩
  have T4 := Lib.hid (T3.out.trans t4 (fun _ _ h => h))
  clear T3 t4 AW
  go_wp2
  go_ret
  exact ⟨rfl, T4.out⟩
theorem formV_zeros (N : Nat) : (fldS 5 6 (zeros N)).length = N + klen N + 5 := by
  rw [fldS_length, zeros_len, klen_one (by omega) (by omega), klen_one (by omega) (by omega)]; omega
theorem scrollLong_of {SB : World → Nat → Nat → Scr → (Nat → Prop) → Prop} (S13 : SC SB) (m : Nat) (hm : m < 4294967296) (w : World) (hG : Glob w) :
    Calls Tryd.prog 4 #[.int .u32 (m : Int)] w fun r w' => r = .returned (.bool true) ∧ Turn (fun _ => False) w w' := by
  have AW := Lib.hid (fun (w' : World) (t : Turn (fun _ => False) w w') => awake13 S13 w' (glob_turn hG t))
  obtain ⟨N, hN⟩ : ∃ N, N = m % 70000 := ⟨_, rfl⟩
  have hNi : ((m : Int) % 70000) = (N : Int) := by omega
  have hN7 : N < 70000 := by omega
  have hi64 : IntKind.i64.wrap (m : Int) = (m : Int) := IntWalk.i64_in _ (by omega)
  obtain ⟨Z, hZ⟩ : ∃ Z, Z = ((zeros N).map bv).toArray := ⟨_, rfl⟩
  have mk := make_bytes N (by omega)
  rw [← hZ] at mk
  have hfl := formV_zeros N
  have hk3 : klen N ≤ 3 := klen_le (by omega)
  obtain ⟨L, hL⟩ : ∃ L, L = N + klen N + 5 := ⟨_, rfl⟩
  have F1 := Lib.hid (fun (w : World) (g : Glob w) => S13.form 5 6 (some ⟨w.heap.size, 0, none⟩) N (zeros N) (w.alloc (.cells Z 5)) (g.alloc _) (Bts.of_sl (bts_new w (zeros N) _ hZ).sl) (fun h => by cases h) (by rw [zeros_len]; omega) (by rw [zeros_len]; omega))
  rw [zeros_len] at F1
  have hE : formE13 (5 : Nat) (6 : Nat) (zeros N) = if 65524 < L then 4 else 0 := by
    unfold formE13 mostS
    rw [if_neg (by omega)]
    simp only [Int.toNat_natCast, hfl, hL]
  have hV : (formV13 (5 : Nat) (6 : Nat) (zeros N)).length = if 65524 < L then 0 else (12 + L + 63) / 64 * 64 := by
    unfold formV13
    rw [hE]
    split
    · rw [if_neg (by simp)]; rfl
    · rw [if_pos rfl, Int.toNat_natCast, Int.toNat_natCast, formS_length, hfl, ← hL]
      unfold secPad
      omega
  have hE' : formE13 5 6 (zeros N) = if 65524 < L then 4 else 0 := hE
  have hV' : (formV13 5 6 (zeros N)).length = if 65524 < L then 0 else (12 + L + 63) / 64 * 64 := hV
  rw [hE', hV'] at F1
  have HL := Lib.hid hL
  obtain ⟨E, hEE⟩ : ∃ E : Nat, E = if 65524 < L then 4 else 0 := ⟨_, rfl⟩
  obtain ⟨VL, hVV⟩ : ∃ V : Nat, V = if 65524 < L then 0 else (12 + L + 63) / 64 * 64 := ⟨_, rfl⟩
  rw [← hEE, ← hVV] at F1
  have HEE := Lib.hid hEE
  have HVV := Lib.hid hVV
  clear hE hV hE' hV' hfl hZ hN hL hEE hVV
  go_enter Tryd.func4, Tryd.ntmps4
  go_wp2_with (go_at_call 10; refine stop ?_)
  unfold Stop
  refine (F1.out w hG).mono ?_
  rintro r w1 ⟨A1, c1, rfl, -, -, -, t1⟩
  have T1 := Lib.hid (((Turn.refl (fun _ => False) w).alloc (.cells Z 5)).trans t1 (fun _ _ h => h))
  clear F1 mk t1
  go_wp2
  go_loop [6, 7] (fun f k => ∃ q j : Nat, k = .int .i64 (q : Int) ∧ f = .int .i64 (((N + 5 + j : Nat) : Int)) ∧ j + klen q = klen N ∧ q < 70000) (fun _ k => (intOf k).toNat)
  case atStart => exact ⟨N, 0, rfl, by go_num, by omega, hN7⟩
  case round =>
    obtain ⟨q, j, rfl, rfl, hj, hq⟩ := hrel
    by_cases h0 : q = 0
    · subst h0
      rw [klen_zero] at hj
      have hjL : N + 5 + j = L := by rw [HL.out]; omega
      rw [hjL]
      clear hj hjL hq
      by_cases hbig : 65524 < L
      · have he := HEE.out
        have hv := HVV.out
        rw [if_pos hbig] at he hv
        have db : decide ((65524 : Int) < (L : Int)) = true := decide_eq_true (by omega)
        subst he hv
        clear hbig HEE HVV
        go_wp2_with (go_at_call 9; refine stop ?_)
        unfold Stop
        refine (AW.out w1 T1.out).mono ?_
        rintro r w4 ⟨rfl, t4⟩
        have T4 := Lib.hid (T1.out.trans t4 (fun _ _ h => h))
        clear T1 t4 AW
        go_wp2
        go_ret
        exact ⟨rfl, T4.out⟩
      · have he := HEE.out
        have hv := HVV.out
        rw [if_neg hbig] at he hv
        have db : decide ((65524 : Int) < (L : Int)) = false := decide_eq_false (by omega)
        have hvi : ((12 : Int) + (L : Int) + 63) / 64 * 64 = (VL : Int) := by omega
        have hvq : ((VL : Int) == ((12 : Int) + (L : Int) + 63) / 64 * 64) = true := by rw [hvi, beq_self_eq_true]
        have hL6 : L ≤ 65524 := by omega
        subst he
        clear hbig HEE HVV hv
        go_wp2_with (go_at_call 9; refine stop ?_)
        unfold Stop
        refine (AW.out w1 T1.out).mono ?_
        rintro r w4 ⟨rfl, t4⟩
        have T4 := Lib.hid (T1.out.trans t4 (fun _ _ h => h))
        clear T1 t4 AW
        go_wp2
        go_ret
        exact ⟨rfl, T4.out⟩
    · have hd := klen_pos h0
      have hp : (0 : Int) < (q : Int) := by omega
      have HD := Lib.hid (show (j + 1) + klen (q / 256) = klen N by omega)
      have hjj : j ≤ 3 := by omega
      clear hd hj
      go_wp2
      go_round
      case rel => exact ⟨q / 256, j + 1, by go_num, by go_num, HD.out, by omega⟩
      case measure => simp [intOf]; omega
end
section
set_option linter.unusedVariables false
set_option linter.unusedSimpArgs false
open Go.RowKit
set_option maxRecDepth 100000
theorem tornS_none (was to : Sec) (h : was.length = 64) : tornS was to 0 = was := by
  apply List.ext_getElem?
  intro k
  by_cases hk : k < 64
  · rw [tornS_at _ _ _ _ hk]
    have : (0 : B8).getLsbD (k / 8) = false := by simp
    rw [this, if_neg (by simp), List.getElem?_eq_getElem (by omega), List.getD_eq_getElem?_getD, List.getElem?_eq_getElem (by omega)]; rfl
  · rw [List.getElem?_eq_none (by rw [tornS_len]; omega), List.getElem?_eq_none (by omega)]
theorem landL_none : ∀ (W : List (Nat × Sec)) (L : List Sec) (M : List B8), (∀ s ∈ L, s.length = 64) → (∀ w ∈ W, w.1 < L.length) → (∀ x ∈ M, x = 0) → W.length ≤ M.length → landL L W M = L
  | [], L, M, _, _, _, _ => rfl
  | w :: W, L, [], _, _, _, h => by simp at h
  | w :: W, L, x :: M, h1, h2, h3, h4 => by
    have hx : x = 0 := h3 x (List.mem_cons_self ..)
    subst hx
    have hw := h2 w (List.mem_cons_self ..)
    rw [landL, List.headD_cons, List.tail_cons, List.getD_eq_getElem?_getD, List.getElem?_eq_getElem hw, Option.getD_some, tornS_none _ _ (h1 _ (List.getElem_mem hw)), List.set_getElem_self]
    exact landL_none W L M h1 (fun w hw => h2 w (List.mem_cons_of_mem _ hw)) (fun x hx => h3 x (List.mem_cons_of_mem _ hx)) (by simpa using h4)
/-- What waits is lost, where all masks are 0. -/
theorem start_none {d d5 : Dr} {n : Nat} (h : d.Ok n) (hW : d.W = []) (hL : d5.L = d.L) (hw : ∀ w ∈ d5.W, w.1 < n) (M : List B8) (hM : ∀ x ∈ M, x = 0) (hl : d5.W.length ≤ M.length) (k : Nat) : (d5.start M).now k = d.now k := by
  have e : (d5.start M).L = d.L := by
    show landL d5.L d5.W M = d.L
    rw [hL]
    exact landL_none _ _ _ h.sec (fun w hx => by rw [h.len]; exact hw w hx) hM hl
  show nowS k ((d5.start M).L.getD k []) [] = d.now k
  unfold Dr.now
  rw [e, hW]
section
variable {SB : World → Nat → Nat → Scr → (Nat → Prop) → Prop} {w w' : World} {g s n : Nat} {d d' : Dr} {sc : Scr} {D D' E : Nat → Prop}
theorem Ats.drum (h : Ats SB w g s n d sc D E) (S13 : SC SB) (ld : LD w' g n d' D) (t : Turn D w w') : Ats SB w' g s n d' sc D E :=
  ⟨ld, S13.keep h.sb t h.dj, h.dj, fun k hk => Nat.lt_of_lt_of_le (h.lt k hk) t.size⟩
theorem Ats.gonePut (h : Ats SB w g s n d sc D E) (S13 : SC SB) (hn : n ≤ 8192) (hg : sc.gone = true) (hW : d.W.length + 1024 < 10000) :
    Calls Tryd.prog 23 #[.pointer (some ⟨s, 0, none⟩), .slice none 0 0] w fun r w' => ∃ D', r = .returned (.int .i64 20) ∧ Ats SB w' g s n d sc D' E ∧ (∀ k, D' k → Dn D w w' k) ∧ Turn (fun k => D k ∨ E k) w w' := by
  refine (S13.put w g s n d sc D E none 0 [] h hn (fun e => by rw [hg] at e; cases e) (fun j u hu => by simp at hu) (fun _ => rfl) (Nat.le_refl _) (by simp) hW).mono ?_
  rintro r w' ⟨D', sc', rfl, ha, hp, hD, ht⟩
  have hpre : sc.pre [] = 20 := by unfold Scr.pre; rw [if_pos hg]
  have e1 : sc.putE d [] = 20 := by unfold Scr.putE; rw [if_pos (by rw [hpre]; decide), hpre]
  have e2 : sc.putD d [] = d := by unfold Scr.putD; rw [if_pos (by rw [hpre]; decide)]
  unfold Scr.PutS at hp
  rw [if_pos (by rw [hpre]; decide)] at hp
  rw [e1]
  rw [e2, hp] at ha
  exact ⟨D', rfl, ha, hD, ht⟩
theorem Ats.goneSync (h : Ats SB w g s n d sc D E) (S13 : SC SB) (hg : sc.gone = true) :
    Calls Tryd.prog 24 #[.pointer (some ⟨s, 0, none⟩)] w fun r w' => ∃ D' sc', r = .returned (.int .i64 20) ∧ sc'.gone = true ∧ Ats SB w' g s n d sc' D' E ∧ (∀ k, D' k → Dn D w w' k) ∧ Turn (fun k => D k ∨ E k) w w' := by
  refine (S13.sync w g s n d sc D E h).mono ?_
  rintro r w' ⟨D', sc', rfl, ha, hp, hD, ht⟩
  have e1 : sc.syncE d = 20 := by unfold Scr.syncE; rw [if_pos hg]
  have e2 : sc.syncD d = d := by unfold Scr.syncD; rw [if_pos hg]
  unfold Scr.SyncS at hp
  rw [e1, if_neg (by decide)] at hp
  rw [e1]
  rw [e2] at ha
  exact ⟨D', sc', rfl, hp, ha, hD, ht⟩
end
def sc1 : Scr := ⟨1, 10, 1, 1, false⟩
theorem one_form (t n : Nat) (b : B8) (ht : t < 256) (hn : n < 256) : (fldS t n [b]).length ≤ 8 ∧ (formS t n [b]).length = 64 := by
  have h1 : klen t ≤ 1 := klen_le (by omega)
  have h2 : klen n ≤ 1 := klen_le (by omega)
  have h3 : klen ([b] : List B8).length = 1 := klen_one (by simp) (by simp)
  have hl := fldS_length t n [b]
  rw [h3] at hl
  simp only [List.length_singleton] at hl
  refine ⟨by omega, ?_⟩
  rw [formS_length]
  unfold secPad
  omega
theorem sc1_pre (b : B8) : sc1.pre [b] = 0 ∧ ∃ S : Sec, S.length = 64 ∧ ∀ d, sc1.all d [b] = putR d 1 [S] := by
  obtain ⟨h1, h2⟩ := one_form 1 1 b (by omega) (by omega)
  have he : formE13 (1 : Nat) (1 : Nat) [b] = 0 := formE_ok (by unfold mostS; omega) (by unfold mostS; omega) (by omega)
  have hv : formV13 (1 : Nat) (1 : Nat) [b] = formS 1 1 [b] := (formV_ok he).1
  have ef : sc1.form [b] = formS 1 1 [b] := hv
  refine ⟨?_, (formS 1 1 [b]).take 64, by rw [List.length_take, h2]; rfl, fun d => ?_⟩
  · unfold Scr.pre
    rw [if_neg (by simp [sc1]), if_neg (by show ¬ formE13 (1 : Nat) (1 : Nat) [b] ≠ 0; rw [he]; simp), if_neg]
    rw [ef]; unfold secsOf; rw [h2]; show ¬ 10 < 1 + 64 / 64; omega
  · unfold Scr.all
    rw [ef]; unfold secsOf; rw [h2]; rfl
theorem gone1 {d : Dr} (on : OnD d 10) (hW : d.W = []) (b : B8) : sc1.putE (d.lay 1) [b] = 20 ∧ (sc1.putD (d.lay 1) [b]).L = d.L ∧ (sc1.putD (d.lay 1) [b]).W = [] ∧ ∀ s', sc1.PutS (d.lay 1) [b] s' → s'.gone = true := by
  obtain ⟨hp, S, hS, ha⟩ := sc1_pre b
  have hr : (d.lay 1).readE ((1 : Nat) : Int) = 0 := by
    unfold Dr.readE Dr.lay; simp only; rw [on.off, on.ok.len]; simp
  have hw : (d.lay 1).writeE ((1 : Nat) : Int) S = 20 := by
    unfold Dr.writeE; rw [if_neg (by rw [hr]; simp), if_neg (by rw [hS]; simp), if_pos (show (d.lay 1).fuse = 1 from rfl)]
  have hww : (d.lay 1).write ((1 : Nat) : Int) S = (d.lay 1).burn := by
    unfold Dr.write; rw [if_neg (by rw [hr, hS]; simp), if_pos (show (d.lay 1).fuse = 1 from rfl)]
  have hall : sc1.all (d.lay 1) [b] = ((d.lay 1).burn, 20) := by
    rw [ha, putR, if_pos (by rw [hw]; decide), hw, hww]
  refine ⟨by unfold Scr.putE; rw [if_neg (by rw [hp]; simp), hall], by unfold Scr.putD; rw [if_neg (by rw [hp]; simp), hall]; rfl, by unfold Scr.putD; rw [if_neg (by rw [hp]; simp), hall]; exact hW, fun s' hs => ?_⟩
  unfold Scr.PutS at hs
  rw [if_neg (by rw [hp]; simp), hall, if_neg (show ¬ (20 : Nat) = 0 by decide)] at hs
  exact hs
theorem gone2 {d : Dr} (on : OnD d 10) (hW : d.W = []) (b : B8) : sc1.putE (d.lay 2) [b] = 0 ∧ (sc1.putD (d.lay 2) [b]).syncE = 20 ∧ (sc1.putD (d.lay 2) [b]).sync.L = d.L ∧ (∀ w ∈ (sc1.putD (d.lay 2) [b]).sync.W, w.1 < 10) ∧ (sc1.putD (d.lay 2) [b]).sync.W.length ≤ 1 ∧ (sc1.putD (d.lay 2) [b]).W.length ≤ 1 ∧ ∀ s', sc1.PutS (d.lay 2) [b] s' → s'.gone = false := by
  obtain ⟨hp, S, hS, ha⟩ := sc1_pre b
  have hr : (d.lay 2).readE ((1 : Nat) : Int) = 0 := by
    unfold Dr.readE Dr.lay; simp only; rw [on.off, on.ok.len]; simp
  have hw : (d.lay 2).writeE ((1 : Nat) : Int) S = 0 := by
    unfold Dr.writeE; rw [if_neg (by rw [hr]; simp), if_neg (by rw [hS]; simp), if_neg (by show ¬ (2 : Int).toNat = 1; decide)]
  have hww : (d.lay 2).write ((1 : Nat) : Int) S = ⟨d.L, [(1, S)], 1, false⟩ := by
    unfold Dr.write; rw [if_neg (by rw [hr, hS]; simp), if_neg (by show ¬ (2 : Int).toNat = 1; decide)]
    simp [Dr.burn, Dr.lay, hW, on.off]
  have hall : sc1.all (d.lay 2) [b] = (⟨d.L, [(1, S)], 1, false⟩, 0) := by
    rw [ha, putR, if_neg (by rw [hw]; simp), hww]; rfl
  have hd : sc1.putD (d.lay 2) [b] = ⟨d.L, [(1, S)], 1, false⟩ := by unfold Scr.putD; rw [if_neg (by rw [hp]; simp), hall]
  rw [hd]
  refine ⟨by unfold Scr.putE; rw [if_neg (by rw [hp]; simp), hall], rfl, rfl, ?_, Nat.le_refl _, Nat.le_refl _, fun s' hs => ?_⟩
  · intro w hw
    have hw : w ∈ [((1 : Nat), S)] := hw
    simp at hw; rw [hw]; show 1 < 10; omega
  · unfold Scr.PutS at hs
    rw [if_neg (by rw [hp]; simp), hall, if_pos rfl] at hs
    rw [hs]
theorem one_lst {w : World} {N : Nat → Prop} {A : Option Addr} {x : List B8} {l : List (List B8)} (h : LstQ w N A l) (e : l = [x]) : ∃ ad Ai ci, A = some ad ∧ w.cell? (ad.add 0) = some (.slice Ai x.length ci) ∧ SlN w N Ai (x.map bv) := by
  obtain ⟨ad, Ai, ci, h1, h2, h3, h4, h5, h6⟩ := h 0 x (by rw [e]; rfl)
  exact ⟨ad, Ai, ci, h1, h3, h6⟩
/-- A byte that was made, as a slice that can be put. -/
theorem byte_new {w w' : World} {D E : Nat → Prop} (b : B8) (hD : ∀ k, D k → k < w.heap.size) (hE : ∀ k, E k → k < w.heap.size) (hw : w' = w.alloc (.cells #[.int .u8 (b.toNat : Int)] 5)) : SlN w' (fun k => D k ∨ E k) (some ⟨w.heap.size, 0, none⟩) (([b] : List B8).map bv) := by
  rw [hw]
  exact (bts_new w [b] _ rfl).turn (Turn.refl (fun _ => False) _) (fun _ h => h.elim) (fun i _ h => h.elim (hD i) (hE i))
/-- A scroll's and a drum's blocks are new since w0, and nothing else has turned. -/
structure Frm (w0 w : World) (D E : Nat → Prop) : Prop where
  t : Turn (fun _ => False) w0 w
  d : ∀ k, D k → w0.heap.size ≤ k
  e : ∀ k, E k → w0.heap.size ≤ k
theorem Frm.quiet {w0 w w' : World} {D E : Nat → Prop} (h : Frm w0 w D E) (t : Turn (fun _ => False) w w') : Frm w0 w' D E := ⟨h.t.trans t (fun _ _ h => h), h.d, h.e⟩
theorem Frm.step {w0 w w' : World} {D D' E : Nat → Prop} (h : Frm w0 w D E) (hD : ∀ k, D' k → Dn D w w' k) (t : Turn (fun k => D k ∨ E k) w w') : Frm w0 w' D' E :=
  ⟨h.t.trans t (fun i hi hh => hh.elim (fun a => by have := h.d i a; omega) (fun a => by have := h.e i a; omega)), fun k hk => (hD k hk).elim (h.d k) (fun a => by have := a.1; have := h.t.size; omega), h.e⟩
theorem Frm.drum {w0 w w' : World} {D E : Nat → Prop} (h : Frm w0 w D E) (t : Turn D w w') : Frm w0 w' D E :=
  ⟨h.t.trans t (fun i hi a => by have := h.d i a; omega), h.d, h.e⟩
theorem frm_new {w0 w1 w2 : World} {D' E : Nat → Prop} (t1 : Turn (fun _ => False) w0 w1) (hD : ∀ k, D' k → Dn (Since w0 w1) w1 w2 k) (hE : ∀ k, E k → w1.heap.size ≤ k) (t2 : Turn (Since w0 w1) w1 w2) : Frm w0 w2 D' E :=
  ⟨t1.trans t2 (fun i hi h => by have := h.1; omega), fun k hk => (hD k hk).elim (fun h => h.1) (fun h => by have := h.1; have := t1.size; omega), fun k hk => by have := hE k hk; have := t1.size; omega⟩
set_option maxHeartbeats 8000000 in
theorem scrollGone_of {SB : World → Nat → Nat → Scr → (Nat → Prop) → Prop} (S13 : SC SB) (a b : B8) (n : Nat) (hn : n < 256) (w : World) (hG : Glob w) :
    Calls Tryd.prog 8 #[.int .u8 (a.toNat : Int), .int .u8 (b.toNat : Int), .int .u8 (n : Int)] w fun r w' => r = .returned (.bool true) ∧ Turn (fun _ => False) w w' := by
  have AW := Lib.hid (fun (w' : World) (t : Turn (fun _ => False) w w') => awake13 S13 w' (glob_turn hG t))
  have HN := Lib.hid (LD.new 10 (by omega) (by omega) w hG)
  go_enter Tryd.func8, Tryd.ntmps8
  go_wp2_with (go_at_call 13; refine stop ?_)
  unfold Stop
  refine HN.out.mono ?_
  rintro r w1 ⟨g, rfl, ld1, t1⟩
  have HB := Lib.hid (gd_new S13 w1 g 10 0 10 1 (Since w w1) ld1 (by omega) (by omega) (by unfold mostS; omega))
  have T1 := Lib.hid t1
  clear HN ld1 t1
  go_wp2_with (go_at_call 21; refine stop ?_)
  unfold Stop
  refine HB.out.mono ?_
  rintro r w2 ⟨s, D2, E, rfl, gd2, hD2, hE2, t2⟩
  have G2 := Lib.hid gd2
  have F2 := Lib.hid (frm_new T1.out hD2 hE2 t2)
  clear HB T1 gd2 hD2 hE2 t2
  go_wp2_with (go_at_call 23; refine stop ?_)
  unfold Stop
  obtain ⟨w3, hw3⟩ : ∃ w3, w3 = w2.alloc (.cells #[.int .u8 (a.toNat : Int)] 5) := ⟨_, rfl⟩
  have t3 : Turn (fun _ => False) w2 w3 := by rw [hw3]; exact (Turn.refl _ _).alloc _
  have gd3 := G2.out.quiet S13 t3
  obtain ⟨f1, f2⟩ := one_form 1 0 a (by omega) (by omega)
  have P3 := Lib.hid (gd3.putOk S13 (by omega) (some ⟨w2.heap.size, 0, none⟩) 1 [a] (byte_new a G2.out.ats.ld.lt G2.out.ats.lt hw3) (fun h => by cases h) (by simp) (by show (fldS 1 0 [a]).length ≤ 65524; omega) (by unfold mostS; simp) (by show 0 + 1024 < 10000; omega) (by show 0 + (formS 1 0 [a]).length / 64 ≤ 10; rw [f2]; omega))
  have F3 := Lib.hid (F2.out.quiet t3)
  rw [← hw3]
  clear hw3 t3 gd3 G2 F2 f1
  refine P3.out.mono ?_
  rintro r w4 ⟨D4, d4, rfl, gd4, -, hD4, t4⟩
  have Y4 := Lib.hid (gd4.syncOk S13)
  have F4 := Lib.hid (F3.out.step hD4 t4)
  have W4 := Lib.hid (gd4.inv.on.sync)
  clear P3 F3 gd4 hD4 t4
  go_wp2_with (go_at_call 24; refine stop ?_)
  unfold Stop
  refine Y4.out.mono ?_
  rintro r w5 ⟨D5, rfl, gd5, hD5, t5⟩
  obtain ⟨d5, hd5⟩ : ∃ d5, d5 = d4.sync := ⟨_, rfl⟩
  rw [← hd5] at gd5 W4
  have hW5 := W4.out.2.2
  have G5 := Lib.hid gd5
  have F5 := Lib.hid (F4.out.step hD5 t5)
  have e1 : secsS 1 0 (([] : List (List B8)) ++ [[a]]) = 1 := by rw [List.nil_append, secsS_one, f2]
  have A5 := Lib.hid (show Ats SB w5 g s 10 d5 sc1 D5 E by
    have h := gd5.ats
    rw [e1] at h
    exact h)
  have I5 := Lib.hid (show Inv d5 10 0 10 1 [[a]] 1 from gd5.inv)
  have HW5 := Lib.hid hW5
  clear Y4 F4 W4 gd5 hD5 t5 hd5 hW5 f2 e1 G5
  rcases Nat.mod_two_eq_zero_or_one n with h2 | h2
  · have hn2 : (n : Int) % 2 = 0 := by omega
    have FU := Lib.hid (A5.out.ld.fuse 1 (by omega))
    have hq : (1 : Int) + 0 = 1 := by omega
    clear h2
    go_wp2_with (go_at_call 28; refine stop ?_)
    unfold Stop
    refine FU.out.mono ?_
    rintro r w6 ⟨⟨v, rfl⟩, ld6, t6⟩
    have A6 := Lib.hid (A5.out.drum S13 ld6 t6)
    have F6 := Lib.hid (F5.out.drum t6)
    clear FU A5 F5 ld6 t6
    go_wp2_with (go_at_call 23; refine stop ?_)
    unfold Stop
    obtain ⟨w7, hw7⟩ : ∃ w7, w7 = w6.alloc (.cells #[.int .u8 (b.toNat : Int)] 5) := ⟨_, rfl⟩
    have t7 : Turn (fun _ => False) w6 w7 := by rw [hw7]; exact (Turn.refl _ _).alloc _
    have P7 := Lib.hid (S13.put w7 g s 10 (d5.lay 1) sc1 D5 E (some ⟨w6.heap.size, 0, none⟩) 1 [b] (A6.out.quiet S13 t7) (by omega) (fun _ => ⟨by show 1 ≤ mostS; unfold mostS; omega, by show 1 ≤ 10; omega, by show 10 ≤ 10; omega, by show 1 ≤ mostS; unfold mostS; omega⟩) (byte_new b A6.out.ld.lt A6.out.lt hw7) (fun h => by cases h) (by simp) (by simp) (by show d5.W.length + 1024 < 10000; rw [HW5.out]; simp))
    have F7 := Lib.hid (F6.out.quiet t7)
    rw [← hw7]
    clear hw7 t7 A6 F6
    refine P7.out.mono ?_
    rintro r w8 ⟨D8, sc8, rfl, a8, hp8, hD8, t8⟩
    have F8 := Lib.hid (F7.out.step hD8 t8)
    obtain ⟨g1, g2, g3, g4⟩ := gone1 I5.out.on HW5.out b
    have hgone := g4 sc8 hp8
    obtain ⟨d8, hd8⟩ : ∃ d8, d8 = sc1.putD (d5.lay 1) [b] := ⟨_, rfl⟩
    rw [← hd8] at a8 g2 g3
    have L8 := Lib.hid g2
    have WB := Lib.hid (show ∀ w ∈ d8.W, w.1 < 10 by rw [g3]; intro w hw; cases hw)
    have WL := Lib.hid (show d8.W.length ≤ 1 by rw [g3]; simp)
    have A8 := Lib.hid a8
    rw [g1]
    have hn3 : ((n : Int) % 2 == 1) = false := by rw [hn2]; rfl
    clear P7 F7 a8 hp8 hD8 t8 g1 g2 g3 g4 hd8
    have HG := Lib.hid hgone
    have GP := Lib.hid (A8.out.gonePut S13 (by omega) HG.out (by have := WL.out; omega))
    go_wp2_with (go_at_call 23; refine stop ?_)
    unfold Stop
    refine GP.out.mono ?_
    rintro r wb ⟨Db, rfl, ab, hDb, tb⟩
    have GS := Lib.hid (ab.goneSync S13 HG.out)
    have Fb := Lib.hid (F8.out.step hDb tb)
    clear GP ab hDb tb
    go_wp2_with (go_at_call 24; refine stop ?_)
    unfold Stop
    refine GS.out.mono ?_
    rintro r wc ⟨Dc, sc', rfl, hg', ac, hDc, tc⟩
    have Ac := Lib.hid ac
    have HG' := Lib.hid hg'
    have Fc := Lib.hid (Fb.out.step hDc tc)
    clear GS Fb ac hg' hDc tc
    go_wp2_with (go_at_call 25; refine stop ?_)
    unfold Stop
    obtain ⟨we, hwe⟩ : ∃ we, we = wc.alloc (.cells #[.int .u8 0, .int .u8 0, .int .u8 0] 5) := ⟨_, rfl⟩
    have te : Turn (fun _ => False) wc we := by rw [hwe]; exact (Turn.refl _ _).alloc _
    have ae := Ac.out.quiet S13 te
    have Fe := Lib.hid (Fc.out.quiet te)
    have se : SlN we Dc (some ⟨wc.heap.size, 0, none⟩) (([0, 0, 0] : List B8).map bv) := by
      rw [hwe]
      exact (bts_new wc [0, 0, 0] _ rfl).turn (Turn.refl (fun _ => False) _) (fun _ h => h.elim) (fun i _ h => Ac.out.ld.lt i h)
    have ST := Lib.hid (ae.ld.start (some ⟨wc.heap.size, 0, none⟩) 3 [0, 0, 0] se (by unfold maxLen; simp))
    have Ae := Lib.hid ae
    rw [← hwe]
    clear hwe te ae se Ac Fc
    refine ST.out.mono ?_
    rintro r wf ⟨⟨v, rfl⟩, ldf, tf⟩
    obtain ⟨df, hdf⟩ : ∃ df, df = d8.start [0, 0, 0] := ⟨_, rfl⟩
    rw [← hdf] at ldf
    have af := Ae.out.drum S13 ldf tf
    have Ff := Lib.hid (Fe.out.drum tf)
    have hnow : ∀ k, df.now k = d5.now k := fun k => by rw [hdf]; exact start_none I5.out.on.ok HW5.out L8.out WB.out [0, 0, 0] (by intro x hx; simp at hx; exact hx) (by have := WL.out; simp; omega) k
    have hcut : cutD df 0 10 = cutD d5 0 10 := cutD_congr 0 10 fun k _ _ => hnow k
    have hoff : df.off = false := by rw [hdf]; rfl
    have hse : scanE 10 df 0 10 1 = 0 := by unfold scanE; rw [if_neg (by unfold inS mostS; omega), hoff]; rfl
    have hsv : scanV 10 df 0 10 1 = ([[a]], secsS 1 0 [[a]]) := by
      unfold scanV
      rw [hse, if_neg (by simp)]
      show scanN (cutD df 0 10) 1 0 = _
      rw [hcut]; exact I5.out.scan
    have GP := Lib.hid (af.gonePut S13 (by omega) HG'.out (by rw [hdf]; show 0 + 1024 < 10000; omega))
    have HSE := Lib.hid hse
    have HSV := Lib.hid hsv
    clear ST Ae Fe ldf tf hdf af hnow hcut hoff hse hsv
    go_wp2_with (go_at_call 23; refine stop ?_)
    unfold Stop
    refine GP.out.mono ?_
    rintro r wh ⟨Dh, rfl, ah, hDh, th⟩
    have Fh := Lib.hid (Ff.out.step hDh th)
    have SN := S13.scan wh g 10 df Dh 0 10 1 ah.ld (by omega) (by omega)
    rw [HSV.out, HSE.out] at SN
    have SN := Lib.hid SN
    clear GP Ff ah hDh th HSE HSV
    go_wp2_with (go_at_call 15; refine stop ?_)
    unfold Stop
    refine SN.out.mono ?_
    rintro r wi ⟨Ai, ci, rfl, qi, -, -, ti⟩
    obtain ⟨ad, Aj, cj, rfl, hcell, sj⟩ := one_lst qi rfl
    rw [addr_zero0] at hcell
    have Ti := Lib.hid (Fh.out.t.trans ti (fun _ _ h => h))
    have SJ := Lib.hid sj
    clear SN Fh qi sj ti
    go_wp2_with (go_at_call 12; refine stop ?_)
    unfold Stop
    obtain ⟨wj, hwj⟩ : ∃ wj, wj = wi.alloc (.cells #[.int .u8 (a.toNat : Int)] 5) := ⟨_, rfl⟩
    have tj : Turn (fun _ => False) wi wj := by rw [hwj]; exact (Turn.refl _ _).alloc _
    have BY := Lib.hid (rbytes_any Aj (some ⟨wi.heap.size, 0, none⟩) cj 1 _ _ [a] [a] wj (SJ.out.turn (N' := fun _ => False) tj (fun _ h => h.elim) (fun _ _ h => h.elim)).sl (by rw [hwj]; exact (bts_new wi [a] _ rfl).sl) (by unfold maxLen; simp) (by unfold maxLen; simp))
    rw [decide_eq_true (show [a] = [a] from rfl)] at BY
    have Tj := Lib.hid (Ti.out.trans tj (fun _ _ h => h))
    rw [← hwj]
    clear hwj tj Ti SJ
    refine BY.out.mono ?_
    rintro r wk ⟨rfl, mk, hwk⟩
    have Tk := Lib.hid (Tj.out.trans (show Turn (fun _ => False) wj wk by rw [hwk]; exact of_turn (below_drewN (Below.refl _ _))) (fun _ _ h => h))
    clear BY Tj hwk
    go_wp2_with (go_at_call 9; refine stop ?_)
    unfold Stop
    refine (AW.out wk Tk.out).mono ?_
    rintro r wl ⟨rfl, tl⟩
    have Tl := Lib.hid (Tk.out.trans tl (fun _ _ h => h))
    clear AW Tk tl
    go_wp2
    go_ret
    exact ⟨rfl, Tl.out⟩
  · have hn2 : (n : Int) % 2 = 1 := by omega
    have FU := Lib.hid (A5.out.ld.fuse 2 (by omega))
    clear h2
    go_wp2_with (go_at_call 28; refine stop ?_)
    unfold Stop
    refine FU.out.mono ?_
    rintro r w6 ⟨⟨v, rfl⟩, ld6, t6⟩
    have A6 := Lib.hid (A5.out.drum S13 ld6 t6)
    have F6 := Lib.hid (F5.out.drum t6)
    clear FU A5 F5 ld6 t6
    go_wp2_with (go_at_call 23; refine stop ?_)
    unfold Stop
    obtain ⟨w7, hw7⟩ : ∃ w7, w7 = w6.alloc (.cells #[.int .u8 (b.toNat : Int)] 5) := ⟨_, rfl⟩
    have t7 : Turn (fun _ => False) w6 w7 := by rw [hw7]; exact (Turn.refl _ _).alloc _
    have P7 := Lib.hid (S13.put w7 g s 10 (d5.lay 2) sc1 D5 E (some ⟨w6.heap.size, 0, none⟩) 1 [b] (A6.out.quiet S13 t7) (by omega) (fun _ => ⟨by show 1 ≤ mostS; unfold mostS; omega, by show 1 ≤ 10; omega, by show 10 ≤ 10; omega, by show 1 ≤ mostS; unfold mostS; omega⟩) (byte_new b A6.out.ld.lt A6.out.lt hw7) (fun h => by cases h) (by simp) (by simp) (by show d5.W.length + 1024 < 10000; rw [HW5.out]; simp))
    have F7 := Lib.hid (F6.out.quiet t7)
    rw [← hw7]
    clear hw7 t7 A6 F6
    refine P7.out.mono ?_
    rintro r w8 ⟨D8, sc8, rfl, a8, hp8, hD8, t8⟩
    have F8 := Lib.hid (F7.out.step hD8 t8)
    obtain ⟨g1, g2, g3, g4, g5, g5', g6⟩ := gone2 I5.out.on HW5.out b
    have hng := g6 sc8 hp8
    obtain ⟨d8, hd8⟩ : ∃ d8, d8 = sc1.putD (d5.lay 2) [b] := ⟨_, rfl⟩
    rw [← hd8] at a8 g2 g3 g4 g5
    have SY := S13.sync w8 g s 10 d8 sc8 D8 E a8
    have k1 : sc8.syncE d8 = 20 := by unfold Scr.syncE; rw [if_neg (by rw [hng]; simp), g2]
    have k2 : sc8.syncD d8 = d8.sync := by unfold Scr.syncD; rw [if_neg (by rw [hng]; simp)]
    rw [k1, k2] at SY
    have SY := Lib.hid SY
    have K1 := Lib.hid k1
    have L8 := Lib.hid g3
    have WB := Lib.hid g4
    have WL := Lib.hid g5
    rw [g1]
    have hn3 : ((n : Int) % 2 == 1) = true := by rw [hn2]; rfl
    clear P7 F7 a8 hp8 hD8 t8 g1 g2 g3 g4 g5 g5' g6 hd8 k1 k2 hng
    go_wp2_with (go_at_call 24; refine stop ?_)
    unfold Stop
    refine SY.out.mono ?_
    rintro r w9 ⟨D9, sc9, rfl, a9, hp9, hD9, t9⟩
    have hgone : sc9.gone = true := by
      unfold Scr.SyncS at hp9
      rw [K1.out, if_neg (show ¬ (20 : Nat) = 0 by decide)] at hp9
      exact hp9
    have A9 := Lib.hid a9
    have F9 := Lib.hid (F8.out.step hD9 t9)
    obtain ⟨d9, hd9⟩ : ∃ d9, d9 = d8.sync := ⟨_, rfl⟩
    rw [← hd9] at A9 L8 WB WL
    clear SY F8 a9 hp9 hD9 t9 K1 hd9
    have HG := Lib.hid hgone
    have GP := Lib.hid (A9.out.gonePut S13 (by omega) HG.out (by have := WL.out; omega))
    go_wp2_with (go_at_call 23; refine stop ?_)
    unfold Stop
    refine GP.out.mono ?_
    rintro r wb ⟨Db, rfl, ab, hDb, tb⟩
    have GS := Lib.hid (ab.goneSync S13 HG.out)
    have Fb := Lib.hid (F9.out.step hDb tb)
    clear GP ab hDb tb
    go_wp2_with (go_at_call 24; refine stop ?_)
    unfold Stop
    refine GS.out.mono ?_
    rintro r wc ⟨Dc, sc', rfl, hg', ac, hDc, tc⟩
    have Ac := Lib.hid ac
    have HG' := Lib.hid hg'
    have Fc := Lib.hid (Fb.out.step hDc tc)
    clear GS Fb ac hg' hDc tc
    go_wp2_with (go_at_call 25; refine stop ?_)
    unfold Stop
    obtain ⟨we, hwe⟩ : ∃ we, we = wc.alloc (.cells #[.int .u8 0, .int .u8 0, .int .u8 0] 5) := ⟨_, rfl⟩
    have te : Turn (fun _ => False) wc we := by rw [hwe]; exact (Turn.refl _ _).alloc _
    have ae := Ac.out.quiet S13 te
    have Fe := Lib.hid (Fc.out.quiet te)
    have se : SlN we Dc (some ⟨wc.heap.size, 0, none⟩) (([0, 0, 0] : List B8).map bv) := by
      rw [hwe]
      exact (bts_new wc [0, 0, 0] _ rfl).turn (Turn.refl (fun _ => False) _) (fun _ h => h.elim) (fun i _ h => Ac.out.ld.lt i h)
    have ST := Lib.hid (ae.ld.start (some ⟨wc.heap.size, 0, none⟩) 3 [0, 0, 0] se (by unfold maxLen; simp))
    have Ae := Lib.hid ae
    rw [← hwe]
    clear hwe te ae se Ac Fc
    refine ST.out.mono ?_
    rintro r wf ⟨⟨v, rfl⟩, ldf, tf⟩
    obtain ⟨df, hdf⟩ : ∃ df, df = d9.start [0, 0, 0] := ⟨_, rfl⟩
    rw [← hdf] at ldf
    have af := Ae.out.drum S13 ldf tf
    have Ff := Lib.hid (Fe.out.drum tf)
    have hnow : ∀ k, df.now k = d5.now k := fun k => by rw [hdf]; exact start_none I5.out.on.ok HW5.out L8.out WB.out [0, 0, 0] (by intro x hx; simp at hx; exact hx) (by have := WL.out; simp; omega) k
    have hcut : cutD df 0 10 = cutD d5 0 10 := cutD_congr 0 10 fun k _ _ => hnow k
    have hoff : df.off = false := by rw [hdf]; rfl
    have hse : scanE 10 df 0 10 1 = 0 := by unfold scanE; rw [if_neg (by unfold inS mostS; omega), hoff]; rfl
    have hsv : scanV 10 df 0 10 1 = ([[a]], secsS 1 0 [[a]]) := by
      unfold scanV
      rw [hse, if_neg (by simp)]
      show scanN (cutD df 0 10) 1 0 = _
      rw [hcut]; exact I5.out.scan
    have GP := Lib.hid (af.gonePut S13 (by omega) HG'.out (by rw [hdf]; show 0 + 1024 < 10000; omega))
    have HSE := Lib.hid hse
    have HSV := Lib.hid hsv
    clear ST Ae Fe ldf tf hdf af hnow hcut hoff hse hsv
    go_wp2_with (go_at_call 23; refine stop ?_)
    unfold Stop
    refine GP.out.mono ?_
    rintro r wh ⟨Dh, rfl, ah, hDh, th⟩
    have Fh := Lib.hid (Ff.out.step hDh th)
    have SN := S13.scan wh g 10 df Dh 0 10 1 ah.ld (by omega) (by omega)
    rw [HSV.out, HSE.out] at SN
    have SN := Lib.hid SN
    clear GP Ff ah hDh th HSE HSV
    go_wp2_with (go_at_call 15; refine stop ?_)
    unfold Stop
    refine SN.out.mono ?_
    rintro r wi ⟨Ai, ci, rfl, qi, -, -, ti⟩
    obtain ⟨ad, Aj, cj, rfl, hcell, sj⟩ := one_lst qi rfl
    rw [addr_zero0] at hcell
    have Ti := Lib.hid (Fh.out.t.trans ti (fun _ _ h => h))
    have SJ := Lib.hid sj
    clear SN Fh qi sj ti
    go_wp2_with (go_at_call 12; refine stop ?_)
    unfold Stop
    obtain ⟨wj, hwj⟩ : ∃ wj, wj = wi.alloc (.cells #[.int .u8 (a.toNat : Int)] 5) := ⟨_, rfl⟩
    have tj : Turn (fun _ => False) wi wj := by rw [hwj]; exact (Turn.refl _ _).alloc _
    have BY := Lib.hid (rbytes_any Aj (some ⟨wi.heap.size, 0, none⟩) cj 1 _ _ [a] [a] wj (SJ.out.turn (N' := fun _ => False) tj (fun _ h => h.elim) (fun _ _ h => h.elim)).sl (by rw [hwj]; exact (bts_new wi [a] _ rfl).sl) (by unfold maxLen; simp) (by unfold maxLen; simp))
    rw [decide_eq_true (show [a] = [a] from rfl)] at BY
    have Tj := Lib.hid (Ti.out.trans tj (fun _ _ h => h))
    rw [← hwj]
    clear hwj tj Ti SJ
    refine BY.out.mono ?_
    rintro r wk ⟨rfl, mk, hwk⟩
    have Tk := Lib.hid (Tj.out.trans (show Turn (fun _ => False) wj wk by rw [hwk]; exact of_turn (below_drewN (Below.refl _ _))) (fun _ _ h => h))
    clear BY Tj hwk
    go_wp2_with (go_at_call 9; refine stop ?_)
    unfold Stop
    refine (AW.out wk Tk.out).mono ?_
    rintro r wl ⟨rfl, tl⟩
    have Tl := Lib.hid (Tk.out.trans tl (fun _ _ h => h))
    clear AW Tk tl
    go_wp2
    go_ret
    exact ⟨rfl, Tl.out⟩
end
section
set_option linter.unusedVariables false
set_option linter.unusedSimpArgs false
open Go.RowKit
set_option maxRecDepth 100000
/-- A list that came in lies below what is new. -/
theorem LstN.q {w : World} {A : Option Addr} {ls : List (List B8)} (h : LstN w A ls) : LstQ w (fun k => w.heap.size ≤ k) A ls := fun i xs hi => by
  obtain ⟨ad, Ai, ci, e, hc, h1, h2, h3⟩ := h i xs hi
  have hlt := World.block_lt_of_cell? w _ hc
  rw [add_block] at hlt
  refine ⟨ad, Ai, ci, e, by show ¬ w.heap.size ≤ ad.block; omega, hc, h1, h2, fun j u hu => ?_⟩
  obtain ⟨ad', e', hc'⟩ := h3 j u hu
  have hlt' := World.block_lt_of_cell? w _ hc'
  rw [add_block] at hlt'
  exact ⟨ad', e', by show ¬ w.heap.size ≤ ad'.block; omega, hc'⟩
theorem LstQ.at {w : World} {N : Nat → Prop} {A : Option Addr} {ls : List (List B8)} (h : LstQ w N A ls) {i : Nat} (hi : i < ls.length) : ∃ ad Ai ci, A = some ad ∧ w.cell? (ad.add i) = some (.slice Ai ls[i].length ci) ∧ ls[i].length ≤ ci ∧ (Ai = none → ci = 0) ∧ SlN w N Ai (ls[i].map bv) := by
  obtain ⟨ad, Ai, ci, h1, h2, h3, h4, h5, h6⟩ := h i ls[i] (List.getElem?_eq_getElem hi)
  exact ⟨ad, Ai, ci, h1, h3, h4, h5, h6⟩
theorem SlN.apart {w0 w : World} {D E : Nat → Prop} {A : Option Addr} {xs : List Value} (h : SlN w (fun k => w0.heap.size ≤ k) A xs) (f : Frm w0 w D E) : SlN w (fun k => D k ∨ E k) A xs := h.turn (Turn.refl (fun _ => False) _) (fun _ h => h.elim) (fun i _ h => h.elim (f.d i) (f.e i))
theorem rec_two {t n : Nat} {b : List B8} (ht : t < 65536) (hn : n < 256) (hb : b.length ≤ 100) : (fldS t n b).length ≤ 107 ∧ (formS t n b).length / 64 ≤ 2 := by
  have h1 : klen t ≤ 2 := klen_le (by omega)
  have h2 : klen n ≤ 1 := klen_le (by omega)
  have h3 : klen b.length ≤ 1 := klen_le (by omega)
  have hl := fldS_length t n b
  refine ⟨by omega, ?_⟩
  rw [formS_length]
  have := secPad_lt (12 + (fldS t n b).length)
  omega
theorem scan_other {d : Dr} {n p m t o sure : Nat} {b : List B8} {rest : List (List B8)} (h : Inv d n p m t (b :: rest) sure) (ho : t ≠ o) (hom : o ≤ mostS) : scanE n d p m o = 0 ∧ scanV n d p m o = ([], 0) := by
  have hfit := h.fit
  have he : scanE n d p m o = 0 := by unfold scanE; rw [if_neg (by unfold inS; omega), h.on.off]; rfl
  have hb := h.bytes
  have hr := form_read t 0 b (formsS t (0 + 1) rest ++ zeros (64 * (m - secsS t 0 (b :: rest)))) h.turn (Nat.zero_le _) (h.lens 0 (by simp))
  rw [formsS, List.append_assoc] at hb
  refine ⟨he, ?_⟩
  unfold scanV
  rw [he, if_neg (by simp), Int.toNat_natCast, Int.toNat_natCast, Int.toNat_natCast, hb]
  exact scanN_other hr (.inl ho)
theorem scan_same {d : Dr} {n p m t sure : Nat} {put : List (List B8)} (h : Inv d n p m t put sure) : scanE n d p m t = 0 ∧ scanV n d p m t = (put, secsS t 0 put) := by
  have hfit := h.fit
  have ht := h.turn
  have he : scanE n d p m t = 0 := by unfold scanE; rw [if_neg (by unfold inS; omega), h.on.off]; rfl
  refine ⟨he, ?_⟩
  unfold scanV
  rw [he, if_neg (by simp), Int.toNat_natCast, Int.toNat_natCast, Int.toNat_natCast]
  exact h.scan
theorem scan_blank {d : Dr} {n p m t : Nat} (on : OnD d n) (hf : p + m ≤ n) (ht : t ≤ mostS) (hz : ∀ k, k < m → d.now (p + k) = zeros 64) : scanE n d p m t = 0 ∧ scanV n d p m t = ([], 0) := by
  have he : scanE n d p m t = 0 := by unfold scanE; rw [if_neg (by unfold inS; omega), on.off]; rfl
  refine ⟨he, ?_⟩
  unfold scanV
  rw [he, if_neg (by simp), Int.toNat_natCast, Int.toNat_natCast, Int.toNat_natCast, cut_zeros p m hz]
  exact scanN_none (zeros_none _) _ _
set_option maxHeartbeats 8000000 in
theorem scrollOther_of {SB : World → Nat → Nat → Scr → (Nat → Prop) → Prop} (S13 : SC SB) (A : Option Addr) (c : Nat) (ls : List (List B8)) (t o : Nat) (ht : t < 65536) (ho : o < 65536) (w : World) (hG : Glob w) (hl : LstN w A ls) (hA : A = none → c = 0) (hc : ls.length ≤ c) (hm : ls.length ≤ maxLen) (hbm : ∀ x ∈ ls, x.length ≤ maxLen) :
    Calls Tryd.prog 7 #[.slice A ls.length c, .int .u16 (t : Int), .int .u16 (o : Int)] w fun r w' => r = .returned (.bool true) ∧ Turn (fun _ => False) w w' := by
  have AW := Lib.hid (fun (w' : World) (t : Turn (fun _ => False) w w') => awake13 S13 w' (glob_turn hG t))
  have HQ := Lib.hid hl.q
  have HBM := Lib.hid hbm
  clear hl hbm
  obtain ⟨n, hn⟩ : ∃ n, n = ls.length := ⟨_, rfl⟩
  rw [← hn] at hc hm ⊢
  have HNL := Lib.hid hn
  clear hn
  unfold maxLen at hm
  by_cases hout : 8 < n ∨ n < 1 ∨ t = o
  · have q : (decide ((8 : Int) < (n : Int)) || decide ((n : Int) < 1) || ((t : Int) == (o : Int))) = true := by
      rcases hout with h | h | h
      · rw [decide_eq_true (show (8 : Int) < (n : Int) by omega)]; rfl
      · rw [decide_eq_true (show (n : Int) < 1 by omega)]; simp
      · rw [h, beq_self_eq_true]; simp
    clear hout
    go_enter Tryd.func7, Tryd.ntmps7
    go_upto_region 2 with fail
    all_goals
      go_wp2_with (go_at_call 9; refine stop ?_)
      unfold Stop
      refine (AW.out w (Turn.refl _ _)).mono ?_
      rintro r w1 ⟨rfl, t1⟩
      have T1 := Lib.hid t1
      clear t1
      go_wp2
      go_ret
      exact ⟨rfl, T1.out⟩
  have hn8 : n ≤ 8 := by omega
  have hn1 : 1 ≤ n := by omega
  have hto : t ≠ o := by omega
  have d1 : decide ((8 : Int) < (n : Int)) = false := decide_eq_false (by omega)
  have d2 : decide ((n : Int) < 1) = false := decide_eq_false (by omega)
  have d3 : ((t : Int) == (o : Int)) = false := by rw [beq_eq_false_iff_ne]; omega
  have HTO := Lib.hid hto
  have HN := Lib.hid (LD.new 30 (by omega) (by omega) w hG)
  clear hout hto
  go_enter Tryd.func7, Tryd.ntmps7
  go_wp2_with (go_at_call 13; refine stop ?_)
  unfold Stop
  refine HN.out.mono ?_
  rintro r w1 ⟨g, rfl, ld1, t1⟩
  have HB := Lib.hid (gd_new S13 w1 g 30 3 20 t (Since w w1) ld1 (by omega) (by omega) (by unfold mostS; omega))
  have T1 := Lib.hid t1
  clear HN ld1 t1
  go_wp2_with (go_at_call 21; refine stop ?_)
  unfold Stop
  refine HB.out.mono ?_
  rintro r w2 ⟨s, D2, E, rfl, gd2, hD2, hE2, t2⟩
  have G2 := Lib.hid gd2
  have F2 := Lib.hid (frm_new T1.out hD2 hE2 t2)
  clear HB T1 gd2 hD2 hE2 t2 d1 d2 d3
  go_wp2
  go_loopw [10] (fun iv wr => ∃ (k : Nat) (d : Dr) (D : Nat → Prop), k ≤ n ∧ iv = .int .i64 (k : Int) ∧ Gd SB wr g s 30 3 20 t d (ls.take k) 0 D E ∧ Frm w wr D E ∧ d.W.length ≤ 2 * k ∧ secsS t 0 (ls.take k) ≤ 2 * k) (fun iv _ => n - (intOf iv).toNat)
  case atStart => exact ⟨0, _, D2, by omega, rfl, G2.out, F2.out, by simp [Dr.new], by simp [secsS]⟩
  case round =>
    clear G2 F2
    obtain ⟨k, d, D, hk, rfl, gd, fr, hW, hsec⟩ := hrel
    have G3 := Lib.hid gd
    have F3 := Lib.hid fr
    clear gd fr
    obtain ⟨W3, eW3⟩ : ∃ W3, W3 = wr := ⟨_, rfl⟩
    subst eW3
    by_cases hkn : k < n
    · have hkl : k < ls.length := by rw [← HNL.out]; exact hkn
      have hq := (HQ.out.turn (N' := fun k => w.heap.size ≤ k) F3.out.t (fun _ h => h.elim) (fun _ _ h => h)).at hkl
      obtain ⟨ad, Ai, ci, rfl, hcell, hci, hai, si⟩ := hq
      have hk8 : (k : Int) < (n : Int) := by omega
      have HX := Lib.hid (List.take_succ_eq_append_getElem hkl)
      have SI := Lib.hid (si.apart F3.out)
      have hxm := HBM.out _ (List.getElem_mem hkl)
      obtain ⟨x, hx⟩ : ∃ x, x = ls[k] := ⟨_, rfl⟩
      rw [← hx] at hcell hci HX SI hxm
      obtain ⟨lx, hlx⟩ : ∃ y, y = x.length := ⟨_, rfl⟩
      rw [← hlx] at hcell hci hxm
      unfold maxLen at hxm
      have HLX := Lib.hid hlx
      have HAI := Lib.hid hai
      clear hx hlx si hai
      by_cases hbig : 100 < lx
      · have db : decide ((100 : Int) < (lx : Int)) = true := decide_eq_true (by omega)
        clear hbig
        go_wp2_with (go_at_call 9; refine stop ?_)
        unfold Stop
        refine (AW.out W3 F3.out.t).mono ?_
        rintro r w4 ⟨rfl, t4⟩
        have T4 := Lib.hid (F3.out.t.trans t4 (fun _ _ h => h))
        clear t4
        go_wp2
        go_ret
        exact ⟨rfl, T4.out⟩
      · have db : decide ((100 : Int) < (lx : Int)) = false := decide_eq_false (by omega)
        have hkt : (ls.take k).length = k := by rw [List.length_take]; omega
        obtain ⟨r1, r2⟩ := rec_two (t := t) (n := k) (b := x) ht (by omega) (by rw [← HLX.out]; omega)
        have P4 := G3.out.putOk S13 (by omega) Ai ci x SI.out HAI.out (by rw [← HLX.out]; exact hci) (by rw [hkt]; omega) (by rw [hkt]; unfold mostS; omega) (by omega) (by rw [hkt]; omega)
        rw [← HLX.out, hkt, ← HX.out] at P4
        have P4 := Lib.hid P4
        have R2 := Lib.hid r2
        have HSN := Lib.hid (show secsS t 0 (ls.take (k + 1)) ≤ 2 * (k + 1) by rw [HX.out, secsS_append, Nat.zero_add, hkt, secsS_one]; omega)
        clear hbig hkt r1 r2 SI
        go_wp2_with (go_at_call 23; refine stop ?_)
        unfold Stop
        refine P4.out.mono ?_
        rintro r w4 ⟨D4, d4, rfl, gd4, hW4, hD4, t4⟩
        have G4 := Lib.hid gd4
        have F4 := Lib.hid (F3.out.step hD4 t4)
        have HW4 := Lib.hid (show d4.W.length ≤ 2 * (k + 1) by have := R2.out; omega)
        clear P4 gd4 hD4 t4 hW4
        go_wp2
        go_roundw
        case rel => exact ⟨k + 1, d4, D4, by omega, by go_num, G4.out, F4.out, HW4.out, HSN.out⟩
        case measure => simp [intOf]; omega
    · obtain rfl : k = n := by omega
      have hls : ls.take k = ls := by rw [HNL.out]; exact List.take_length
      have gd := G3.out
      rw [hls] at gd
      obtain ⟨y, rest, hy⟩ : ∃ y rest, ls = y :: rest := by
        cases hls' : ls with
        | nil => rw [hls'] at HNL; have := HNL.out; simp at this; omega
        | cons y rest => exact ⟨y, rest, rfl⟩
      have hinv := gd.inv
      rw [hy] at hinv
      have q1 : scanE 30 d 3 20 (t : Int) = 0 := (scan_same gd.inv).1
      have q2 : scanV 30 d 3 20 (t : Int) = (ls, secsS t 0 ls) := (scan_same gd.inv).2
      have q3 : scanE 30 d 3 20 (o : Int) = 0 := (scan_other hinv HTO.out (by unfold mostS; omega)).1
      have q4 : scanV 30 d 3 20 (o : Int) = ([], 0) := (scan_other hinv HTO.out (by unfold mostS; omega)).2
      have N4 := S13.scan W3 g 30 d D 3 20 (t : Int) gd.ats.ld (by omega) (by omega)
      rw [q1, q2] at N4
      simp only [← HNL.out] at N4
      have N4 := Lib.hid N4
      have N5 := Lib.hid (fun (w4 : World) (t4 : Turn (fun _ => False) W3 w4) => S13.scan w4 g 30 d D 3 20 (o : Int) (gd.ats.ld.quiet t4) (by omega) (by omega))
      rw [q3, q4] at N5
      have BL := Lib.hid (fun (w4 : World) (t4 : Turn (fun _ => False) W3 w4) => S13.blank w4 g 30 3 20 t d D (gd.ats.ld.quiet t4) gd.inv.on (by omega) (by omega) (by unfold mostS; omega) (by omega))
      have hly := hinv.lens 0 (by simp)
      have hry := hinv.room
      rw [secsS] at hry
      have HY := Lib.hid hy
      have HLY := Lib.hid (show (fldS t 0 y).length ≤ 65524 from hly)
      have HRY := Lib.hid (show (formS t 0 y).length / 64 ≤ 20 by omega)
      have HON := Lib.hid gd.inv.on
      clear hls gd hinv q1 q2 q3 q4 hly hry hy G3
      go_wp2_with (go_at_call 15; refine stop ?_)
      unfold Stop
      refine N4.out.mono ?_
      rintro r w4 ⟨A4, c4, rfl, -, -, -, t4⟩
      have N5' := Lib.hid (N5.out w4 t4)
      have T4 := Lib.hid t4
      clear N4 N5 t4
      go_wp2_with (go_at_call 15; refine stop ?_)
      unfold Stop
      refine N5'.out.mono ?_
      rintro r w5 ⟨A5, c5, rfl, -, -, -, t5⟩
      have t35 := T4.out.trans t5 (fun _ _ h => h)
      have BL' := Lib.hid (BL.out w5 t35)
      have F5 := Lib.hid (F3.out.quiet t35)
      clear N5' BL T4 F3 t5 t35
      go_wp2_with (go_at_call 21; refine stop ?_)
      unfold Stop
      refine BL'.out.mono ?_
      rintro r w6 ⟨s6, d6, D6, E6, rfl, a6, hD6, hE6, on6, hz6, -, hW6, t6⟩
      have F6 := Lib.hid (show Frm w w6 D6 E6 from ⟨F5.out.t.trans t6 (fun i hi h => by have := F5.out.d i h; omega), fun j hj => (hD6 j hj).elim (F5.out.d j) (fun h => by have := h.1; have := F5.out.t.size; omega), fun j hj => by have := hE6 j hj; have := F5.out.t.size; omega⟩)
      have LE6 := Lib.hid (show Calls Tryd.prog 22 #[.pointer (some ⟨s6, 0, none⟩)] w6 (fun r w' => r = .returned (.int .i64 20) ∧ w' = w6) from S13.left w6 g s6 30 d6 _ D6 E6 a6 rfl (by show 3 ≤ 3 + 20; omega) (by show 3 + 20 ≤ 30; omega) (by omega))
      have p1 : scanE 30 d6 3 20 (t : Int) = 0 := (scan_blank (p := 3) (m := 20) on6 (by omega) (by unfold mostS; omega) hz6).1
      have p2 : scanV 30 d6 3 20 (t : Int) = ([], 0) := (scan_blank (p := 3) (m := 20) on6 (by omega) (by unfold mostS; omega) hz6).2
      have N6 := S13.scan w6 g 30 d6 D6 3 20 (t : Int) a6.ld (by omega) (by omega)
      rw [p1, p2] at N6
      have N6 := Lib.hid N6
      have hpre : (⟨3, 3 + 20, t, 0, false⟩ : Scr).pre y = 0 := by
        have he : formE13 (t : Int) ((0 : Nat) : Int) y = 0 := formE_ok (by unfold mostS; omega) (by unfold mostS; omega) HLY.out
        have hv : formV13 (t : Int) ((0 : Nat) : Int) y = formS t 0 y := (formV_ok he).1
        unfold Scr.pre Scr.formE Scr.form secsOf
        rw [if_neg (by simp), if_neg (by show ¬ formE13 (t : Int) ((0 : Nat) : Int) y ≠ 0; rw [he]; simp), if_neg (by show ¬ 3 + 20 < 3 + (formV13 (t : Int) ((0 : Nat) : Int) y).length / 64; rw [hv]; have := HRY.out; omega)]
      have pe := (put_on on6 (show 3 + 20 ≤ 30 by omega) hpre).1
      have PE := Lib.hid pe
      have A6 := Lib.hid a6
      have HW6 := Lib.hid (show d6.W.length + 1024 < 10000 by omega)
      clear BL' F5 a6 hD6 hE6 on6 hz6 hW6 t6 p1 p2 hpre pe
      go_wp2_with (go_at_call 22; refine stop ?_)
      unfold Stop
      refine LE6.out.mono ?_
      rintro r w6' ⟨rfl, hw⟩
      rw [hw]
      clear LE6 hw w6'
      go_wp2_with (go_at_call 15; refine stop ?_)
      unfold Stop
      refine N6.out.mono ?_
      rintro r w7 ⟨A7, c7, rfl, -, -, -, t7⟩
      have F7 := Lib.hid (F6.out.quiet t7)
      have hq := (HQ.out.turn (N' := fun k => w.heap.size ≤ k) F7.out.t (fun _ h => h.elim) (fun _ _ h => h)).at (i := 0) (by rw [← HNL.out]; omega)
      obtain ⟨ad, Ai, ci, rfl, hcell, hci, hai, si⟩ := hq
      have hy0 : ls[0]'(by rw [← HNL.out]; omega) = y := by simp only [HY.out]; rfl
      rw [hy0] at hcell hci si
      rw [addr_zero0] at hcell
      have hyb : y.length ≤ 900000 := by
        have h1 := HLY.out
        have h2 : y.length ≤ (fldS t 0 y).length := by simp [fldS]; omega
        omega
      obtain ⟨ly, hly⟩ : ∃ z, z = y.length := ⟨_, rfl⟩
      have P7 := S13.put w7 g s6 30 d6 _ D6 E6 Ai ci y (A6.out.quiet S13 t7) (by omega) (fun _ => ⟨by show t ≤ mostS; unfold mostS; omega, by show 3 ≤ 3 + 20; omega, by show 3 + 20 ≤ 30; omega, by show 0 ≤ mostS; omega⟩) (si.apart F7.out) hai hci hyb HW6.out
      rw [PE.out, ← hly] at P7
      have P7 := Lib.hid P7
      rw [← hly] at hcell
      have hk0 : (0 : Int) < (k : Int) := by omega
      clear N6 F6 A6 hly si hai hci hy0 t7
      go_wp2_with (go_at_call 23; refine stop ?_)
      unfold Stop
      refine P7.out.mono ?_
      rintro r w8 ⟨D8, sc8, rfl, -, -, hD8, t8⟩
      have F8 := Lib.hid (F7.out.step hD8 t8)
      clear P7 F7 hD8 t8
      go_wp2_with (go_at_call 9; refine stop ?_)
      unfold Stop
      refine (AW.out w8 F8.out.t).mono ?_
      rintro r w9 ⟨rfl, t9⟩
      have T9 := Lib.hid (F8.out.t.trans t9 (fun _ _ h => h))
      clear AW F8 t9
      go_wp2
      go_ret
      exact ⟨rfl, T9.out⟩
end
end Go.Proofs.YthbheobjhpmoeaaDoor
