/- awake; a line that was made since. -/
import Derived.Test.YtgjplbanfnomkaaLsA
set_option linter.unusedVariables false
set_option linter.unusedSimpArgs false
namespace Go.Proofs.Ytgjplbanfnomkaa
open Go.RowKit
set_option maxRecDepth 100000
/-- A line that was made since w0. -/
structure Owd (w0 w : World) (g : Nat) (v : Value) (x : Ln) : Prop where
  l : Lat w g v x
  o : ∀ i, Ow g v i → w0.heap.size ≤ i
  t : Turn (fun _ => False) w0 w
section
variable {w0 w w' : World} {g : Nat} {v v' : Value} {x x' : Ln}
theorem Owd.step (h : Owd w0 w g v x) (L : Lat w' g v' x') (S : LnStep w w' g v v') : Owd w0 w' g v' x' :=
  ⟨L, fun i hi => hi.elim (fun e => h.o i (.inl e)) (fun e => (S.o i e).elim (fun e => h.o i (.inr e)) (fun e => Nat.le_trans h.t.size e)), h.t.trans S.t (fun i hi e => by have := h.o i e; omega)⟩
theorem Owd.quiet (h : Owd w0 w g v x) (t : Turn (fun _ => False) w w') : Owd w0 w' g v x := ⟨h.l.quiet t, h.o, h.t.trans t (fun _ _ h => h)⟩
end
theorem owd_new {w w' : World} {g : Nat} {x : Ln} (hg : w.heap.size ≤ g) (hl : Lat w' g (.slice none 0 0) x) (t : Turn (fun _ => False) w w') : Owd w w' g (.slice none 0 0) x :=
  ⟨hl, fun i hi => hi.elim (fun e => by omega) (fun e => by cases e), t⟩
theorem lnew_yes (b t : Int) (w : World) (h : 0 ≤ b ∧ b ≤ 1099511627776 ∧ 0 ≤ t ∧ t ≤ 1099511627776) : Calls Try.prog 9 #[.int .i64 b, .int .i64 t] w fun r w' => ∃ g, r = .returned (.pointer (some ⟨g, 0, none⟩)) ∧ Owd w w' g (.slice none 0 0) ⟨b, t, []⟩ :=
  (lnew_any b t w).mono fun r w' hp => by
    rcases hp with ⟨-, g, h1, h2, h3, h4⟩ | ⟨h1, -⟩
    · exact ⟨g, h2, owd_new h1 h3 h4⟩
    · exact absurd h h1
theorem lnew_no (b t : Int) (w : World) (h : ¬ (0 ≤ b ∧ b ≤ 1099511627776 ∧ 0 ≤ t ∧ t ≤ 1099511627776)) : Calls Try.prog 9 #[.int .i64 b, .int .i64 t] w fun r w' => r = .returned (.pointer none) ∧ Turn (fun _ => False) w w' :=
  (lnew_any b t w).mono fun r w' hp => by
    rcases hp with ⟨h1, -⟩ | ⟨-, h2, h3⟩
    · exact absurd h1 h
    · exact ⟨h2, h3⟩
/-- Add of an item without bytes. -/
theorem ladd_nil {w0 w : World} {g : Nat} {v : Value} {x x' : Ln} {t n : Int} (h : Owd w0 w g v x) (ht : i64R t) (e : x.add ⟨t, []⟩ = (x', n)) : Calls Try.prog 11 #[.pointer (some ⟨g, 0, none⟩), .agg #[.int .i64 t, .slice none 0 0]] w fun r w' => r = .returned (.int .i64 n) ∧ ∃ v', Owd w0 w' g v' x' :=
  (ladd_any g v x ⟨t, []⟩ none 0 (Ow g v) w h.l bt_nil ⟨ht, by simp⟩ (fun _ h => h)).mono fun r w' ⟨v', h1, h2, h3⟩ => by
    rw [e] at h1 h2
    exact ⟨h1, v', h.step h2 h3⟩
theorem ljoin_own {w0 w : World} {g : Nat} {v : Value} {x x' : Ln} {prev term n : Int} {ok : Bool} {A2 : Option Addr} {c2 : Nat} {its : List Itm} {m : Nat} (h : Owd w0 w g v x) (hI : ItN w (Ow g v) A2 its) (ha2 : A2 = none → c2 = 0) (hc2 : its.length ≤ c2) (hm2 : its.length ≤ 100000) (hm : its.length = m) (e : x.join prev term its = (x', n, ok)) :
    Calls Try.prog 13 #[.pointer (some ⟨g, 0, none⟩), .int .i64 prev, .int .i64 term, .slice A2 m c2] w fun r w' => r = .returned (.tuple #[.int .i64 n, .bool ok]) ∧ ∃ v', Owd w0 w' g v' x' ∧ LnStep w w' g v v' := by
  subst hm
  refine (ljoin_any g v x prev term A2 c2 (Ow g v) its w h.l hI (fun _ h => h) ha2 hc2 hm2).mono fun r w' ⟨v', h1, h2, h3⟩ => ?_
  rw [e] at h1 h2
  exact ⟨h1, v', h.step h2 h3, h3⟩
theorem itn_new (w : World) (N : Nat → Prop) (hN : ¬ N w.heap.size) (t : Int) (ht : i64R t) : ItN (w.alloc (.cells #[.int .i64 t, .slice none 0 0] 36)) N (some ⟨w.heap.size, 0, none⟩) [⟨t, []⟩] := fun i p hi => by
  obtain rfl : i = 0 := by have := (List.getElem?_eq_some_iff.1 hi).1; simp at this; omega
  simp at hi
  subst hi
  obtain ⟨⟨d0, d1⟩, -⟩ := ys_row (heap_alloc_new w (.cells #[.int .i64 t, .slice none 0 0] 36))
  exact ⟨⟨ht, by simp⟩, w.heap.size, 0, none, 0, rfl, hN, bt_nil, d0, d1⟩
set_option maxHeartbeats 8000000 in
theorem awake17_any (w : World) : Calls Try.prog 8 #[] w fun r w' => r = .returned (.bool true) ∧ Turn (fun _ => False) w w' := by
  have T0 := Lib.hid (lnew_yes 4 1 w (by decide))
  have E1 := Lib.hid (show (Ln.mk 4 1 []).add ⟨1, []⟩ = (⟨4, 1, [⟨1, []⟩]⟩, 5) by kernel_rfl)
  have E2 := Lib.hid (show (Ln.mk 4 1 [⟨1, []⟩]).add ⟨1, []⟩ = (⟨4, 1, [⟨1, []⟩, ⟨1, []⟩]⟩, 6) by kernel_rfl)
  have E3 := Lib.hid (show (Ln.mk 4 1 [⟨1, []⟩, ⟨1, []⟩]).add ⟨2, []⟩ = (⟨4, 1, [⟨1, []⟩, ⟨1, []⟩, ⟨2, []⟩]⟩, 7) by kernel_rfl)
  have E4 := Lib.hid (show (Ln.mk 4 1 [⟨1, []⟩, ⟨1, []⟩, ⟨2, []⟩]).join 6 1 [⟨3, []⟩] = (⟨4, 1, [⟨1, []⟩, ⟨1, []⟩, ⟨3, []⟩]⟩, 7, true) by kernel_rfl)
  have E5 := Lib.hid (show (Ln.mk 4 1 [⟨1, []⟩, ⟨1, []⟩, ⟨3, []⟩]).last = 7 ∧ (Ln.mk 4 1 [⟨1, []⟩, ⟨1, []⟩, ⟨3, []⟩]).tm 7 = 3 from ⟨by kernel_rfl, by kernel_rfl⟩)
  have TN := Lib.hid (fun w' => lnew_no (-1) 0 w' (by decide))
  go_enter Try.func8, Try.ntmps8
  go_wp2_with (go_at_call 9; refine stop ?_)
  unfold Stop
  refine T0.out.mono ?_
  rintro r w1 ⟨g, rfl, h1⟩
  have H1 := Lib.hid h1
  clear h1 T0
  have TA := Lib.hid (ladd_nil H1.out (t := 1) ⟨by decide, by decide⟩ E1.out)
  go_wp2_with (go_at_call 11; refine stop ?_)
  unfold Stop
  refine TA.out.mono ?_
  rintro r w2 ⟨rfl, v2, h2⟩
  have H2 := Lib.hid h2
  clear h2 TA
  have TA := Lib.hid (ladd_nil H2.out (t := 1) ⟨by decide, by decide⟩ E2.out)
  go_wp2_with (go_at_call 11; refine stop ?_)
  unfold Stop
  refine TA.out.mono ?_
  rintro r w3 ⟨rfl, v3, h3⟩
  have H3 := Lib.hid h3
  clear h3 TA
  have TA := Lib.hid (ladd_nil H3.out (t := 2) ⟨by decide, by decide⟩ E3.out)
  go_wp2_with (go_at_call 11; refine stop ?_)
  unfold Stop
  refine TA.out.mono ?_
  rintro r w4 ⟨rfl, v4, h4⟩
  have H4 := Lib.hid h4
  clear h4 TA
  have q0 : w4.heap.size = w4.heap.size := rfl
  obtain ⟨w5, hw5⟩ : ∃ w5, w5 = w4.alloc (.cells #[.int .i64 3, .slice none 0 0] 36) := ⟨_, rfl⟩
  have t5 : Turn (fun _ => False) w4 w5 := by rw [hw5]; exact (Turn.refl _ _).alloc _
  have hi5 : ItN w5 (Ow g v4) (some ⟨w4.heap.size, 0, none⟩) [⟨3, []⟩] := by rw [hw5]; exact itn_new w4 _ (fun h => by have := H4.out.l.ltO h; omega) 3 ⟨by decide, by decide⟩
  have TJ := Lib.hid (ljoin_own (m := 1) (c2 := 1) (H4.out.quiet t5) hi5 (fun h => by cases h) (by simp) (by simp) (by simp) E4.out)
  have HW5 := Lib.hid hw5
  clear hw5 t5 hi5 q0
  go_wp2_with (go_at_call 13; refine stop ?_)
  unfold Stop
  change Calls _ _ _ (w4.alloc (.cells #[.int .i64 3, .slice none 0 0] 36)) _
  rw [← HW5.out]
  refine TJ.out.mono ?_
  rintro r w6 ⟨rfl, v6, h6, -⟩
  have H6 := Lib.hid h6
  clear h6 TJ
  have TL := llastT_any g v6 _ w6 H6.out.l
  rw [E5.out.1, E5.out.2] at TL
  have TL := Lib.hid TL
  go_wp2_with (go_at_call 22; refine stop ?_)
  unfold Stop
  refine TL.out.mono ?_
  rintro r w7 ⟨rfl, t7⟩
  have H7 := Lib.hid (H6.out.quiet t7)
  clear t7 TL
  go_wp2_with (go_at_call 9; refine stop ?_)
  unfold Stop
  refine (TN.out w7).mono ?_
  rintro r w8 ⟨rfl, t8⟩
  have H8 := Lib.hid (H7.out.quiet t8)
  clear t8 TN
  go_wp2
  go_ret
  exact ⟨rfl, H8.out.t⟩
theorem l0_any (n : Int) (w : World) : Calls Try.prog 21 #[.int .i64 n] w fun r w' => r = .returned (.int .i64 (if n = 0 then 1 else 2)) ∧ w' = w := by
  by_cases h : n = 0
  · subst h
    go_enter Try.func21, Try.ntmps21
    go_wp2
    go_ret
    exact ⟨rfl, rfl⟩
  · have q : (n == 0) = false := by rw [beq_eq_false_iff_ne]; exact h
    rw [if_neg h]
    go_enter Try.func21, Try.ntmps21
    go_wp2
    go_ret
    exact ⟨rfl, rfl⟩
end Go.Proofs.Ytgjplbanfnomkaa
