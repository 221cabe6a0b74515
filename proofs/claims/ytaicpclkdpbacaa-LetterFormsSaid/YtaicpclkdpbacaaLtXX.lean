/- Merged: The landed letter: the readers of numbers. The landed letter: readKind, readPlace. The landed letter: readItems. -/
import Derived.Test.YtaicpclkdpbacaaLtW
import Derived.OwnWalk
namespace Go.Proofs.Ytaicpclkdpbacaa
section
set_option linter.unusedVariables false
set_option linter.unusedSimpArgs false

open Go.RowKit
/-- What a reading comes to: the state s', a value that V tells of; or the panic. -/
def RP (e E : Nat) (N : Nat → Prop) (w : World) (s : Rs) (V : World → Value → Prop) (r : Ending) (w' : World) : Prop :=
  (s.e = 0 ∧ ∃ v, r = .returned v ∧ V w' v ∧ Eye0 w' e E N s.l ∧ Turn (fun i => i = e) w w') ∨ (s.e ≠ 0 ∧ r = pan E ∧ EyeX w' e E s.e ∧ Turn (fun i => i = e ∨ i = E) w w')
theorem rp_yes {P : Program} {f : FuncId} {args : Array Value} {e E : Nat} {N : Nat → Prop} {w : World} {s : Rs} {V : World → Value → Prop} (h : Calls P f args w (RP e E N w s V)) (h0 : s.e = 0) :
    Calls P f args w fun r w' => ∃ v, r = .returned v ∧ V w' v ∧ Eye0 w' e E N s.l ∧ Turn (fun i => i = e) w w' :=
  h.mono fun r w' h => h.elim (fun h => h.2) (fun h => absurd h0 h.1)
theorem rp_no {P : Program} {f : FuncId} {args : Array Value} {e E : Nat} {N : Nat → Prop} {w : World} {s : Rs} {V : World → Value → Prop} (h : Calls P f args w (RP e E N w s V)) (h0 : s.e ≠ 0) :
    Calls P f args w fun r w' => r = pan E ∧ EyeX w' e E s.e ∧ Turn (fun i => i = e ∨ i = E) w w' :=
  h.mono fun r w' h => h.elim (fun h => absurd h.1 h0) (fun h => h.2)
theorem num_at {s : Rs} (m : Nat) (hs : s.e = 0) : (s.num m).e = eNum m s.l := by
  show nE s.e m s.l = _
  unfold nE; rw [if_neg (by omega)]
theorem nv_at {s : Rs} {m : Nat} (h0 : (s.num m).e = 0) : s.nv m = numV s.l := by
  unfold Rs.nv; rw [if_neg (by intro h; exact h h0)]
theorem text_at {s : Rs} (m : Nat) (hs : s.e = 0) : (s.text m).e = eText (m : Int) s.l := by
  show tE s.e m s.l = _
  unfold tE; rw [if_neg (by omega)]
theorem tv_at {s : Rs} {m : Nat} (h0 : (s.text m).e = 0) : s.tv m = (numR s.l).take (numV s.l) := by
  unfold Rs.tv tV; rw [if_neg (by intro h; exact h h0)]
theorem eye_num (e E : Nat) (N : Nat → Prop) (s : Rs) (m : Nat) (w : World) (h : Eye0 w e E N s.l) (hs : s.e = 0) :
    Calls Try.prog 58 #[.pointer (some ⟨e, 0, none⟩), .int .u64 (m : Int)] w (RP e E N w (s.num m) fun _ v => v = .int .u64 (s.nv m : Int)) := by
  have hx := num_at m hs
  by_cases h0 : (s.num m).e = 0
  · refine (num_yes e E N m s.l w h (by rw [← hx]; exact h0)).mono ?_
    rintro r w' ⟨rfl, he, ht⟩
    exact Or.inl ⟨h0, _, rfl, by rw [nv_at h0], he, ht⟩
  · refine (num_no e E N m s.l w h (by rw [← hx]; exact h0)).mono ?_
    rintro r w' ⟨rfl, he, ht⟩
    exact Or.inr ⟨h0, rfl, by rw [hx]; exact he, ht⟩
theorem eye_text (e E : Nat) (N : Nat → Prop) (s : Rs) (m : Nat) (w : World) (h : Eye0 w e E N s.l) (hs : s.e = 0) (hm : m < 9223372036854775808) :
    Calls Try.prog 52 #[.pointer (some ⟨e, 0, none⟩), .int .i64 (m : Int)] w (RP e E N w (s.text m) fun w' v => w'.ownsRow w.heap.size 5 1 v (s.tv m).length ((s.tv m).map bv)) := by
  have hx := text_at m hs
  by_cases h0 : (s.text m).e = 0
  · have hx0 : eText (m : Int) s.l = 0 := by rw [← hx]; exact h0
    refine (text_yes e E N m s.l w h hx0 (by omega)).mono ?_
    rintro r w' ⟨v, rfl, ho, he, ht⟩
    refine Or.inl ⟨h0, _, rfl, ?_, he, ht⟩
    rw [tv_at h0]
    have hl := ho.1
    rw [List.length_map, Nat.mul_one] at hl
    rw [hl]; exact ho
  · refine (text_no e E N m s.l w h (by rw [← hx]; exact h0) (by omega) (by omega)).mono ?_
    rintro r w' ⟨rfl, he, ht⟩
    exact Or.inr ⟨h0, rfl, by rw [hx]; exact he, ht⟩
set_option maxRecDepth 100000 in
set_option maxHeartbeats 2000000 in
theorem readTerm_any (e E : Nat) (N : Nat → Prop) (s : Rs) (w : World) (h : Eye0 w e E N s.l) (hs : s.e = 0) :
    Calls Try.prog 47 #[.pointer (some ⟨e, 0, none⟩)] w (RP e E N w (s.num MX) fun _ v => v = .int .i64 ((s.nv MX : Nat) : Int)) := by
  have T := eye_num e E N s MX w h hs
  have bn : s.nv MX ≤ 1099511627776 := Nat.le_trans (nv_le s _) (by decide)
  clear h hs
  by_cases h0 : (s.num MX).e = 0
  · have T := Lib.hid (rp_yes T h0)
    have H0 := Lib.hid h0
    generalize s.nv MX = n at *
    clear h0
    go_enter Try.func47, Try.ntmps47
    go_wp2_with (go_at_call 58; refine T.out.mono ?_; rintro r w1 ⟨v, rfl, rfl, he1, ht1⟩; have HE1 := Lib.hid he1; have HT1 := Lib.hid ht1; clear he1 ht1)
    go_ret
    exact Or.inl ⟨H0.out, _, rfl, rfl, HE1.out, HT1.out⟩
  · have T := Lib.hid (rp_no T h0)
    have H0 := Lib.hid h0
    clear h0
    go_enter Try.func47, Try.ntmps47
    go_wp2_with (go_at_call 58; refine T.out.mono ?_; rintro r w1 ⟨rfl, he1, ht1⟩; dsimp only [pan]; have HE1 := Lib.hid he1; have HT1 := Lib.hid ht1; clear he1 ht1)
    exact ⟨rfl, Or.inr ⟨H0.out, rfl, HE1.out, HT1.out⟩⟩
set_option maxRecDepth 100000 in
set_option maxHeartbeats 2000000 in
theorem readIndex_any (e E : Nat) (N : Nat → Prop) (s : Rs) (w : World) (h : Eye0 w e E N s.l) (hs : s.e = 0) :
    Calls Try.prog 50 #[.pointer (some ⟨e, 0, none⟩)] w (RP e E N w (s.num MX) fun _ v => v = .int .i64 ((s.nv MX : Nat) : Int)) := by
  have T := eye_num e E N s MX w h hs
  have bn : s.nv MX ≤ 1099511627776 := Nat.le_trans (nv_le s _) (by decide)
  clear h hs
  by_cases h0 : (s.num MX).e = 0
  · have T := Lib.hid (rp_yes T h0)
    have H0 := Lib.hid h0
    generalize s.nv MX = n at *
    clear h0
    go_enter Try.func50, Try.ntmps50
    go_wp2_with (go_at_call 58; refine T.out.mono ?_; rintro r w1 ⟨v, rfl, rfl, he1, ht1⟩; have HE1 := Lib.hid he1; have HT1 := Lib.hid ht1; clear he1 ht1)
    go_ret
    exact Or.inl ⟨H0.out, _, rfl, rfl, HE1.out, HT1.out⟩
  · have T := Lib.hid (rp_no T h0)
    have H0 := Lib.hid h0
    clear h0
    go_enter Try.func50, Try.ntmps50
    go_wp2_with (go_at_call 58; refine T.out.mono ?_; rintro r w1 ⟨rfl, he1, ht1⟩; dsimp only [pan]; have HE1 := Lib.hid he1; have HT1 := Lib.hid ht1; clear he1 ht1)
    exact ⟨rfl, Or.inr ⟨H0.out, rfl, HE1.out, HT1.out⟩⟩
set_option maxRecDepth 100000 in
set_option maxHeartbeats 2000000 in
theorem readYes_any (e E : Nat) (N : Nat → Prop) (s : Rs) (w : World) (h : Eye0 w e E N s.l) (hs : s.e = 0) :
    Calls Try.prog 49 #[.pointer (some ⟨e, 0, none⟩)] w (RP e E N w (s.num 1) fun _ v => v = .bool (yesB (s.nv 1))) := by
  have T := eye_num e E N s 1 w h hs
  have bn : s.nv 1 ≤ 1099511627776 := Nat.le_trans (nv_le s _) (by decide)
  clear h hs
  by_cases h0 : (s.num 1).e = 0
  · have T := Lib.hid (rp_yes T h0)
    have H0 := Lib.hid h0
    generalize s.nv 1 = n at *
    clear h0
    go_enter Try.func49, Try.ntmps49
    go_wp2_with (go_at_call 58; refine T.out.mono ?_; rintro r w1 ⟨v, rfl, rfl, he1, ht1⟩; have HE1 := Lib.hid he1; have HT1 := Lib.hid ht1; clear he1 ht1)
    go_ret
    exact Or.inl ⟨H0.out, _, rfl, rfl, HE1.out, HT1.out⟩
  · have T := Lib.hid (rp_no T h0)
    have H0 := Lib.hid h0
    clear h0
    go_enter Try.func49, Try.ntmps49
    go_wp2_with (go_at_call 58; refine T.out.mono ?_; rintro r w1 ⟨rfl, he1, ht1⟩; dsimp only [pan]; have HE1 := Lib.hid he1; have HT1 := Lib.hid ht1; clear he1 ht1)
    exact ⟨rfl, Or.inr ⟨H0.out, rfl, HE1.out, HT1.out⟩⟩

end
section
set_option linter.unusedVariables false
set_option linter.unusedSimpArgs false

open Go.RowKit
/-- Behind the kind. -/
def sK (s : Rs) : Rs := ⟨if (s.num 5).e ≠ 0 then (s.num 5).e else if s.nv 5 = 0 then 25 else 0, (s.num 5).l⟩
set_option maxRecDepth 100000 in
set_option maxHeartbeats 2000000 in
theorem readKind_any (e E : Nat) (N : Nat → Prop) (s : Rs) (w : World) (h : Eye0 w e E N s.l) (hs : s.e = 0) :
    Calls Try.prog 46 #[.pointer (some ⟨e, 0, none⟩)] w (RP e E N w (sK s) fun _ v => v = .int .i64 ((s.nv 5 : Nat) : Int)) := by
  have T := eye_num e E N s 5 w h hs
  have bn : s.nv 5 ≤ 5 := nv_le s _
  have hK : (sK s).e = if (s.num 5).e ≠ 0 then (s.num 5).e else if s.nv 5 = 0 then 25 else 0 := rfl
  clear h hs
  by_cases h0 : (s.num 5).e = 0
  · have T := Lib.hid (rp_yes T h0)
    rw [if_neg (by intro h; exact h h0)] at hK
    have HL := Lib.hid (show (sK s).l = (s.num 5).l from rfl)
    generalize sK s = z at *
    generalize s.nv 5 = n at *
    clear h0
    by_cases hn : n = 0
    · subst hn
      rw [if_pos rfl] at hK
      have HK := Lib.hid hK
      have T2 := Lib.hid (fun w h => fail0 e E N 25 (s.num 5).l w h (by decide))
      clear hK
      go_enter Try.func46, Try.ntmps46
      go_wp2_with (first
        | (go_at_call 58; refine T.out.mono ?_; rintro r w1 ⟨v, rfl, rfl, he1, ht1⟩; have HE1 := Lib.hid he1; have HT1 := Lib.hid ht1; clear he1 ht1)
        | (go_at_call 59; refine (T2.out _ HE1.out).mono ?_; rintro q w2 ⟨rfl, he2, ht2⟩; dsimp only [pan]; have HE2 := Lib.hid he2; have HT2 := Lib.hid ht2; clear he2 ht2))
      exact ⟨rfl, Or.inr ⟨by rw [HK.out]; decide, rfl, by rw [HK.out]; exact HE2.out, HT1.out.trans' HT2.out⟩⟩
    · rw [if_neg hn] at hK
      have HK := Lib.hid hK
      have hn1 : ¬ ((n : Int) < 1) := by omega
      clear hK hn
      go_enter Try.func46, Try.ntmps46
      go_wp2_with (go_at_call 58; refine T.out.mono ?_; rintro r w1 ⟨v, rfl, rfl, he1, ht1⟩; have HE1 := Lib.hid he1; have HT1 := Lib.hid ht1; clear he1 ht1)
      go_ret
      exact Or.inl ⟨HK.out, _, rfl, rfl, by rw [HL.out]; exact HE1.out, HT1.out⟩
  · have T := Lib.hid (rp_no T h0)
    rw [if_pos h0] at hK
    have HK := Lib.hid hK
    have H0 := Lib.hid h0
    clear h0 hK
    go_enter Try.func46, Try.ntmps46
    go_wp2_with (go_at_call 58; refine T.out.mono ?_; rintro r w1 ⟨rfl, he1, ht1⟩; dsimp only [pan]; have HE1 := Lib.hid he1; have HT1 := Lib.hid ht1; clear he1 ht1)
    exact ⟨rfl, Or.inr ⟨by rw [HK.out]; exact H0.out, rfl, by rw [HK.out]; exact HE1.out, HT1.out⟩⟩
theorem twoT {e E : Nat} {a b c : World} (h : Turn (fun i => i = e) a b) (k : Turn (fun i => i = e ∨ i = E) b c) : Turn (fun i => i = e ∨ i = E) a c := (h.mono (fun _ _ h => .inl h)).trans k (fun _ _ h => h)
theorem oneT {e : Nat} {a b c : World} (h : Turn (fun i => i = e) a b) (k : Turn (fun i => i = e) b c) : Turn (fun i => i = e) a c := h.trans k (fun _ _ h => h)
set_option maxRecDepth 100000 in
set_option maxHeartbeats 2000000 in
theorem readPlace_any (e E : Nat) (N : Nat → Prop) (s : Rs) (w : World) (h : Eye0 w e E N s.l) (hs : s.e = 0) :
    Calls Try.prog 48 #[.pointer (some ⟨e, 0, none⟩)] w (RP e E N w ((s.num MX).num MX) fun _ v => v = .tuple #[.int .i64 ((s.nv MX : Nat) : Int), .int .i64 (((s.num MX).nv MX : Nat) : Int)]) := by
  have T := readIndex_any e E N s w h hs
  clear h hs
  by_cases h0 : (s.num MX).e = 0
  · have T := Lib.hid (rp_yes T h0)
    have T2 := fun w1 h => readTerm_any e E N (s.num MX) w1 h h0
    clear h0
    generalize s.nv MX = n at *
    generalize (s.num MX) = s1 at *
    by_cases h1 : (s1.num MX).e = 0
    · have T2 := Lib.hid (fun w1 h => rp_yes (T2 w1 h) h1)
      have H1 := Lib.hid h1
      clear h1
      generalize s1.nv MX = m at *
      go_enter Try.func48, Try.ntmps48
      go_wp2_with (first
        | (go_at_call 50; refine T.out.mono ?_; rintro r w1 ⟨v, rfl, rfl, he1, ht1⟩; have HE1 := Lib.hid he1; have HT1 := Lib.hid ht1; clear he1 ht1)
        | (go_at_call 47; refine (T2.out _ HE1.out).mono ?_; rintro r w2 ⟨v, rfl, rfl, he2, ht2⟩; have HE2 := Lib.hid he2; have HT2 := Lib.hid ht2; clear he2 ht2))
      go_ret2
      exact Or.inl ⟨H1.out, _, rfl, rfl, HE2.out, oneT HT1.out HT2.out⟩
    · have T2 := Lib.hid (fun w1 h => rp_no (T2 w1 h) h1)
      have H1 := Lib.hid h1
      clear h1
      go_enter Try.func48, Try.ntmps48
      go_wp2_with (first
        | (go_at_call 50; refine T.out.mono ?_; rintro r w1 ⟨v, rfl, rfl, he1, ht1⟩; have HE1 := Lib.hid he1; have HT1 := Lib.hid ht1; clear he1 ht1)
        | (go_at_call 47; refine (T2.out _ HE1.out).mono ?_; rintro r w2 ⟨rfl, he2, ht2⟩; dsimp only [pan]; have HE2 := Lib.hid he2; have HT2 := Lib.hid ht2; clear he2 ht2))
      exact ⟨rfl, Or.inr ⟨H1.out, rfl, HE2.out, twoT HT1.out HT2.out⟩⟩
  · have T := Lib.hid (rp_no T h0)
    obtain ⟨hK, -⟩ := num_err (m := MX) h0
    have HK := Lib.hid hK
    have H0 := Lib.hid h0
    clear h0 hK
    go_enter Try.func48, Try.ntmps48
    go_wp2_with (go_at_call 50; refine T.out.mono ?_; rintro r w1 ⟨rfl, he1, ht1⟩; dsimp only [pan]; have HE1 := Lib.hid he1; have HT1 := Lib.hid ht1; clear he1 ht1)
    exact ⟨rfl, Or.inr ⟨by rw [HK.out]; exact H0.out, rfl, by rw [HK.out]; exact HE1.out, HT1.out⟩⟩

end
section
set_option linter.unusedVariables false
set_option linter.unusedSimpArgs false

open Go.RowKit
section
variable {T : Nat → Prop} {w w' : World}
set_option maxRecDepth 100000 in
theorem there_lay {g : Nat} {C : Array Value} {t : TypeId} (h : w.heap[g]? = some (.cells C t (0, 0))) (n : Nat) (hn : n ≤ C.size) : w.there g 0 n := fun j hj => by
  refine ⟨?_, frozen_of_row w g _ _ _ h⟩
  rw [cell_of_row w g _ _ _ _ h, Nat.zero_add, Array.getElem?_eq_getElem (by omega)]; rfl
set_option maxRecDepth 100000 in
theorem there_turn {g o n : Nat} (h : w.there g o n) (t : Turn T w w') (hg : ¬ T g) : w'.there g o n := fun j hj => by
  obtain ⟨h1, h2⟩ := h j hj
  obtain ⟨v, hv⟩ := Option.isSome_iff_exists.1 h1
  have hb := t.block g (World.block_lt_of_cell? w _ hv) hg
  refine ⟨?_, ?_⟩
  · rw [World.cell?_of_block hb]; exact h1
  · rw [World.frozen?_of_block hb]; exact h2
set_option maxRecDepth 100000 in
theorem there_sub {g n : Nat} (h : w.there g 0 n) (o m : Nat) (ho : o + m ≤ n) : w.there g o m := fun j hj => by
  have := h (o + j) (by omega)
  rwa [Nat.zero_add] at this
set_option maxRecDepth 100000 in
theorem there_cell {g n : Nat} (h : w.there g 0 n) (o : Nat) (ho : o < n) : ∃ v, w.cell? ⟨g, o, none⟩ = some v ∧ w.frozen? ⟨g, o, none⟩ = false := by
  obtain ⟨h1, h2⟩ := h o ho
  rw [Nat.zero_add] at h1 h2
  obtain ⟨v, hv⟩ := Option.isSome_iff_exists.1 h1
  exact ⟨v, hv, h2⟩
end
set_option maxRecDepth 100000 in
theorem own_there {w : World} {B n s g c : Nat} {e : TypeId} {xs : List Value} (h : w.ownsRow B e s (.slice (some ⟨g, 0, none⟩) n c) n xs) : w.there g 0 (n * s) := by
  rcases h.2 with ⟨e, -⟩ | ⟨g', cap, cur, e, hB, hg, hc, hm, hcs, ht⟩
  · cases e
  · injection e with e1 e2 e3
    injection e1 with e1
    injection e1 with e1
    subst e1
    exact there_lay hg _ (by rw [hcs]; exact Nat.mul_le_mul_right _ hc)
/-- The cells of a row below a place are as they were. -/
def KeepLo (w w' : World) (G lo : Nat) : Prop := ∀ o v, o < lo → w.cell? ⟨G, o, none⟩ = some v → w'.cell? ⟨G, o, none⟩ = some v
set_option maxRecDepth 100000 in
theorem KeepLo.refl (w : World) (G lo : Nat) : KeepLo w w G lo := fun _ _ _ h => h
set_option maxRecDepth 100000 in
theorem KeepLo.trans {a b c : World} {G lo : Nat} (h : KeepLo a b G lo) (k : KeepLo b c G lo) : KeepLo a c G lo := fun o v ho hv => k o v ho (h o v ho hv)
set_option maxRecDepth 100000 in
theorem KeepLo.less {a b : World} {G lo lo' : Nat} (h : KeepLo a b G lo) (hl : lo' ≤ lo) : KeepLo a b G lo' := fun o v ho hv => h o v (by omega) hv
set_option maxRecDepth 100000 in
theorem KeepLo.turn {a b : World} {G lo : Nat} {S : Nat → Prop} (t : Turn S a b) (hS : ¬ S G) : KeepLo a b G lo := fun o v _ hv => t.cell hv hS
set_option maxRecDepth 100000 in
theorem KeepLo.setCell (w : World) (G o : Nat) (v : Value) : KeepLo w (w.setCell ⟨G, o, none⟩ v) G o := fun o' u ho hu => by
  rw [World.cell?_setCell_other _ _ _ _ (fun e => by injection e with e1 e2; omega)]; exact hu
set_option maxRecDepth 100000 in
theorem cell_set {w : World} {b o : Nat} {v u : Value} (h : w.cell? ⟨b, o, none⟩ = some v) : (w.setCell ⟨b, o, none⟩ u).cell? ⟨b, o, none⟩ = some u := by
  exact World.cell?_setCell_same _ _ _ h
/-- The first items of a row. -/
def RowIt (w : World) (K G : Nat) (l : List Itm) : Prop := ∀ i p, l[i]? = some p → p.ok ∧ ∃ S c, BtN w (fun i => i < K) S c p.b ∧ w.cell? ⟨G, i * 2, none⟩ = some (.int .i64 p.t) ∧ w.cell? ⟨G, i * 2 + 1, none⟩ = some (.slice S p.b.length c)
/-- Behind the items. -/
def sI (s : Rs) : Rs := itsS (s.nv 16) (s.num 16)
def vI (s : Rs) : List Itm := itsVs (s.nv 16) (s.num 16)
def IV (K n : Nat) (its : List Itm) (w : World) (v : Value) : Prop := ∃ G, v = .slice (some ⟨G, 0, none⟩) n n ∧ ItN w (fun i => i < K) (some ⟨G, 0, none⟩) its
theorem itsR_no {e E G K n : Nat} {its : List Itm} {N : Nat → Prop} {w w2 wj w' : World} {z s : Rs} (hX : z.e = s.e) (hx : s.e ≠ 0) (he : EyeX w' e E s.e) (t2 : Turn (fun i => i = e) w w2) (t3 : Turn (fun i => i = e ∨ i = G) w2 wj) (t4 : Turn (fun i => i = e ∨ i = E) wj w') (hG : w.heap.size ≤ G) : RP e E N w z (IV K n its) (pan E) w' := by
  refine Or.inr ⟨by rw [hX]; exact hx, rfl, by rw [hX]; exact he, ?_⟩
  exact ((t2.mono (fun _ _ h => .inl h)).trans t3 (fun i hi h => by rcases h with h | h; exact .inl h; omega)).trans t4 (fun _ _ h => h)
set_option maxRecDepth 100000 in
set_option maxHeartbeats 4000000 in
theorem readItems_any (e E : Nat) (N : Nat → Prop) (s : Rs) (w : World) (h : Eye0 w e E N s.l) (hs : s.e = 0) (hN : ∀ i, w.heap.size ≤ i → N i) :
    Calls Try.prog 51 #[.pointer (some ⟨e, 0, none⟩)] w (RP e E N w (sI s) (IV w.heap.size (vI s).length (vI s))) := by
  obtain ⟨i0, hi, hz0, hz1, hz2⟩ := info_parts it_info
  obtain ⟨hle, hlE, hne, hNe, hNE, hll⟩ := h.lt
  have T0 := eye_num e E N s 16 w h hs
  have hnv : s.nv 16 ≤ 16 := nv_le s _
  by_cases hx : (s.num 16).e = 0
  · have T0 := Lib.hid (rp_yes T0 hx)
    obtain ⟨n, hn⟩ : ∃ n, n = s.nv 16 := ⟨_, rfl⟩
    obtain ⟨s1, hs1⟩ : ∃ s1, s1 = s.num 16 := ⟨_, rfl⟩
    have HX := Lib.hid (show sI s = itsS n s1 by rw [hn, hs1]; rfl)
    have HV := Lib.hid (show vI s = itsVs n s1 by rw [hn, hs1]; rfl)
    have HN := Lib.hid hN
    have HX0 := Lib.hid (show (itsS 0 s1).e = 0 by rw [hs1]; exact hx)
    rw [← hn] at T0 hnv
    rw [← hs1] at T0
    generalize sI s = zs at *
    generalize vI s = zv at *
    clear h hN hx hn hs1 hs
    go_enter Try.func51, Try.ntmps51
    go_wp2_with fail
    refine T0.out.mono ?_
    rintro r w1 ⟨v, rfl, rfl, he1, ht1⟩
    have HE1 := Lib.hid he1
    have HT1 := Lib.hid ht1
    clear he1 ht1 T0
    go_wp2_with (at_make; refine wpList_make_full _ rfl _ _ 22 rfl w1.heap.size 40 i0 (.agg #[.int .i64 0, .slice none 0 0]) 2 Try.underlying22 hi hz0 hz1 _ _ _ _ n rfl rfl rfl rfl ?b2 ?b3 ?b4 ?_)
    case b2 => rw [hz2]; omega
    case b3 => unfold maxLen; omega
    case b4 => simp
    intro w2 hown2 hgrow2
    have HTH := Lib.hid (own_there hown2)
    have ht2 : Turn (fun _ => False) w1 w2 := (Turn.refl _ w1).grown hgrow2 (fun _ _ e => by cases e)
    have HGlt := Lib.hid (show w1.heap.size < w2.heap.size from by
      rcases hown2.2 with ⟨e, -⟩ | ⟨g', cap, cur, e, hB, hg, -⟩
      · cases e
      · injection e with e1 e2 e3
        injection e1 with e1
        injection e1 with e1
        rw [e1]; exact lt_of_block hg)
    have HE2 := Lib.hid (HE1.out.turn ht2 (fun h => h) (fun h => h) (fun _ h => h.elim))
    have HT2 := Lib.hid (HT1.out.trans ht2 (fun _ _ h => h.elim))
    have HS1 := Lib.hid HT1.out.size
    clear hown2 hgrow2 ht2 HE1 HT1
    generalize w1.heap.size = G at *
    go_wp2
    go_loopw [10] (fun i wr => ∃ k : Nat, k ≤ n ∧ i = .int .i64 k ∧ (itsS k s1).e = 0 ∧ wr.there G 0 (n * 2) ∧ RowIt wr w2.heap.size G (itsVs k s1) ∧ Eye0 wr e E N (itsS k s1).l ∧ Turn (fun i => i = e ∨ i = G) w2 wr) (fun i _ => n - (intOf i).toNat)
    case atStart => exact ⟨0, Nat.zero_le _, rfl, HX0.out, HTH.out, (fun i p hi => by simp [itsVs] at hi), HE2.out, Turn.refl _ _⟩
    case round =>
      clear HTH HE2
      obtain ⟨k, hk, rfl, h0, hth, hrow, he, ht⟩ := hrel
      by_cases hlt : k < n
      · have hkn : k * 2 + 2 ≤ n * 2 := by omega
        have HVL := Lib.hid (itsVs_full h0)
        obtain ⟨q1, q2⟩ := itsS_next h0
        have HSTOP := Lib.hid (fun (h : (itsS (k + 1) s1).e ≠ 0) => show zs.e = (itsS (k + 1) s1).e by rw [HX.out, (itsS_stop h hlt).1])
        rw [q1] at HSTOP
        have HQ1 := Lib.hid q1
        have HQ2 := Lib.hid q2
        have HRW := Lib.hid hrow
        have HTR := Lib.hid ht
        have HTH := Lib.hid hth
        have HNG := Lib.hid (show N G from HN.out G HS1.out)
        have hGe : G ≠ e ∧ G ≠ E := by have := HS1.out; omega
        have hGw : G < wr.heap.size := by have := ht.size; have := HGlt.out; omega
        have T := readTerm_any e E N (itsS k s1) wr he h0
        have bt : (itsS k s1).nv MX ≤ 1099511627776 := Nat.le_trans (nv_le _ _) (by decide)
        clear q1 q2 hrow ht hth he
        generalize itsS k s1 = sk at *
        by_cases h1 : (sk.num MX).e = 0
        · have T := Lib.hid (rp_yes T h1)
          have TX := fun wx hx => eye_text e E N (sk.num MX) 8192 wx hx h1 (by decide)
          have bx := tvm_le (sk.num MX) 8192
          obtain ⟨x, hx⟩ : ∃ x, x = sk.nv MX := ⟨_, rfl⟩
          rw [← hx] at T bt HQ2
          obtain ⟨st, hst⟩ : ∃ st, st = (sk.num MX).text 8192 := ⟨_, rfl⟩
          rw [← hst] at TX HQ1 HSTOP
          obtain ⟨tx, htx⟩ : ∃ tx, tx = (sk.num MX).tv 8192 := ⟨_, rfl⟩
          rw [← htx] at TX HQ2 bx
          clear h0 h1 hx hst htx
          go_wp2_with fail
          refine T.out.mono ?_
          rintro r w5 ⟨v, rfl, rfl, he5, ht5⟩
          have hth5 := there_turn HTH.out ht5 hGe.1
          obtain ⟨v5, c5, z5⟩ := there_cell hth5 (k * 2) (by omega)
          have HC5 := Lib.hid c5
          have HTH5 := Lib.hid hth5
          have HE5 := Lib.hid he5
          have HT5 := Lib.hid ht5
          clear he5 ht5 hth5 T
          go_upto_region 6 with fail
          obtain ⟨w6, hw6⟩ : ∃ w6, w6 = w5.setCell ⟨G, k * 2, none⟩ (.int .i64 (x : Int)) := ⟨_, rfl⟩
          have ht6 : Turn (fun i => i = G) w5 w6 := by rw [hw6]; exact (Turn.refl _ _).setCell _ _ (fun _ => rfl)
          have HTH6 := Lib.hid (show w6.there G 0 (n * 2) by rw [hw6]; exact World.there_setCells HTH5.out G (k * 2) [.int .i64 (x : Int)])
          have HK6 := Lib.hid (show KeepLo wr w6 G (k * 2) by rw [hw6]; exact (KeepLo.turn HT5.out hGe.1).trans (KeepLo.setCell _ _ _ _))
          have HC6 := Lib.hid (show w6.cell? ⟨G, k * 2, none⟩ = some (.int .i64 (x : Int)) by rw [hw6]; exact cell_set HC5.out)
          have HT6 := Lib.hid (show Turn (fun i => i = e ∨ i = G) wr w6 from (HT5.out.mono (fun _ _ h => .inl h)).trans ht6 (fun _ _ h => .inr h))
          have HE6 := Lib.hid (HE5.out.turn ht6 (fun h => hGe.1 h.symm) (fun h => hGe.2 h.symm) (fun i h => by rw [h]; exact HNG.out))
          have HZ6 := Lib.hid (Nat.le_trans HT5.out.size ht6.size)
          have TX := TX w6 HE6.out
          rw [← hw6]
          clear hw6 ht6 HTH5 HE5 HTH c5 z5 HC5
          by_cases h2 : st.e = 0
          · have T := Lib.hid (rp_yes TX h2)
            have H2 := Lib.hid h2
            clear h2 TX
            go_wp2_with fail
            refine T.out.mono ?_
            rintro r w9 ⟨v9, rfl, own9, he9, ht9⟩
            have hth9 := there_turn HTH6.out ht9 hGe.1
            obtain ⟨u9, c9, z9⟩ := there_cell hth9 (k * 2 + 1) (by omega)
            have HC9 := Lib.hid c9
            have HTH9 := Lib.hid hth9
            have HE9 := Lib.hid he9
            have HT9 := Lib.hid ht9
            obtain ⟨A9, k9, rfl, hs9, -, hk9, ha9⟩ := own_sl own9
            have HO9 := Lib.hid own9
            have HKA := Lib.hid (And.intro hk9 ha9)
            clear he9 ht9 hth9 own9 hs9 T hk9 ha9
            go_upto_region 7 with fail
            obtain ⟨w10, hw10⟩ : ∃ w10, w10 = w9.setCell ⟨G, k * 2 + 1, none⟩ (.slice A9 tx.length k9) := ⟨_, rfl⟩
            have ht10 : Turn (fun i => i = G) w9 w10 := by rw [hw10]; exact (Turn.refl _ _).setCell _ _ (fun _ => rfl)
            have HTH10 := Lib.hid (show w10.there G 0 (n * 2) by rw [hw10]; exact World.there_setCells HTH9.out G (k * 2 + 1) [.slice A9 tx.length k9])
            have HK10 := Lib.hid (show KeepLo w6 w10 G (k * 2 + 1) by rw [hw10]; exact (KeepLo.turn HT9.out hGe.1).trans (KeepLo.setCell _ _ _ _))
            have HC10 := Lib.hid (show w10.cell? ⟨G, k * 2 + 1, none⟩ = some (.slice A9 tx.length k9) by rw [hw10]; exact cell_set HC9.out)
            have HT10 := Lib.hid (show Turn (fun i => i = e ∨ i = G) wr w10 from (HT6.out.trans HT9.out (fun _ _ h => .inl h)).trans ht10 (fun _ _ h => .inr h))
            have HE10 := Lib.hid (HE9.out.turn ht10 (fun h => hGe.1 h.symm) (fun h => hGe.2 h.symm) (fun i h => by rw [h]; exact HNG.out))
            have HZT := Lib.hid ht10
            rw [← hw10]
            clear hw10 ht10 HTH9 HE9 HTH6 HE6 c9 z9 HC9
            go_wp2
            go_roundw
            case rel =>
              refine ⟨k + 1, by omega, by go_num, by rw [HQ1.out]; exact H2.out, HTH10.out, ?_, by rw [HQ1.out]; exact HE10.out, HTR.out.trans HT10.out (fun _ _ h => h)⟩
              have hs2 := HT2.out.size
              have hs3 := HTR.out.size
              have hs4 := HGlt.out
              have hvl := HVL.out
              rw [HQ2.out]
              intro i p hi
              by_cases hik : i < k
              · rw [List.getElem?_append_left (by rw [hvl]; exact hik)] at hi
                obtain ⟨hok, S, c, hs, r0, r1⟩ := HRW.out i p hi
                have HK := HK6.out.trans (HK10.out.less (by omega))
                exact ⟨hok, S, c, hs.turn HT10.out (fun i h => by rcases h with h | h <;> omega) (fun _ _ h => h), HK _ _ (by omega) r0, HK _ _ (by omega) r1⟩
              · obtain rfl : i = k := by have := (List.getElem?_eq_some_iff.1 hi).1; simp [hvl] at this; omega
                rw [List.getElem?_append_right (by rw [hvl]; exact Nat.le_refl _), hvl, Nat.sub_self] at hi
                simp only [List.getElem?_cons_zero, Option.some.injEq] at hi
                rw [← hi]
                refine ⟨⟨⟨by simp only; omega, by simp only; omega⟩, by simp only; unfold maxLen; omega⟩, A9, k9, ⟨?_, HKA.out.2, HKA.out.1⟩, HK10.out _ _ (by omega) HC6.out, HC10.out⟩
                exact (own_sln HO9.out).turn HZT.out (fun i h => by have := HZ6.out; have h' : i = G := h; show i < _; omega) (fun i _ h => by have := HZ6.out; have h' : i < w2.heap.size := h; show i < _; omega)
            case measure => simp [intOf]; omega
          · have T := Lib.hid (rp_no TX h2)
            have H2 := Lib.hid h2
            clear h2 TX
            go_wp2_with (go_at_call 52; refine T.out.mono ?_; rintro r w9 ⟨rfl, he9, ht9⟩; dsimp only [pan]; have HE9 := Lib.hid he9; have HT9 := Lib.hid ht9; clear he9 ht9)
            exact ⟨rfl, itsR_no (HSTOP.out H2.out) H2.out HE9.out HT2.out (HTR.out.trans HT6.out (fun _ _ h => h)) HT9.out HS1.out⟩
        · have T := Lib.hid (rp_no T h1)
          have hte := text_err (s := sk.num MX) (m := 8192) h1
          have HTE := Lib.hid hte
          have H1 := Lib.hid h1
          clear h1 hte h0
          go_wp2_with (go_at_call 47; refine T.out.mono ?_; rintro r w5 ⟨rfl, he5, ht5⟩; dsimp only [pan]; have HE5 := Lib.hid he5; have HT5 := Lib.hid ht5; clear he5 ht5)
          exact ⟨rfl, itsR_no ((HSTOP.out (by rw [HTE.out]; exact H1.out)).trans HTE.out) H1.out HE5.out HT2.out HTR.out HT5.out HS1.out⟩
      · obtain rfl : k = n := by omega
        have H0 := Lib.hid h0
        have HVL := Lib.hid (itsVs_full h0)
        have HRW := Lib.hid hrow
        have HE := Lib.hid he
        have HT := Lib.hid ht
        clear h0 hrow he ht hth
        go_wp2
        go_ret
        refine Or.inl ⟨by rw [HX.out]; exact H0.out, _, rfl, ⟨G, by rw [HV.out, HVL.out]; rfl, ?_⟩, by rw [HX.out]; exact HE.out, HT2.out.trans HT.out (fun i hi h => ?_)⟩
        · rw [HV.out]
          intro i p hi
          obtain ⟨hok, S, c, hs, r0, r1⟩ := HRW.out i p hi
          refine ⟨hok, G, 0, S, c, rfl, by have := HS1.out; omega, hs.turn (Turn.refl (fun _ => False) _) (fun _ h => h.elim) (fun i _ h => ?_), by rw [Nat.zero_add]; exact r0, by rw [Nat.zero_add]; exact r1⟩
          have := HT2.out.size; omega
        · have := HS1.out
          omega
  · have T0 := Lib.hid (rp_no T0 hx)
    have HX := Lib.hid (show (sI s).e = (s.num 16).e by
      unfold sI
      exact congrArg Rs.e (itsS_stop (k := 0) (s := s.num 16) hx (Nat.zero_le _)).1)
    have HNZ := Lib.hid hx
    generalize sI s = zs at *
    clear h hN hx
    go_enter Try.func51, Try.ntmps51
    go_wp2_with (go_at_call 58; refine T0.out.mono ?_; rintro r w1 ⟨rfl, he1, ht1⟩; dsimp only [pan]; have HE1 := Lib.hid he1; have HT1 := Lib.hid ht1; clear he1 ht1)
    exact ⟨rfl, Or.inr ⟨by rw [HX.out]; exact HNZ.out, rfl, by rw [HX.out]; exact HE1.out, HT1.out⟩⟩

end
end Go.Proofs.Ytaicpclkdpbacaa
