/- The document's eye of letters: a number, a text, or the first error kept. -/
import Derived.Test.YtaicpclkdpbacaaLtH
import Derived.Laws.ResultCell
import Derived.Laws.Rows
import Derived.Laws.Tables
set_option linter.unusedVariables false
set_option linter.unusedSimpArgs false
namespace Go.Proofs.Ytaicpclkdpbacaa
open Go.RowKit
/-- The eye: its row; what is left of the bytes so long as no error was met. -/
def YS (w : World) (N : Nat → Prop) (y e : Nat) (l : List B8) : Prop :=
  ∃ A c n, w.heap[y]? = some (.cells #[.slice A n c, .int .i64 (e : Int)] 61 (0, 0)) ∧ (e = 0 → n = l.length ∧ BtN w N A c l ∧ l.length ≤ 1099511627776)
theorem ys_row {w : World} {y : Nat} {a b : Value} {t : TypeId} (h : w.heap[y]? = some (.cells #[a, b] t (0, 0))) :
    (w.cell? ⟨y, 0, none⟩ = some a ∧ w.cell? ⟨y, 1, none⟩ = some b) ∧ (w.frozen? ⟨y, 0, none⟩ = false ∧ w.frozen? ⟨y, 1, none⟩ = false) := by
  refine ⟨⟨?_, ?_⟩, frozen_of_row w y 0 _ _ h, frozen_of_row w y 1 _ _ h⟩ <;> rw [cell_of_row _ _ _ _ _ _ h] <;> rfl
theorem ys_set {w : World} {y : Nat} {a b a' b' : Value} {t : TypeId} (h : w.heap[y]? = some (.cells #[a, b] t (0, 0))) : ((w.setCell ⟨y, 0, none⟩ a').setCell ⟨y, 1, none⟩ b').heap[y]? = some (.cells #[a', b'] t (0, 0)) ∧ Turn (fun i => i = y) w ((w.setCell ⟨y, 0, none⟩ a').setCell ⟨y, 1, none⟩ b') := by
  refine ⟨?_, (set_turn w y 0 a').trans (set_turn _ y 1 b') (fun _ _ h => h)⟩
  have h1 : (w.setCell ⟨y, 0, none⟩ a').heap[y]? = some (.cells #[a', b] t (0, 0)) := by rw [heap_setCell_same w y 0 _ _ _ h]; rfl
  rw [heap_setCell_same _ y 1 _ _ _ h1]; rfl
theorem FL_eqI (k : Int) (m : Nat) : (Fd.cells ⟨k, m, none, 0, [], zeros 32⟩).toArray = FL k m := rfl
theorem got_info : (Try.prog.info? 88).map (·.size) = some 37 := by kernel_rfl
/-- What the eye's block becomes. -/
theorem ys_end {N : Nat → Prop} {y : Nat} {f : Fd} {l : List B8} {w w1 w' : World} {g : Gt} {x : Nat} (hge : g.e = sE f l) (hx : sE f l = x) (hg0 : sE f l = 0 → GOk g f l ∧ GAt w N g ∧ (g.f.A = none → g.f.c = 0) ∧ g.f.b.length ≤ g.f.c) (hll : l.length ≤ 1099511627776) (hN : ∀ i, w.heap.size ≤ i → N i) (hNy : N y) (t1 : Turn (fun _ => False) w w1)
    (hr : w'.heap[y]? = some (.cells #[.slice g.A g.l.length g.c, .int .i64 (g.e : Int)] 61 (0, 0))) (t2 : Turn (fun i => i = y) w1 w') : YS w' N y x (sL f l) ∧ Turn (fun i => i = y) w w' := by
  have t : Turn (fun i => i = y) w w1 := t1.mono (fun _ _ h => h.elim)
  have t' := t.trans t2 (fun _ _ h => h)
  refine ⟨⟨g.A, g.c, g.l.length, by rw [hr, hge, hx], fun h0 => ?_⟩, t'⟩
  rw [h0] at hx
  obtain ⟨ok, at', -⟩ := hg0 hx
  have := sL_le f l
  rw [ok.l] at *
  have hs := at'.s
  have hc := at'.c
  rw [ok.l] at hs hc
  exact ⟨rfl, ⟨hs.turn t' (fun i h => by rw [h]; exact hNy) (fun _ _ h => h), at'.a, hc⟩, by omega⟩
theorem nE_val {e m : Nat} {l : List B8} (h : nE e m l = 0) : numV l ≤ m := by
  unfold nE eNum at h
  split at h
  · omega
  · split at h
    · omega
    · split at h <;> omega
set_option maxHeartbeats 4000000 in
theorem enum_any (N : Nat → Prop) (y e m : Nat) (l : List B8) (w : World) (h : YS w N y e l) (hNy : N y) (hN : ∀ i, w.heap.size ≤ i → N i) (hm : m ≤ 1099511627776) :
    Calls Try.prog 32 #[.pointer (some ⟨y, 0, none⟩), .int .i64 (m : Int)] w fun r w' => r = .returned (.int .i64 (((if nE e m l ≠ 0 then 0 else numV l) : Nat) : Int)) ∧ YS w' N y (nE e m l) (numR l) ∧ Turn (fun i => i = y) w w' := by
  obtain ⟨A, c, n, hr, hl⟩ := h
  obtain ⟨⟨c0, c1⟩, z0, z1⟩ := ys_row hr
  obtain ⟨E, hE⟩ : ∃ E, E = nE e m l := ⟨_, rfl⟩
  rw [← hE]
  obtain ⟨V, hV⟩ : ∃ V : Nat, V = if E ≠ 0 then 0 else numV l := ⟨_, rfl⟩
  rw [← hV]
  have HVB := Lib.hid (show V ≤ 1099511627776 by
    rw [hV]
    by_cases h0 : E ≠ 0
    · rw [if_pos h0]; omega
    · rw [if_neg h0]
      have := nE_val (show nE e m l = 0 by rw [← hE]; omega)
      omega)
  by_cases he : e = 0
  · subst he
    obtain ⟨rfl, hb, hll⟩ := hl rfl
    have hlt := lt_of_block hr
    have T := take_full N A c l.length l rfl ⟨0, m, none, 0, [], zeros 32⟩ w rfl (.inl rfl) (by show m < 18446744073709551616; omega) hb.s hb.a hb.c hll
    rw [FL_eqI] at T
    have T := Lib.hid T
    obtain ⟨n, hn⟩ : ∃ n, n = l.length := ⟨_, rfl⟩
    rw [← hn] at T c0
    have hHR := Lib.hid hr
    have hHL := Lib.hid (And.intro hll (And.intro hN hNy))
    have HLN := Lib.hid hn
    have HE := Lib.hid hE
    have HV := Lib.hid hV
    clear hV
    clear hr hl hb hll hN hNy hn hE
    have hzd := zero_got
    change ∀ w, _ = Result.ok (Value.agg Z37) w at hzd
    go_enter Try.func32, Try.ntmps32
    go_wp2_with fail
    refine T.out.mono ?_
    rintro r w1 ⟨g, rfl, hd, hge, hgx, hg0, t1⟩
    obtain ⟨C, hC⟩ : ∃ C, C = g.cells.toArray := ⟨_, rfl⟩
    obtain ⟨sC, oC, a1, a2, a35, a36⟩ := g.at C hC hd
    rw [← hC]
    have HCC := Lib.hid hC
    have HD := Lib.hid hd
    clear hC
    have hr1 := t1.heap hHR.out (fun h => h)
    have HA := Lib.hid (show (w1.alloc (.cells Z37 88)).heap[w1.heap.size]? = some (.cells Z37 88 (0, 0)) from heap_alloc_new _ _)
    have H1 := Lib.hid (show (Try.prog.info? 88).map (·.size) = some C.size by rw [sC]; exact got_info)
    have H2 := Lib.hid (show Z37.size = C.size by rw [sC]; rfl)
    have H3 := Lib.hid oC
    go_wp2_with (refine wpList_store_row rfl _ _ _ rfl w1.heap.size C rfl rfl 88 Z37 HA.out H1.out H2.out H3.out ?_; refine stop ?_)
    unfold Stop
    obtain ⟨w2, hw2⟩ : ∃ w2, w2 = (w1.alloc (.cells Z37 88)).setRow w1.heap.size C := ⟨_, rfl⟩
    have t2 : Turn (fun _ => False) w1 w2 := by rw [hw2]; exact ((Turn.refl _ _).alloc _).setRow _ _ (fun h => by omega)
    have hr2 := t2.heap hr1 (fun h => h)
    have hg2 : w2.heap[w1.heap.size]? = some (.cells C 88 (0, 0)) := by rw [hw2]; exact setRow_heap _ _ _ _ _ _ HA.out
    have d1 : w2.cell? ⟨w1.heap.size, 1, none⟩ = some (.int .u64 (g.f.n : Int)) := by rw [cell_of_row _ _ _ _ _ _ hg2]; exact a1
    have d2 : w2.cell? ⟨w1.heap.size, 2, none⟩ = some (.slice g.f.A g.f.b.length g.f.c) := by rw [cell_of_row _ _ _ _ _ _ hg2]; exact a2
    have d35 : w2.cell? ⟨w1.heap.size, 35, none⟩ = some (.int .i64 (g.e : Int)) := by rw [cell_of_row _ _ _ _ _ _ hg2]; exact a35
    have d36 : w2.cell? ⟨w1.heap.size, 36, none⟩ = some (.slice g.A g.l.length g.c) := by rw [cell_of_row _ _ _ _ _ _ hg2]; exact a36
    obtain ⟨⟨e0, e1⟩, y0, y1⟩ := ys_row hr2
    have hne : ¬ w1.heap.size = y := by have := t1.size; omega
    have HT := Lib.hid (And.intro t1 (And.intro t2 hr2))
    have HT12 := Lib.hid (t1.trans t2 (fun _ _ h => h))
    have HG := Lib.hid (And.intro hge (And.intro hgx hg0))
    have HG2 := Lib.hid hg2
    change wpList _ _ _ _ _ ((w1.alloc (.cells Z37 88)).setRow w1.heap.size C)
    rw [← hw2]
    clear hw2 t1 t2 hr1 hr2 hg2 hge hgx hg0 c0 c1 z0 z1 sC oC a1 a2 a35 a36 hd
    obtain ⟨hge, hgx, hg0⟩ := HG.out
    have hes : sE ⟨0, m, none, 0, [], zeros 32⟩ l = E := by rw [HE.out]; rfl
    have hv : g.f.n = V := by
      rw [HV.out]
      by_cases h0 : E = 0
      · rw [if_neg (by omega), (hg0 (by omega)).1.n]; rfl
      · rw [if_pos h0, hgx (by omega)]; rfl
    have HVV := Lib.hid hv
    clear hge hgx hg0 hes hv
    go_wp2
    go_ret
    obtain ⟨hge, hgx, hg0⟩ := HG.out
    obtain ⟨r1, r2⟩ := ys_set (a' := .slice g.A g.l.length g.c) (b' := .int .i64 (g.e : Int)) HT.out.2.2
    exact ⟨by rw [HVV.out]; exact ret_int (IntWalk.wrap64_in _ (by have := HVB.out; omega)), ys_end hge (by rw [HE.out]; rfl) hg0 hHL.out.1 hHL.out.2.1 hHL.out.2.2 HT12.out r1 r2⟩
  · have hE' : E = e := by rw [hE]; unfold nE; rw [if_pos he]
    have hv : V = 0 := by rw [hV, if_pos (by omega)]
    rw [hE', hv]
    have t1 : ((e : Int) != 0) = true := by simp; omega
    have HR := Lib.hid hr
    have HE := Lib.hid he
    clear hE hV hE' hv hr hl
    generalize hlen : n = n' at *
    clear hlen
    go_enter Try.func32, Try.ntmps32
    go_wp2
    go_ret
    exact ⟨rfl, ⟨A, c, _, HR.out, fun h => absurd h HE.out⟩, Turn.refl _ _⟩
def tV (e : Nat) (l : List B8) : List B8 := if e ≠ 0 then [] else (numR l).take (numV l)
theorem tV_le (e : Nat) (l : List B8) : (tV e l).length ≤ l.length := by
  unfold tV
  split
  · simp
  · have := numR_drop l; rw [this]; simp; omega
set_option maxHeartbeats 4000000 in
theorem etext_any (N : Nat → Prop) (y e m : Nat) (l : List B8) (w : World) (h : YS w N y e l) (hNy : N y) (hN : ∀ i, w.heap.size ≤ i → N i) (hm : m ≤ 1099511627776) :
    Calls Try.prog 33 #[.pointer (some ⟨y, 0, none⟩), .int .i64 (m : Int)] w fun r w' => ∃ S cS, r = .returned (.slice S (tV (tE e m l) l).length cS) ∧ BtN w' N S cS (tV (tE e m l) l) ∧ YS w' N y (tE e m l) ((numR l).drop (numV l)) ∧ Turn (fun i => i = y) w w' := by
  obtain ⟨A, c, n, hr, hl⟩ := h
  obtain ⟨⟨c0, c1⟩, z0, z1⟩ := ys_row hr
  obtain ⟨E, hE⟩ : ∃ E, E = tE e m l := ⟨_, rfl⟩
  rw [← hE]
  by_cases he : e = 0
  · subst he
    obtain ⟨rfl, hb, hll⟩ := hl rfl
    have hlt := lt_of_block hr
    have T := take_full N A c l.length l rfl ⟨1, m, none, 0, [], zeros 32⟩ w rfl (.inr (.inl rfl)) (by show m < 18446744073709551616; omega) hb.s hb.a hb.c hll
    rw [FL_eqI] at T
    have T := Lib.hid T
    obtain ⟨n, hn⟩ : ∃ n, n = l.length := ⟨_, rfl⟩
    rw [← hn] at T c0
    have hHR := Lib.hid hr
    have hHL := Lib.hid (And.intro hll (And.intro hN hNy))
    have HLN := Lib.hid hn
    have HE := Lib.hid hE
    clear hr hl hb hll hN hNy hn hE
    have hzd := zero_got
    change ∀ w, _ = Result.ok (Value.agg Z37) w at hzd
    go_enter Try.func33, Try.ntmps33
    go_wp2_with fail
    refine T.out.mono ?_
    rintro r w1 ⟨g, rfl, hd, hge, hgx, hg0, t1⟩
    obtain ⟨C, hC⟩ : ∃ C, C = g.cells.toArray := ⟨_, rfl⟩
    obtain ⟨sC, oC, a1, a2, a35, a36⟩ := g.at C hC hd
    rw [← hC]
    have HCC := Lib.hid hC
    have HD := Lib.hid hd
    clear hC
    have hr1 := t1.heap hHR.out (fun h => h)
    have HA := Lib.hid (show (w1.alloc (.cells Z37 88)).heap[w1.heap.size]? = some (.cells Z37 88 (0, 0)) from heap_alloc_new _ _)
    have H1 := Lib.hid (show (Try.prog.info? 88).map (·.size) = some C.size by rw [sC]; exact got_info)
    have H2 := Lib.hid (show Z37.size = C.size by rw [sC]; rfl)
    have H3 := Lib.hid oC
    go_wp2_with (refine wpList_store_row rfl _ _ _ rfl w1.heap.size C rfl rfl 88 Z37 HA.out H1.out H2.out H3.out ?_; refine stop ?_)
    unfold Stop
    obtain ⟨w2, hw2⟩ : ∃ w2, w2 = (w1.alloc (.cells Z37 88)).setRow w1.heap.size C := ⟨_, rfl⟩
    have t2 : Turn (fun _ => False) w1 w2 := by rw [hw2]; exact ((Turn.refl _ _).alloc _).setRow _ _ (fun h => by omega)
    have hr2 := t2.heap hr1 (fun h => h)
    have hg2 : w2.heap[w1.heap.size]? = some (.cells C 88 (0, 0)) := by rw [hw2]; exact setRow_heap _ _ _ _ _ _ HA.out
    have d1 : w2.cell? ⟨w1.heap.size, 1, none⟩ = some (.int .u64 (g.f.n : Int)) := by rw [cell_of_row _ _ _ _ _ _ hg2]; exact a1
    have d2 : w2.cell? ⟨w1.heap.size, 2, none⟩ = some (.slice g.f.A g.f.b.length g.f.c) := by rw [cell_of_row _ _ _ _ _ _ hg2]; exact a2
    have d35 : w2.cell? ⟨w1.heap.size, 35, none⟩ = some (.int .i64 (g.e : Int)) := by rw [cell_of_row _ _ _ _ _ _ hg2]; exact a35
    have d36 : w2.cell? ⟨w1.heap.size, 36, none⟩ = some (.slice g.A g.l.length g.c) := by rw [cell_of_row _ _ _ _ _ _ hg2]; exact a36
    obtain ⟨⟨e0, e1⟩, y0, y1⟩ := ys_row hr2
    have hne : ¬ w1.heap.size = y := by have := t1.size; omega
    have HT := Lib.hid (And.intro t1 (And.intro t2 hr2))
    have HT12 := Lib.hid (t1.trans t2 (fun _ _ h => h))
    have HG := Lib.hid (And.intro hge (And.intro hgx hg0))
    have HG2 := Lib.hid hg2
    change wpList _ _ _ _ _ ((w1.alloc (.cells Z37 88)).setRow w1.heap.size C)
    rw [← hw2]
    clear hw2 t1 t2 hr1 hr2 hg2 hge hgx hg0 c0 c1 z0 z1 sC oC a1 a2 a35 a36 hd
    obtain ⟨hge, hgx, hg0⟩ := HG.out
    have hes : sE ⟨1, m, none, 0, [], zeros 32⟩ l = E := by rw [HE.out]; rfl
    have hv : g.f.b = tV E l ∧ BtN w N g.f.A g.f.c (tV E l) := by
      by_cases h0 : E = 0
      · obtain ⟨ok, at', u1, u2⟩ := hg0 (by omega)
        have hb : g.f.b = tV E l := by rw [ok.b]; unfold tV sB; rw [if_pos rfl, if_neg (by omega)]
        rw [← hb]
        exact ⟨rfl, at'.t, u1, u2⟩
      · have hb : tV E l = [] := by unfold tV; rw [if_pos h0]
        rw [hb, hgx (by omega)]
        exact ⟨rfl, fun j u hu => by simp at hu, fun _ => rfl, Nat.zero_le _⟩
    have HVV := Lib.hid hv
    clear hge hgx hg0 hes hv
    go_wp2
    go_ret
    obtain ⟨hge, hgx, hg0⟩ := HG.out
    obtain ⟨r1, r2⟩ := ys_set (a' := .slice g.A g.l.length g.c) (b' := .int .i64 (g.e : Int)) HT.out.2.2
    obtain ⟨q1, q2⟩ := ys_end (x := E) hge (by rw [HE.out]; rfl) hg0 hHL.out.1 hHL.out.2.1 hHL.out.2.2 HT12.out r1 r2
    exact ⟨g.f.A, g.f.c, by rw [← HVV.out.1]; rfl, HVV.out.2.turn q2 (fun i h => by rw [h]; exact hHL.out.2.2) (fun _ _ h => h), q1, q2⟩
  · have hE' : E = e := by rw [hE]; unfold tE; rw [if_pos he]
    have hv : tV e l = [] := by unfold tV; rw [if_pos he]
    rw [hE', hv]
    have t1 : ((e : Int) != 0) = true := by simp; omega
    have HR := Lib.hid hr
    have HE := Lib.hid he
    clear hE hE' hv hr hl
    generalize hlen : n = n' at *
    clear hlen
    go_enter Try.func33, Try.ntmps33
    go_wp2
    go_ret
    exact ⟨none, 0, rfl, ⟨fun j u hu => by simp at hu, fun _ => rfl, Nat.zero_le _⟩, ⟨A, c, _, HR.out, fun h => absurd h HE.out⟩, Turn.refl _ _⟩
end Go.Proofs.Ytaicpclkdpbacaa
