/- filled. -/
import Derived.Test.YtgjplbanfnomkaaLsB
import Derived.Test.YtgjplbanfnomkaaPick
set_option linter.unusedVariables false
set_option linter.unusedSimpArgs false
namespace Go.Proofs.Ytgjplbanfnomkaa
open Go.RowKit
set_option maxRecDepth 100000
theorem wpR_do {P : Program} {ops : List Oper} {St : World → World → Prop} {w0 : World} {Q : Act → World → Prop} {gs : List Gv} {o : Oper} {rest : List Oper} {k : Nat} {a : Act} {φ : List (Nat × Value × Fct)} {v : Value} (hw : Region.wanted o (yielded ops.toArray a.tmps) = true)
    (h : ∀ w, St w0 w → AllF (φ.filter fun p => ((befs ops).getD k []).contains p.1) w → doesR P o a w (fun u w' => retV o u = v ∧ St w w')) {A' : Act} (hA : a.put o.dst v = A') (hrest : wpR P ops St w0 Q gs rest (k + 1) A' φ) : wpR P ops St w0 Q (.one v :: gs) (o :: rest) k a φ := by
  subst hA
  refine ⟨?_, hrest⟩
  unfold Obl
  simp only [hw, if_true]
  exact h
theorem Frt.ok_items {all : List Itm} (hok : ∀ p ∈ all, okIt p = true) (hn : all.length ≤ 4096) (k : Nat) : (Frt all k).Ok :=
  ⟨Int.le_refl _, show (0 : Int) ≤ _ by decide, Int.le_refl _, show (0 : Int) ≤ _ by decide, fun p hp => hok p (List.mem_of_mem_take hp), by show (all.take k).length ≤ _; rw [List.length_take]; omega, by show (0 : Int) + ((all.take k).length : Int) ≤ _; rw [List.length_take]; omega⟩
theorem Frt.at_of {all : List Itm} (hok : ∀ p ∈ all, okIt p = true) (hn : all.length ≤ 4096) {k a : Nat} (ha : a ≤ k) (hk : k ≤ all.length) {t : Int} (h0 : a = 0 → t = 0) (h1 : ∀ p, 0 < a → all[a - 1]? = some p → t = p.t) : (Frt all k).at (a : Int) = t := by
  by_cases hz : a = 0
  · subst hz; rw [h0 rfl]; exact Ln.at_base (Frt all k)
  · have hlt : a - 1 < all.length := by omega
    rw [h1 _ (by omega) (List.getElem?_eq_getElem hlt)]
    have := Ln.at_item (x := Frt all k) (k := a - 1) (p := all[a - 1]) (by show (all.take k)[a - 1]? = _; rw [List.getElem?_take_of_lt (by omega), List.getElem?_eq_getElem hlt])
    rw [← this]; congr 1; show _ = (0 : Int) + 1 + _; omega
/-- A piece that comes to a front. -/
theorem Frt.come {all : List Itm} (hok : ∀ p ∈ all, okIt p = true) (hn : all.length ≤ 4096) {k a m : Nat} (hk : k ≤ all.length) (ha : a + m ≤ all.length) {t : Int} (h0 : a = 0 → t = 0) (h1 : ∀ p, 0 < a → all[a - 1]? = some p → t = p.t) :
    ∃ k', k' ≤ all.length ∧ ((Frt all k).join a t ((all.drop a).take m)).1 = Frt all k' ∧ ((Frt all k).join a t ((all.drop a).take m)).2.2 = decide (a ≤ k) := by
  by_cases hak : a ≤ k
  · obtain ⟨e1, e2⟩ := Frt.join hk hak ha hok hn t (Frt.at_of hok hn hak hk h0 h1)
    exact ⟨max k (a + m), by omega, e1, by rw [e2, decide_eq_true hak]⟩
  · have ho := Frt.ok_items hok hn k
    have hm : (Frt all k).meetB a t = false := by
      rw [← Bool.not_eq_true, Ln.meet_iff ho, Decidable.not_not]
      exact .inr (.inl (by rw [Frt.last hk]; omega))
    rw [Ln.join_no1 ho hm]
    exact ⟨k, hk, rfl, by rw [decide_eq_false hak]⟩
def FJ (n : Nat) (all : List Itm) (g : Nat) (a : Int) (k : Nat) (w : World) (r : Ending) (w' : World) : Prop := ∃ z v' k', r = .returned (.tuple #[.int .i64 z, .bool (decide (a ≤ (k : Int)))]) ∧ k' ≤ n ∧ Owd w w' g v' (Frt all k')
theorem ItN.front {w : World} {N : Nat → Prop} {A : Option Addr} {l : List Itm} (h : ItN w N A l) (m : Nat) : ItN w N A (l.take m) := fun i p hi => by
  have him : i < m := by have := (List.getElem?_eq_some_iff.1 hi).1; simp at this; omega
  rw [List.getElem?_take_of_lt him] at hi
  exact h i p hi
theorem come_any {n g a k m : Nat} {all : List Itm} {w wr : World} {v : Value} {t : Int} {A : Option Addr} {c : Nat} (H : Owd w wr g v (Frt all k)) (hok : ∀ p ∈ all, okIt p = true) (hn : n = all.length) (hn20 : n ≤ 1000) (hk : k ≤ n) (ha : a + m ≤ n) (h0 : a = 0 → t = 0) (h1 : ∀ p, 0 < a → all[a - 1]? = some p → t = p.t)
    (hI : ItN wr (Ow g v) A ((all.drop a).take m)) (hA : A = none → c = 0) (hc : m ≤ c) : Calls Try.prog 13 #[.pointer (some ⟨g, 0, none⟩), .int .i64 (a : Int), .int .i64 t, .slice A m c] wr (FJ n all g (a : Int) k w) := by
  have hlen : ((all.drop a).take m).length = m := by rw [List.length_take, List.length_drop]; omega
  have T := ljoin_any g v _ (a : Int) t A c (Ow g v) ((all.drop a).take m) wr H.l hI (fun _ h => h) hA (by rw [hlen]; exact hc) (by rw [hlen]; omega)
  rw [hlen] at T
  obtain ⟨k', hk', e1, e2⟩ := Frt.come hok (by omega) (k := k) (a := a) (m := m) (by omega) (by omega) h0 h1
  refine T.mono fun r w' ⟨v', h2, h3, h4⟩ => ?_
  rw [e2, show decide (a ≤ k) = decide ((a : Int) ≤ (k : Int)) by rw [decide_eq_decide]; omega] at h2
  rw [e1] at h3
  exact ⟨_, v', k', h2, by omega, H.step h3 h4⟩
def FilP (n : Nat) (all : List Itm) (w : World) (r : Ending) (w' : World) : Prop := ∃ g v k, r = .returned (.pointer (some ⟨g, 0, none⟩)) ∧ k ≤ n ∧ Owd w w' g v (Frt all k)
set_option maxHeartbeats 16000000 in
theorem filled_any (A : Option Addr) (n c : Nat) (all : List Itm) (Ap : Option Addr) (cp : Nat) (ps : List B8) (w : World) (hI : ItN w (fun _ => False) A all) (ha : A = none → c = 0) (hc : n ≤ c) (hn : n = all.length) (hn20 : n ≤ 1000) (hok : ∀ p ∈ all, okIt p = true) (hs : Sl w w.heap.size Ap (ps.map bv)) (hm : ps.length ≤ 1000) :
    Calls Try.prog 23 #[.slice A n c, .slice Ap ps.length cp] w (FilP n all w) := by
  have HI := Lib.hid hI
  have HOK := Lib.hid hok
  have HN := Lib.hid hn
  have HS := Lib.hid hs
  have HA := Lib.hid (And.intro ha hc)
  have T0 := Lib.hid (lnew_yes 0 0 w (by decide))
  clear hI hok hn hs
  go_enter Try.func23, Try.ntmps23
  go_wp2_with (go_at_call 9; refine stop ?_)
  unfold Stop
  refine T0.out.mono ?_
  rintro r w1 ⟨g, rfl, h1⟩
  have H1 := Lib.hid (show Owd w w1 g (.slice none 0 0) (Frt all 0) from h1)
  clear h1 T0
  go_wp2
  go_loopw [6] (fun i wr => ∃ (j k : Nat) (v : Value), j ≤ ps.length ∧ i = .int .i64 j ∧ k ≤ n ∧ Owd w wr g v (Frt all k)) (fun i _ => ps.length - (intOf i).toNat)
  case atStart => exact ⟨0, 0, _, Nat.zero_le _, rfl, Nat.zero_le _, H1.out⟩
  case round =>
    clear H1
    obtain ⟨j, k, v, hj, rfl, hk, h1⟩ := hrel
    have H1 := Lib.hid h1
    clear h1
    by_cases hlt : j < ps.length
    · obtain ⟨ad, rfl, -, hc1⟩ := (H1.out.t.sl HS.out (fun _ _ h => h)).at (bvs_at ps j hlt)
      obtain ⟨y, hy⟩ : ∃ y, y = ps[j] := ⟨_, rfl⟩
      rw [← hy] at hc1
      unfold bv at hc1
      have hyb := y.isLt
      obtain ⟨pb, hpb⟩ : ∃ m, m = y.toNat := ⟨_, rfl⟩
      rw [← hpb] at hc1 hyb
      clear hy hpb
      have TP := pick_any ((pb : Int) % 16) (n + 1) wr (by omega) (by omega)
      push_cast at TP
      have TP := Lib.hid TP
      go_wp2_with (go_at_call 49; refine stop ?_)
      unfold Stop
      refine TP.out.mono ?_
      rintro r w3 ⟨⟨a, ha9, rfl⟩, hw3⟩
      rw [hw3]
      clear hw3 w3 TP
      obtain ⟨mm, hmm⟩ : ∃ m : Nat, m = min (pb / 16) (n - a) := ⟨_, rfl⟩
      have hm1 : min ((pb : Int) / 16) ((n : Int) - (a : Int)) = (mm : Int) := by omega
      have ham : a + mm ≤ n := by omega
      clear hmm
      have TL := llastT_any g v _ wr H1.out.l
      rw [Frt.last (by have := HN.out; omega)] at TL
      generalize (Frt all k).tm (k : Int) = t9 at TL
      have TL := Lib.hid TL
      have TJ := Lib.hid (fun (w4 : World) (t4 : Turn (fun _ => False) wr w4) (t : Int) (h0 : a = 0 → t = 0) (h1 : ∀ p, 0 < a → all[a - 1]? = some p → t = p.t) (A' : Option Addr) (c' : Nat) (hI : ItN w4 (Ow g v) A' ((all.drop a).take mm)) (hA' : A' = none → c' = 0) (hc' : mm ≤ c') => come_any (H1.out.quiet t4) HOK.out HN.out hn20 hk ham h0 h1 hI hA' hc')
      have HIW := Lib.hid (fun (w4 : World) (t4 : Turn (fun _ => False) wr w4) => show ItN w4 (Ow g v) A all from ((HI.out.turn (N' := fun i => w.heap.size ≤ i) (Turn.refl (fun _ => False) w) (fun _ h => h.elim) (fun i hi h => by have h : w.heap.size ≤ i := h; omega)).quiet (H1.out.t.trans t4 (fun _ _ h => h))).less (fun i h => H1.out.o i h))
      clear hk
      by_cases ha0 : a = 0
      · subst ha0
        have hm2 : min ((pb : Int) / 16) (n : Int) = (mm : Int) := by rw [← hm1]; simp
        go_upto_region 12 with fail
        go_wp2_with (go_at_call 22; refine stop ?_)
        unfold Stop
        refine TL.out.mono ?_
        rintro r w4 ⟨rfl, t4⟩
        have HT4 := Lib.hid t4
        clear t4 TL
        have hI4 := (HIW.out w4 HT4.out).front mm
        have TJ := TJ.out w4 HT4.out 0 (fun _ => rfl) (fun _ h => absurd h (by decide))
        rw [List.drop_zero] at TJ
        cases A with
        | none =>
          have hc0 := ha rfl
          subst hc0
          have hn0 : n = 0 := by omega
          have hm0 : mm = 0 := by omega
          clear hn0
          subst hm0
          have TJ := TJ none 0 hI4 (fun _ => rfl) (Nat.le_refl _)
          rw [show ((0 : Nat) : Int) = 0 from rfl] at TJ
          have TJ := Lib.hid TJ
          clear hI4
          go_wp2_with (go_at_call 13; refine stop ?_)
          unfold Stop
          refine TJ.out.mono ?_
          rintro r w5 ⟨z, v5, k5, rfl, hk5, h5⟩
          have H5 := Lib.hid h5
          clear h5 TJ
          go_wp2
          go_roundw
          case rel => exact ⟨j + 1, k5, v5, by omega, by go_num, hk5, H5.out⟩
          case measure => simp [intOf]; omega
        | some ad =>
          have TJ := TJ (some ad) c hI4 (fun h => by cases h) (by omega)
          rw [show ((0 : Nat) : Int) = 0 from rfl] at TJ
          have TJ := Lib.hid TJ
          clear hI4
          go_wp2_with (go_at_call 13; refine stop ?_)
          unfold Stop
          refine TJ.out.mono ?_
          rintro r w5 ⟨z, v5, k5, rfl, hk5, h5⟩
          have H5 := Lib.hid h5
          clear h5 TJ
          go_wp2
          go_roundw
          case rel => exact ⟨j + 1, k5, v5, by omega, by go_num, hk5, H5.out⟩
          case measure => simp [intOf]; omega
      · obtain ⟨q, rfl⟩ : ∃ q, a = q + 1 := ⟨a - 1, by omega⟩
        have hqn : q < all.length := by have := HN.out; omega
        obtain ⟨-, b, o, S, cq, hAe, -, -, p0, -⟩ := HI.out q all[q] (List.getElem?_eq_getElem hqn)
        subst hAe
        have HP0 := Lib.hid (H1.out.t.cell p0 (fun h => h))
        clear p0
        have HQQ := Lib.hid (show ∀ p, 0 < q + 1 → all[q + 1 - 1]? = some p → all[q].t = p.t from fun p _ h => by rw [Nat.add_sub_cancel, List.getElem?_eq_getElem hqn] at h; injection h with h; rw [h])
        obtain ⟨tq, htq⟩ : ∃ t, t = all[q].t := ⟨_, rfl⟩
        rw [← htq] at HP0 HQQ
        have p0 := HP0.out
        have hm2 : min ((pb : Int) / 16) ((n : Int) - ((q : Int) + 1)) = (mm : Int) := by rw [← hm1]; push_cast; rfl
        clear hm1
        clear htq hqn
        go_upto_region 12 with fail
        go_wp2_with (go_at_call 22; refine stop ?_)
        unfold Stop
        refine TL.out.mono ?_
        rintro r w4 ⟨rfl, t4⟩
        have HT4 := Lib.hid t4
        clear t4 TL p0
        have TJ := TJ.out w4 HT4.out tq (fun h => by omega) HQQ.out
        rcases Nat.lt_or_ge (q + 1) c with hqc | hqc
        · have TJ := TJ (some ⟨b, o + (q + 1) * 2, none⟩) (c - (q + 1)) ((HIW.out w4 HT4.out).cut (q + 1) mm) (fun h => by cases h) (by omega)
          rw [show ((q + 1 : Nat) : Int) = (q : Int) + 1 by push_cast; rfl] at TJ
          have TJ := Lib.hid TJ
          go_wp2_with (go_at_call 13; refine stop ?_)
          unfold Stop
          refine TJ.out.mono ?_
          rintro r w5 ⟨z, v5, k5, rfl, hk5, h5⟩
          have H5 := Lib.hid h5
          clear h5 TJ
          go_wp2
          go_roundw
          case rel => exact ⟨j + 1, k5, v5, by omega, by go_num, hk5, H5.out⟩
          case measure => simp [intOf]; omega
        · have hm0 : mm = 0 := by omega
          subst hm0
          obtain rfl : c = q + 1 := by omega
          have TJ := TJ (some ⟨b, o, none⟩) 0 (fun i p hi => by simp at hi) (fun h => by cases h) (Nat.le_refl _)
          rw [show ((q + 1 : Nat) : Int) = (q : Int) + 1 by push_cast; rfl] at TJ
          have TJ := Lib.hid TJ
          go_wp2_with (go_at_call 13; refine stop ?_)
          unfold Stop
          refine TJ.out.mono ?_
          rintro r w5 ⟨z, v5, k5, rfl, hk5, h5⟩
          have H5 := Lib.hid h5
          clear h5 TJ
          go_wp2
          go_roundw
          case rel => exact ⟨j + 1, k5, v5, by omega, by go_num, hk5, H5.out⟩
          case measure => simp [intOf]; omega
    · obtain rfl : j = ps.length := by omega
      go_wp2
      go_ret
      exact (show FilP n all w (.returned (.pointer (some ⟨g, 0, none⟩))) wr from ⟨g, v, k, rfl, hk, H1.out⟩)
end Go.Proofs.Ytgjplbanfnomkaa
