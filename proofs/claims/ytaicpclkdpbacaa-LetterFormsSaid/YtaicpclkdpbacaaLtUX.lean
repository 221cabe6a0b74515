/- Merged: The landed letter: putPlace, putYes. The landed letter: putItems. -/
import Derived.Test.YtaicpclkdpbacaaLtT
namespace Go.Proofs.Ytaicpclkdpbacaa
section
set_option linter.unusedVariables false
set_option linter.unusedSimpArgs false

open Go.RowKit
/-- A block that no writing of the pen turns. -/
def PenFree (w : World) (p : Nat) (v : Value) (g : Nat) : Prop := g ≠ p ∧ v.ownBlock ≠ some g ∧ g < w.heap.size
set_option maxRecDepth 100000 in
theorem PenFree.step {w w' : World} {p g : Nat} {v v' : Value} (h : PenFree w p v g) (s : PenStep w w' p v v') : PenFree w' p v' g := by
  obtain ⟨h1, h2, h3⟩ := h
  refine ⟨h1, ?_, Nat.lt_of_lt_of_le h3 s.1.size⟩
  rcases s.2 with e | ⟨k, e, hk⟩
  · rw [e]; exact h2
  · rw [e]; intro x; injection x with x; omega
set_option maxRecDepth 100000 in
theorem PenFree.not {w : World} {p g : Nat} {v : Value} (h : PenFree w p v g) : ¬ (g = p ∨ some g = v.ownBlock) := fun x => x.elim h.1 (fun x => h.2.1 x.symm)
set_option maxRecDepth 100000 in
theorem PenStep.heap {w w' : World} {p g : Nat} {v v' : Value} {o : Obj} (s : PenStep w w' p v v') (h : PenFree w p v g) (hg : w.heap[g]? = some o) : w'.heap[g]? = some o := s.1.heap hg h.not
set_option maxRecDepth 100000 in
theorem PenAt.low {w : World} {p B i : Nat} {v : Value} {xs : List B8} (h : PenAt w p B v xs) (hi : i < p) : ¬ (i = p ∨ some i = v.ownBlock) := by
  rintro (e | e)
  · omega
  · have := (h.2.1.lt i e.symm).1
    have := h.2.2.1
    omega
set_option maxRecDepth 100000 in
theorem PenAt.new {w : World} {p B : Nat} {v : Value} {xs : List B8} (h : PenAt w p B v xs) (o : Obj) : PenAt (w.alloc o) p B v xs ∧ PenFree (w.alloc o) p v w.heap.size ∧ PenStep w (w.alloc o) p v v := by
  refine ⟨h.turn ((Turn.refl (fun _ => False) w).alloc o) (fun h => h) (fun _ _ h => h), ⟨?_, ?_, by simp⟩, (Turn.refl _ _).alloc _, .inl rfl⟩
  · have := lt_of_block h.1; omega
  · intro e
    have := (h.2.1.lt _ e).2
    omega
theorem PenAt.penLow {w : World} {p B : Nat} {v : Value} {xs : List B8} (h : PenAt w p B v xs) : ∀ i, (i = p ∨ some i = v.ownBlock) → p ≤ i := fun i hi => Nat.le_of_not_lt (fun hl => h.low hl hi)
theorem LBx.pen {w w' : World} {g p B : Nat} {A S : Option Addr} {cA cS : Nat} {l : Ltr} {v v' : Value} {xs : List B8} (h : LBx w g A cA S cS l) (hp : PenAt w p B v xs) (hg : g < p) (s : PenStep w w' p v v') : LBx w' g A cA S cS l := h.turn s.1 (hp.low hg)
theorem LtN.pen {w w' : World} {p B : Nat} {A S : Option Addr} {cA cS : Nat} {l : Ltr} {v v' : Value} {xs : List B8} (h : LtN w (fun i => p ≤ i) A cA S cS l) (hp : PenAt w p B v xs) (s : PenStep w w' p v v') : LtN w' (fun i => p ≤ i) A cA S cS l := h.turn s.1 hp.penLow (fun _ _ h => h)
theorem ItN.pen {w w' : World} {p B : Nat} {A : Option Addr} {its : List Itm} {v v' : Value} {xs : List B8} (h : ItN w (fun i => p ≤ i) A its) (hp : PenAt w p B v xs) (s : PenStep w w' p v v') : ItN w' (fun i => p ≤ i) A its := h.turn s.1 hp.penLow (fun _ _ h => h)
theorem BtN.pen {w w' : World} {p B : Nat} {S : Option Addr} {c : Nat} {b : List B8} {v v' : Value} {xs : List B8} (h : BtN w (fun i => p ≤ i) S c b) (hp : PenAt w p B v xs) (s : PenStep w w' p v v') : BtN w' (fun i => p ≤ i) S c b := h.turn s.1 hp.penLow (fun _ _ h => h)
theorem ptextN {w : World} {p B : Nat} {v : Value} {xs b : List B8} {S : Option Addr} {c : Nat} (hp : PenAt w p B v xs) (h : BtN w (fun i => p ≤ i) S c b) (hlen : xs.length + 9 + b.length ≤ 1099511627776) :
    Calls Try.prog 22 #[.pointer (some ⟨p, 0, none⟩), .slice S b.length c] w fun r w' => r = .returned (.tuple #[]) ∧ ∃ v', PenAt w' p B v' (xs ++ (numB b.length ++ b)) ∧ PenStep w w' p v v' :=
  ptext_any p B v xs b S c w hp (h.turn (Turn.refl (fun _ => False) w) (fun _ h => h.elim) (fun i _ hi => hp.penLow i hi)).s h.a h.c hlen
set_option maxRecDepth 100000 in
set_option maxHeartbeats 4000000 in
theorem putYes_any (p B : Nat) (v : Value) (xs : List B8) (s : Bool) (w : World) (h : PenAt w p B v xs) (hlen : xs.length ≤ 100000000) :
    Calls Try.prog 20 #[.pointer (some ⟨p, 0, none⟩), .bool s] w fun r w' => r = .returned (.tuple #[]) ∧ ∃ v', PenAt w' p B v' (xs ++ numB (yesN s)) ∧ PenStep w w' p v v' := by
  cases s
  · have T := Lib.hid (pnum_any p B v xs 0 w h (by omega) (by omega))
    clear h
    go_enter Try.func20, Try.ntmps20
    go_wp2_with fail
    refine T.out.mono ?_
    rintro r w1 ⟨rfl, v1, hp1, st1⟩
    have HP1 := Lib.hid hp1
    have HS1 := Lib.hid st1
    clear hp1 st1 T
    go_wp2
    first | go_end0 | refine bodyPost_ret (results_none rfl _ _ _) rfl ?_
    exact ⟨rfl, v1, HP1.out, HS1.out⟩
  · have T := Lib.hid (pnum_any p B v xs 1 w h (by omega) (by omega))
    clear h
    go_enter Try.func20, Try.ntmps20
    go_wp2_with fail
    refine T.out.mono ?_
    rintro r w1 ⟨rfl, v1, hp1, st1⟩
    have HP1 := Lib.hid hp1
    have HS1 := Lib.hid st1
    clear hp1 st1 T
    go_wp2
    first | go_end0 | refine bodyPost_ret (results_none rfl _ _ _) rfl ?_
    exact ⟨rfl, v1, HP1.out, HS1.out⟩
set_option maxRecDepth 100000 in
set_option maxHeartbeats 4000000 in
theorem putPlace_any (p B x y : Nat) (v : Value) (xs : List B8) (A S : Option Addr) (cA cS : Nat) (l : Ltr) (w : World) (h : PenAt w p B v xs) (hx : l.x = (x : Int)) (hy : l.y = (y : Int)) (bx : x ≤ 1099511627776) (bY : y ≤ 1099511627776) (hlen : xs.length ≤ 100000000) :
    Calls Try.prog 19 #[.pointer (some ⟨p, 0, none⟩), ltV A cA S cS l] w fun r w' => r = .returned (.tuple #[]) ∧ ∃ v', PenAt w' p B v' (xs ++ (numB x ++ numB y)) ∧ PenStep w w' p v v' := by
  obtain ⟨hp0, hf0, st0⟩ := h.new (.cells (ltC A cA S cS l) 25)
  obtain ⟨g, hg⟩ : ∃ g, g = w.heap.size := ⟨_, rfl⟩
  obtain ⟨w0, hw0⟩ : ∃ w0, w0 = w.alloc (.cells (ltC A cA S cS l) 25) := ⟨_, rfl⟩
  have hg0 : LBx w0 g A cA S cS l := by rw [hw0, hg]; exact LBx.new _ _ _ _ _ _
  rw [← hw0] at hp0 hf0 st0
  rw [← hg] at hf0
  have T1 := Lib.hid (pnum_any p B v xs x w0 hp0 (by omega) (by omega))
  have n1 := numB_le (n := x) (by omega)
  obtain ⟨c0, c1, c2, c3, c4, c5, c6, c7⟩ := hg0.cells
  rw [hx] at c2
  have HX := Lib.hid hx
  have HY := Lib.hid hy
  have HF0 := Lib.hid hf0
  have HG0 := Lib.hid hg0
  have ST0 := Lib.hid st0
  have HGG := Lib.hid hg
  clear h hp0 hf0 st0 hg0 hx hy
  go_enter Try.func19, Try.ntmps19
  go_upto_region 1 with fail
  change Code.wp _ _ _ _ (w.alloc (.cells (ltC A cA S cS l) 25))
  rw [← hw0, ← hg]
  clear hw0 hg
  go_wp2_with fail
  refine T1.out.mono ?_
  rintro r w2 ⟨rfl, v2, hp2, st2⟩
  have hg2 : LBx w2 g A cA S cS l := st2.heap HF0.out HG0.out
  clear c0 c1 c2 c3 c4 c5 c6 c7
  obtain ⟨c0, c1, c2, c3, c4, c5, c6, c7⟩ := hg2.cells
  rw [HY.out] at c3
  have T2 := Lib.hid (pnum_any p B v2 _ y w2 hp2 (by omega) (by simp only [List.length_append]; omega))
  have ST2 := Lib.hid (ST0.out.trans st2)
  clear hp2 st2 hg2 T1
  go_wp2_with fail
  refine T2.out.mono ?_
  rintro r w3 ⟨rfl, v3, hp3, st3⟩
  have HP3 := Lib.hid hp3
  have ST3 := Lib.hid (ST2.out.trans st3)
  clear hp3 st3 T2
  go_wp2
  first | go_end0 | refine bodyPost_ret (results_none rfl _ _ _) rfl ?_
  exact ⟨rfl, v3, by rw [← List.append_assoc]; exact HP3.out, ST3.out⟩

end
section
set_option linter.unusedVariables false
set_option linter.unusedSimpArgs false

open Go.RowKit
set_option maxRecDepth 100000 in
set_option maxHeartbeats 4000000 in
theorem putItems_any (p B : Nat) (v : Value) (xs : List B8) (A : Option Addr) (c : Nat) (l : List Itm) (w : World) (h : PenAt w p B v xs) (hI : ItN w (fun i => p ≤ i) A l) (hl : l.length ≤ 16) (hb : ∀ q ∈ l, inP q.t ∧ q.b.length ≤ 8192) (hlen : xs.length ≤ 1000) :
    Calls Try.prog 21 #[.pointer (some ⟨p, 0, none⟩), .slice A l.length c] w fun r w' => r = .returned (.tuple #[]) ∧ ∃ v', PenAt w' p B v' (xs ++ (numB l.length ++ itsF l)) ∧ PenStep w w' p v v' := by
  have T0 := Lib.hid (pnum_any p B v xs l.length w h (by omega) (by omega))
  have hnl := numB_le (n := l.length) (by omega)
  have HI := Lib.hid hI
  have HB := Lib.hid hb
  have HH := Lib.hid h
  have HK := Lib.hid (fun k => itsF_le (l := l.take k) (fun p hp => hb p (List.mem_of_mem_take hp)))
  clear h hI hb
  go_enter Try.func21, Try.ntmps21
  go_wp2_with fail
  refine T0.out.mono ?_
  rintro r w1 ⟨rfl, v1, hp1, st1⟩
  have HP1 := Lib.hid hp1
  have HS1 := Lib.hid st1
  clear hp1 st1 T0
  go_wp2
  go_loopw [13] (fun i wr => ∃ (k : Nat) (u : Value), k ≤ l.length ∧ i = .int .i64 k ∧ PenAt wr p B u (xs ++ (numB l.length ++ itsF (l.take k))) ∧ PenStep w wr p v u) (fun i _ => l.length - (intOf i).toNat)
  case atStart => exact ⟨0, v1, Nat.zero_le _, rfl, by simpa [itsF] using HP1.out, HS1.out⟩
  case round =>
    clear HP1 HS1
    obtain ⟨k, u, hk, rfl, hp, hst⟩ := hrel
    by_cases hlt : k < l.length
    · have hlk := List.getElem?_eq_getElem hlt
      obtain ⟨hok, b, o, S, cp, rfl, hbb, hs, p0, p1⟩ := (HI.out.pen HH.out hst) k l[k] hlk
      have HSUC := Lib.hid (itsF_succ hlt)
      have hxl : (xs ++ (numB l.length ++ itsF (l.take k))).length ≤ 140000 := by
        have := HK.out k
        rw [List.length_take] at this
        simp only [List.length_append]; omega
      have hout := HB.out l[k] (List.getElem_mem hlt)
      obtain ⟨q, hq⟩ : ∃ q, q = l[k] := ⟨_, rfl⟩
      rw [← hq] at hok p0 p1 hs hout HSUC
      obtain ⟨⟨ot0, ot1⟩, ob⟩ := hout
      obtain ⟨y, hy⟩ : ∃ y : Nat, q.t = (y : Int) := ⟨q.t.toNat, by omega⟩
      have hyn : q.t.toNat = y := by omega
      have hin : itF q = numB y ++ (numB q.b.length ++ q.b) := by unfold itF; rw [hyn]
      have hy40 : y ≤ 1099511627776 := by omega
      rw [hy] at p0
      obtain ⟨hp0, hf0, hst0⟩ := hp.new (.cells #[.int .i64 (y : Int), .slice S q.b.length cp] 40)
      obtain ⟨w0, hw0⟩ : ∃ w0, w0 = wr.alloc (.cells #[.int .i64 (y : Int), .slice S q.b.length cp] 40) := ⟨_, rfl⟩
      obtain ⟨g, hg⟩ : ∃ g, g = wr.heap.size := ⟨_, rfl⟩
      have hg0 : w0.heap[g]? = some (.cells #[.int .i64 (y : Int), .slice S q.b.length cp] 40 (0, 0)) := by rw [hw0, hg]; exact heap_alloc_new wr _
      have hs0 := hs.quiet (w' := w0) (by rw [hw0]; exact (Turn.refl _ _).alloc _)
      rw [← hw0] at hp0 hf0 hst0
      rw [← hg] at hf0
      have T1 := Lib.hid (pnum_any p B u _ y w0 hp0 (by omega) (by omega))
      obtain ⟨⟨d0, d1⟩, -⟩ := ys_row hg0
      have HG0 := Lib.hid hg0
      have HF0 := Lib.hid hf0
      have HS0 := Lib.hid hs0
      have HIN := Lib.hid hin
      have HST := Lib.hid hst
      have HST0 := Lib.hid hst0
      have HPL := Lib.hid hp0
      have HGG := Lib.hid hg
      clear hok hp hq hs hlk hin hst hst0 hp0 hf0 hg0 hyn hy ot0 ot1 hs0 hbb
      go_upto_region 4 with fail
      change Code.wp _ _ _ _ (wr.alloc (.cells #[.int .i64 (y : Int), .slice S q.b.length cp] 40))
      rw [← hw0, ← hg]
      clear hw0 hg p0 p1
      go_wp2_with fail
      refine T1.out.mono ?_
      rintro r w2 ⟨rfl, v2, hp2, st2⟩
      have hf2 := HF0.out.step st2
      have hg2 := st2.heap HF0.out HG0.out
      have hs2 := HS0.out.pen HPL.out st2
      have hn9 := numB_le (n := y) (by omega)
      clear d0 d1
      obtain ⟨⟨d0, d1⟩, -⟩ := ys_row hg2
      have T4 := Lib.hid (ptextN hp2 hs2 (by simp only [List.length_append] at hxl ⊢; omega))
      have ST4 := Lib.hid (HST0.out.trans st2)
      clear hf2 hg2 hs2 hp2 st2 T1 HPL
      go_wp2_with fail
      refine T4.out.mono ?_
      rintro r w5 ⟨rfl, v5, hp5, st5⟩
      have HP5 := Lib.hid hp5
      have ST5 := Lib.hid (ST4.out.trans st5)
      clear hp5 st5 T4
      go_wp2
      go_roundw
      case rel => exact ⟨k + 1, v5, by omega, by go_num, by rw [HSUC.out, HIN.out]; have h := HP5.out; simp only [List.append_assoc] at h ⊢; exact h, HST.out.trans ST5.out⟩
      case measure => simp [intOf]; omega
    · obtain rfl : k = l.length := by omega
      rw [List.take_length] at hp
      have HP := Lib.hid hp
      have HS := Lib.hid hst
      clear hp hst
      go_wp2
      first | go_end0 | refine bodyPost_ret (results_none rfl _ _ _) rfl ?_
      exact ⟨rfl, u, HP.out, HS.out⟩

end
end Go.Proofs.Ytaicpclkdpbacaa
