/- The landed line: From. -/
import Derived.Test.YtgjplbanfnomkaaLnH
set_option linter.unusedVariables false
set_option linter.unusedSimpArgs false
namespace Go.Proofs.Ytgjplbanfnomkaa
open Go.RowKit
set_option maxRecDepth 100000
theorem ItN.cut {w : World} {N : Nat → Prop} {b o : Nat} {l : List Itm} (h : ItN w N (some ⟨b, o, none⟩) l) (k m : Nat) : ItN w N (some ⟨b, o + k * 2, none⟩) ((l.drop k).take m) := fun i p hi => by
  have him : i < m := by have := (List.getElem?_eq_some_iff.1 hi).1; simp at this; omega
  rw [List.getElem?_take_of_lt him, List.getElem?_drop] at hi
  obtain ⟨hok, b', o', S, c, e, hb, hs, h0, h1⟩ := h (k + i) p hi
  injection e with e
  injection e with e1 e2
  subst e1 e2
  refine ⟨hok, b, o + k * 2, S, c, rfl, hb, hs, ?_, ?_⟩
  · rw [show o + k * 2 + i * 2 = o + (k + i) * 2 by omega]; exact h0
  · rw [show o + k * 2 + i * 2 + 1 = o + (k + i) * 2 + 1 by omega]; exact h1
/-- Items that are read. -/
def FPost (l : List Itm) (w : World) (r : Ending) (w' : World) : Prop := ∃ A c, r = .returned (.slice A l.length c) ∧ ItN w' (fun _ => False) A l ∧ Turn (fun _ => False) w w'
theorem Ln.from_no {x : Ln} {i m : Int} (h : ¬ (x.b < i ∧ i ≤ x.last)) : x.from' i m = [] := by unfold Ln.from'; rw [if_neg h]
theorem Ln.from_few {x : Ln} {i m : Int} (h : m < 1) : x.from' i m = [] := by
  unfold Ln.from'
  split
  · rw [show m.toNat = 0 by omega]; rfl
  · rfl
theorem Ln.from_yes {x : Ln} {i m : Int} (h : x.b < i ∧ i ≤ x.last) {k : Nat} (hk : i - x.b - 1 = (k : Int)) : x.from' i m = (x.l.drop k).take m.toNat := by
  unfold Ln.from'; rw [if_pos h, hk, Int.toNat_natCast]
set_option maxHeartbeats 8000000 in
theorem lfrom_any (g : Nat) (v : Value) (x : Ln) (w : World) (h : Lat w g v x) (i m : Int) : Calls Try.prog 17 #[.pointer (some ⟨g, 0, none⟩), .int .i64 i, .int .i64 m] w (FPost (x.from' i m) w) := by
  unfold FPost
  have T := lhas_any g v x w h i
  by_cases hi : x.b < i ∧ i ≤ x.last
  rotate_left
  · rw [decide_eq_false hi] at T
    have T := Lib.hid T
    rw [Ln.from_no hi]
    clear h hi
    go_enter Try.func17, Try.ntmps17
    go_wp2_with (go_at_call 45; refine stop ?_)
    unfold Stop
    refine T.out.mono ?_
    rintro r wr ⟨rfl, n1, hw1⟩
    have t1 : Turn (fun _ => False) w wr := by rw [hw1]; exact (Turn.refl _ _).drewN _
    have HT := Lib.hid t1
    clear hw1 t1 T
    go_wp2
    go_ret
    exact ⟨none, 0, rfl, fun i p hi => by simp at hi, HT.out⟩
  rw [decide_eq_true hi] at T
  have T := Lib.hid T
  by_cases hm1 : m < 1
  · rw [Ln.from_few hm1]
    clear h hi
    go_enter Try.func17, Try.ntmps17
    go_wp2_with (go_at_call 45; refine stop ?_)
    unfold Stop
    refine T.out.mono ?_
    rintro r wr ⟨rfl, n1, hw1⟩
    have t1 : Turn (fun _ => False) w wr := by rw [hw1]; exact (Turn.refl _ _).drewN _
    have HT := Lib.hid t1
    clear hw1 t1 T
    go_wp2
    go_ret
    exact ⟨none, 0, rfl, fun i p hi => by simp at hi, HT.out⟩
  obtain ⟨k, hk, p, hp, -, -⟩ := Ln.at_there h.ok hi.1 hi.2
  rw [Ln.from_yes hi hk]
  have TP := Lib.hid (fun w' (t : Turn (fun _ => False) w w') => lplace_any g v x w' (h.quiet t) i hi.1 (by have := hi.2; omega))
  rw [hk] at TP
  obtain ⟨c0, c1, c2⟩ := h.cells
  obtain ⟨A, c, rfl, hc, hm, hA, hI⟩ := h.parts
  obtain ⟨-, b, o, S, cp, hAe, -, -, -, -⟩ := hI k p hp
  have hkn : k < x.l.length := (List.getElem?_eq_some_iff.1 hp).1
  have hn := h.ok.n
  have C2 := Lib.hid c2
  subst hAe
  have hbs : ∀ q ∈ (x.l.drop k).take m.toNat, q.b.length ≤ 8192 := fun q hq => (okIt_parts (h.ok.it q (List.mem_of_mem_drop (List.mem_of_mem_take hq)))).2.2
  have CS := Lib.hid (fun (w' : World) (t : Turn (fun _ => False) w w') (c' : Nat) => lcopies_any (some ⟨b, o + k * 2, none⟩) c' _ ((x.l.drop k).take m.toNat) w' ((hI.quiet t).cut k m.toNat) (by simp; omega) hbs)
  unfold CsPost at CS
  have HLL := Lib.hid (show ((x.l.drop k).take m.toNat).length = min m.toNat (x.l.length - k) by simp)
  generalize (x.l.drop k).take m.toNat = l' at *
  generalize x.l.length = n at *
  clear h hI c0 c1 c2 hi hp hk hbs hA
  unfold maxLen at hm
  go_enter Try.func17, Try.ntmps17
  go_wp2_with (go_at_call 45; refine stop ?_)
  unfold Stop
  refine T.out.mono ?_
  rintro r wr ⟨rfl, n1, hw1⟩
  have t1 : Turn (fun _ => False) w wr := by rw [hw1]; exact (Turn.refl _ _).drewN _
  have HTR := Lib.hid t1
  clear hw1 t1 T
  go_upto_region 3 with fail
  have HWS := Lib.hid (fun (w' : World) (k : Stp wr.drew w') => show Turn (fun _ => False) wr w' from Turn.of_below (stp_start k (Below.refl _ _)))
  refine wp_region_rel 31 Stp [.one ?_, .one ?_, .one ?_, .one ?_, .one ?_, .one ?_, .one ?_, .one ?_, .one ?_] (by kernel_rfl) (by kernel_rfl) rfl (by kernel_rfl) Stp.refl Stp.trans trivial ?main
  case main =>
  iterate 3
    refine wpR_one (A' := ?_) Stp.refl (by rfl) _ rfl 31 (by rfl) (by rfl) ?_ ?_ ?_
    rotate_left 1
    · simp only [Act.put, List.setIfInBounds_toArray, List.set_cons_zero, List.set_cons_succ]; rfl
    · intro w1 hs hf K hK
      go_big_quiet_op
      first
        | go_big_quiet_on
        | (refine ⟨_, fun _ _ => rfl, ?_⟩; go_big_quiet_on)
      rfl
  refine wpR_one (A' := ?_) Stp.refl (by rfl) _ rfl 31 (by rfl) (by rfl) ?_ ?_ ?_
  rotate_left 1
  · simp only [Act.put, List.setIfInBounds_toArray, List.set_cons_zero, List.set_cons_succ]; rfl
  · intro w1 hs hf K hK
    refine cls_load_cell 27 (.tmp 18) rfl ⟨g, 2, none⟩ rfl (.slice (some ⟨b, o, none⟩) n c) (fun w h => by simp [go_sem, h]) (fun w2 h2 => ((HTR.out.trans (HWS.out w2 (Stp.trans _ _ _ hs h2)) (fun _ _ h => h)).cell C2.out (fun h => h))) ?_
    refine hK _ ?_
    simp only [Act.put, List.setIfInBounds_toArray, List.set_cons_zero, List.set_cons_succ]
    rfl
  iterate 2
    refine wpR_one (A' := ?_) Stp.refl (by rfl) _ rfl 31 (by rfl) (by rfl) ?_ ?_ ?_
    rotate_left 1
    · simp only [Act.put, List.setIfInBounds_toArray, List.set_cons_zero, List.set_cons_succ]; rfl
    · intro w1 hs hf K hK
      go_big_quiet_op
      first
        | go_big_quiet_on
        | (refine ⟨_, fun _ _ => rfl, ?_⟩; go_big_quiet_on)
      rfl
  refine wpR_one (A' := ?_) Stp.refl (by rfl) _ rfl 31 (by rfl) (by rfl) ?_ ?_ ?_
  rotate_left 1
  · simp only [Act.put, List.setIfInBounds_toArray, List.set_cons_zero, List.set_cons_succ]; rfl
  · intro w1 hs hf K hK
    go_big_quiet_op
    apply Exists.intro
    refine ⟨fun w2 h2 => ?_, ?_⟩
    · have T2 := (HWS.out w2 (Stp.trans _ _ _ hs h2))
      refine ((TP.out w2 (HTR.out.trans T2 (fun _ _ h => h))).mono (fun r w3 (h : r = _ ∧ w3 = w2) => show r = _ ∧ Turn (fun _ => False) w2 w3 from ⟨h.1, by rw [h.2]; exact Turn.refl _ _⟩)).mono ?_
      rintro e w3 ⟨rfl, t3⟩
      exact ⟨rfl, Stp.trans _ _ _ h2 (turn_stp' t3)⟩
    · go_big_quiet_on
      rfl
  iterate 2
    refine wpR_one (A' := ?_) Stp.refl (by rfl) _ rfl 31 (by rfl) (by rfl) ?_ ?_ ?_
    rotate_left 1
    · simp only [Act.put, List.setIfInBounds_toArray, List.set_cons_zero, List.set_cons_succ]; rfl
    · intro w1 hs hf K hK
      go_big_quiet_op
      first
        | go_big_quiet_on
        | (refine ⟨_, fun _ _ => rfl, ?_⟩; go_big_quiet_on)
      rfl
  intro w9 hs9 hf9
  have T9 := Lib.hid (HWS.out w9 hs9)
  clear hs9 HWS
  have HT := Lib.hid (HTR.out.trans T9.out (fun _ _ h => h))
  have CC := CS.out w9 HT.out (c - k)
  clear CS T9 hf9 C2 TP HTR
  obtain ⟨ml, hml⟩ : ∃ q : Nat, q = min m.toNat (n - k) := ⟨_, rfl⟩
  have HM0 : min m ((n - k : Nat) : Int) = (ml : Int) := by omega
  have HM1 : min m ((n : Int) - (k : Int)) = (ml : Int) := by omega
  have hml2 : ml ≤ n - k := by omega
  rw [← hml] at HLL
  rw [HLL.out] at CC
  have CC := Lib.hid CC
  clear hml
  go_wp2_with (go_at_call 43; refine stop ?_)
  unfold Stop
  refine CC.out.mono ?_
  rintro r w3 ⟨A3, c3, cs, rfl, hv, ho, t3⟩
  have HV := Lib.hid ((hv.less (N' := fun _ => False) (fun _ h => h.elim)).itN ho (fun _ h => h.elim))
  have HT3 := Lib.hid (HT.out.trans t3 (fun _ _ h => h))
  clear hv ho t3 CC
  go_wp2
  go_ret
  exact ⟨A3, c3, by rw [HLL.out]; rfl, HV.out, HT3.out⟩
end Go.Proofs.Ytgjplbanfnomkaa
