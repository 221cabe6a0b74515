/- The contracts of the statements' own small reader 'one', and of the document's example. -/
import Derived.Test.YtciohmlobknhlaaFldH
import Derived.Test.YtciohmlobknhlaaFldJ
set_option linter.unusedVariables false
namespace Go.Proofs.Ytciohmlobknhlaa
open Go.RowKit
theorem eNum_top (l : List B8) : eNum 18446744073709551615 l = numE l := by
  unfold eNum
  by_cases h : numE l ≠ 0
  · rw [if_pos h]
  · rw [if_neg h, if_neg (by have := numV_lt l (by omega); omega)]; omega
theorem one_yes (o e E : Nat) (N : Nat → Prop) (n : Value) (l : List B8) (w : World) (h : Eye0 w e E N l) (ho : w.heap[o]? = some (.cells #[n] 47 (0, 0))) (hoe : o ≠ e) (hoE : o ≠ E) (hNo : N o) (hx : numE l = 0) :
    Calls Try.prog 10 #[.pointer (some ⟨o, 0, none⟩), .pointer (some ⟨e, 0, none⟩)] w fun r w' => r = .returned (.tuple #[]) ∧ Eye0 w' e E N (numR l) ∧ w'.heap[o]? = some (.cells #[.int .u64 (numV l : Int)] 47 (0, 0)) ∧ Turn (fun i => i = e ∨ i = o) w w' := by
  have T := Lib.hid (num_yes e E N 18446744073709551615 l w h (by rw [eNum_top]; exact hx))
  clear h hx
  go_enter Try.func10, Try.ntmps10
  go_wp2_with (go_at_call 18; refine T.out.mono ?_; rintro r w1 ⟨rfl, he1, ht1⟩; have HE1 := Lib.hid he1; have HT1 := Lib.hid ht1; have ho1 := ht1.heap ho hoe; have c1 := cell_of_row w1 o 0 _ _ _ ho1; have z1 := frozen_of_row w1 o 0 _ _ ho1; have HO1 := Lib.hid ho1; clear he1 ht1 ho1; simp only [List.getElem?_toArray, List.getElem?_cons_zero] at c1)
  go_end0
  have h2 := heap_setCell_same w1 o 0 _ _ (.int .u64 (numV l : Int)) HO1.out
  refine ⟨rfl, HE1.out.turn ((Turn.refl (fun i => i = o) w1).setCell ⟨o, 0, none⟩ _ (fun _ => rfl)) (fun h => hoe h.symm) (fun h => hoE h.symm) (fun i hi => by rw [hi]; exact hNo), h2, ?_⟩
  exact (HT1.out.mono (fun _ _ h => .inl h)).setCell ⟨o, 0, none⟩ _ (fun _ => .inr rfl)
theorem one_no (o e E : Nat) (N : Nat → Prop) (l : List B8) (w : World) (h : Eye0 w e E N l) (hx : numE l ≠ 0) :
    Calls Try.prog 10 #[.pointer (some ⟨o, 0, none⟩), .pointer (some ⟨e, 0, none⟩)] w fun r w' => r = pan E ∧ EyeX w' e E (numE l) ∧ Turn (fun i => i = e ∨ i = E) w w' := by
  have t := num_no e E N 18446744073709551615 l w h (by rw [eNum_top]; exact hx)
  rw [eNum_top] at t
  have T := Lib.hid t
  clear h hx t
  go_enter Try.func10, Try.ntmps10
  go_wp2_with (go_at_call 18; refine T.out.mono ?_; rintro r w1 ⟨rfl, he1, ht1⟩; dsimp only [pan]; have HE1 := Lib.hid he1; have HT1 := Lib.hid ht1; clear he1 ht1)
  exact ⟨rfl, rfl, HE1.out, HT1.out⟩
/-- 'Read' with the reader of one number. -/
theorem read_one (o : Nat) (n : Value) (A : Option Addr) (c : Nat) (bs : List B8) (w : World) (hs : SlN w (fun i => i = o) A (bs.map bv)) (hA : A = none → c = 0) (hc : bs.length ≤ c) (hlen : bs.length ≤ 1099511627776)
    (ho : w.heap[o]? = some (.cells #[n] 47 (0, 0))) :
    Calls Try.prog 7 #[.slice A bs.length c, .func (.func 10) #[.pointer (some ⟨o, 0, none⟩)] #[]] w fun r w' => Turn (fun i => i = o) w w' ∧
      ((numE bs = 0 ∧ w'.heap[o]? = some (.cells #[.int .u64 (numV bs : Int)] 47 (0, 0)) ∧ r = .returned (.int .i64 (if numR bs = [] then 0 else 3))) ∨ (∃ k : Nat, k ≠ 0 ∧ numE bs = k ∧ r = .returned (.int .i64 (k : Int)))) := by
  have hlt : o < w.heap.size := lt_of_block ho
  refine (read_any 10 (.pointer (some ⟨o, 0, none⟩)) A c bs w (fun i => i = o ∨ i = w.heap.size ∨ i = w.heap.size + 1) (fun i => i = o)
    (fun l w2 => l = numR bs ∧ numE bs = 0 ∧ w2.heap[o]? = some (.cells #[.int .u64 (numV bs : Int)] 47 (0, 0)) ∧ Turn (fun i => i = o) w w2)
    (fun k w2 => numE bs = k ∧ Turn (fun i => i = o) w w2) (fun _ _ => by kernel_rfl) hs hA hc hlen (by omega) ?_).mono ?_
  · intro w1 t1 s1 e1
    by_cases hx : numE bs = 0
    · refine (one_yes o _ _ _ n bs w1 e1 (t1.heap ho (fun h => h)) (by omega) (by omega) (.inl rfl) hx).mono ?_
      rintro r w2 ⟨rfl, he, h2, t2⟩
      exact ⟨t2.mono (fun i _ h => by omega), .inl ⟨rfl, _, he, rfl, hx, h2, (t1.mono (fun _ _ h => h.elim)).trans t2 (fun i hi h => by omega)⟩⟩
    · refine (one_no o _ _ _ bs w1 e1 hx).mono ?_
      rintro r w2 ⟨rfl, he, t2⟩
      exact ⟨t2.mono (fun i _ h => by omega), .inr ⟨rfl, _, hx, he, rfl, (t1.mono (fun _ _ h => h.elim)).trans t2 (fun i hi h => by omega)⟩⟩
  · rintro r w' ⟨w2, t, (⟨l, ⟨rfl, hx, h2, t2⟩, rfl⟩ | ⟨k, hk, ⟨hx, t2⟩, rfl⟩)⟩
    · exact ⟨t2.trans t (fun i hi h => by omega), .inl ⟨hx, t.heap h2 (by omega), rfl⟩⟩
    · exact ⟨t2.trans t (fun i hi h => by omega), .inr ⟨k, hk, hx, rfl⟩⟩
theorem numB_300 : numB 300 = [2, 1, 44] := numB_valB [1, 44] (by rintro x r ⟨⟩; decide) (by decide)
theorem numB_0 : numB 0 = [0] := by simp [numB, klen_zero, beN]
theorem rbytes_at (A A' : Option Addr) (c c' n n' : Nat) (B B' : Nat) (xs ys : List B8) (w : World) (hx : Sl w B A (xs.map bv)) (hy : Sl w B' A' (ys.map bv)) (hn : xs.length = n) (hn' : ys.length = n') (hlx : n ≤ maxLen) (hly : n' ≤ maxLen) :
    Calls Try.prog 11 #[.slice A n c, .slice A' n' c'] w fun e w' => e = .returned (.bool (decide (xs = ys))) ∧ ∃ n, w' = w.drewN n := by
  subst hn hn'; exact rbytes_any A A' c c' B B' xs ys w hx hy hlx hly
theorem sl_block {w : World} {b : Nat} {cs : List Value} {t : TypeId} (h : w.heap[b]? = some (.cells cs.toArray t (0, 0))) : Sl w w.heap.size (some ⟨b, 0, none⟩) cs := fun j u hu => by
  refine ⟨_, rfl, lt_of_block h, ?_⟩
  rw [show (⟨b, 0, none⟩ : Addr).add j = ⟨b, j, none⟩ by unfold Addr.add; by_cases hj : j = 0 <;> simp [hj], cell_of_row w b j _ _ _ h, List.getElem?_toArray]; exact hu
set_option maxHeartbeats 1000000 in
theorem awake_any (w : World) : Calls Try.prog 4 #[] w fun e w' => e = .returned (.bool true) ∧ Turn (fun _ => False) w w' := by
  have hmf : ∀ (fn : Fn) (first cap : Array Value) (w : World), (Instr.makeFunc fn first cap).run Try.prog w = .ok (.func fn first cap) w := fun _ _ _ _ => rfl
  have hp0 : PenAt (w.alloc (.cells #[.slice none 0 0] 43)) w.heap.size (w.heap.size + 1) (.slice none 0 0) [] := ⟨heap_alloc_new _ _, World.ownsRow_nil _ _ _ _, by omega, by simp⟩
  have T1 := Lib.hid (pnum_any w.heap.size (w.heap.size + 1) (.slice none 0 0) [] 300 _ hp0 (by decide) (by decide))
  clear hp0
  go_enter Try.func4, Try.ntmps4
  go_wp2_with fail
  refine T1.out.mono ?_
  rintro r w1 ⟨rfl, v1, hp1, st1⟩
  rw [numB_300] at hp1
  have T2 := Lib.hid (pnum_any w.heap.size (w.heap.size + 1) v1 _ 0 w1 hp1 (by decide) (by decide))
  have ST1 := Lib.hid st1
  clear hp1 st1 T1
  go_wp2_with fail
  refine T2.out.mono ?_
  rintro r w2 ⟨rfl, v2, hp2, st2⟩
  rw [numB_0] at hp2
  have t2 : Turn (fun _ => False) w w2 := ((Turn.refl _ w).alloc _).trans (ST1.out.trans st2).1 (fun i hi h => h.elim (fun h => by omega) (fun h => by cases h))
  have HT2 := Lib.hid t2
  have HP2 := Lib.hid hp2
  clear hp2 st2 T2 t2 ST1
  go_wp2_with fail
  obtain ⟨w3, hw3⟩ : ∃ w3, w3 = (w2.alloc (.cells #[Value.int IntKind.u64 0] 47)).alloc (.cells #[Value.int IntKind.u8 2, Value.int IntKind.u8 1, Value.int IntKind.u8 44] 5) := ⟨_, rfl⟩
  have ho3 : w3.heap[w2.heap.size]? = some (.cells #[Value.int IntKind.u64 0] 47 (0, 0)) := by rw [hw3]; exact heap_alloc2_old _ _ _
  have hb3 : w3.heap[w2.heap.size + 1]? = some (.cells (([2, 1, 44] : List B8).map bv).toArray 5 (0, 0)) := by rw [hw3]; exact heap_alloc2_new _ _ _
  have t3 : Turn (fun _ => False) w2 w3 := by rw [hw3]; exact ((Turn.refl _ _).alloc _).alloc _
  have s3 : w3.heap.size = w2.heap.size + 2 := by rw [hw3]; simp
  have hs3 : SlN w3 (fun i => i = w2.heap.size) (some ⟨w2.heap.size + 1, 0, none⟩) (([2, 1, 44] : List B8).map bv) := fun j u hu => by
    obtain ⟨ad, e, hb, hc⟩ := sl_block hb3 j u hu
    refine ⟨ad, e, ?_, hc⟩
    injection e with e; subst e; simp
  have T3 := Lib.hid (read_one w2.heap.size _ (some ⟨w2.heap.size + 1, 0, none⟩) 3 [2, 1, 44] w3 hs3 (fun h => by cases h) (by decide) (by decide) ho3)
  rw [← hw3]
  have HT3 := Lib.hid t3
  clear hw3 hb3 t3 hs3 ho3
  refine T3.out.mono ?_
  rintro r w4 ⟨t4, (⟨hx, ho4, rfl⟩ | ⟨k, hk, hx, rfl⟩)⟩
  · rw [show numV [2, 1, 44] = 300 by decide] at ho4
    have c4 : w4.cell? ⟨w2.heap.size, 0, none⟩ = some (.int .u64 300) := by rw [cell_of_row w4 _ 0 _ _ _ ho4]; rfl
    have hp4 := (HP2.out.turn HT3.out (fun h => h) (fun _ _ h => h)).turn t4 (by have := HP2.out.2.2.2; omega) (fun g e h => by have := (HP2.out.2.1.lt g e).2; omega)
    have T4 := Lib.hid (pbytes_any _ _ _ _ w4 hp4 (by decide))
    have HT4 := Lib.hid t4
    have HO4 := Lib.hid ho4
    have hi : (if numR ([2, 1, 44] : List B8) = [] then (0 : Int) else 3) = 0 := by decide
    rw [hi]
    clear hp4 t4 ho4 hi T3
    go_wp2_with fail
    refine T4.out.mono ?_
    rintro r w5 ⟨u5, rfl, ho5, t5⟩
    have c5 := t5.cell c4 (fun h => h)
    obtain ⟨A5, c5', rfl, hs5, hl5, -⟩ := own_sl ho5
    have b6 := heap_alloc_new w5 (.cells (([2, 1, 44, 0] : List B8).map bv).toArray 5)
    have hs6 := ((Turn.refl (fun _ => False) w5).alloc (.cells (([2, 1, 44, 0] : List B8).map bv).toArray 5)).sl hs5 (fun _ _ h => h)
    have T5 := Lib.hid (rbytes_at A5 (some ⟨w5.heap.size, 0, none⟩) c5' 4 4 4 _ _ _ _ _ hs6 (sl_block b6) rfl rfl (by decide) (by decide))
    have c6 := ((Turn.refl (fun _ => False) w5).alloc (.cells (([2, 1, 44, 0] : List B8).map bv).toArray 5)).cell c5 (fun h => h)
    have HT5 := Lib.hid (((HT2.out.trans HT3.out (fun _ _ h => h)).trans HT4.out (S := fun _ => False) (fun i hi h => by have := HT2.out.size; omega)).trans t5 (fun _ _ h => h))
    clear b6 hs6 hs5 ho5 t5 hl5 c5 c4 T4
    go_wp2_with fail
    refine T5.out.mono ?_
    rintro r w6 ⟨rfl, n6, rfl⟩
    have hd : decide ((([] : List B8) ++ [2, 1, 44] ++ [0]) = [2, 1, 44, 0]) = true := by decide
    have c7 : ((w5.alloc (.cells (([2, 1, 44, 0] : List B8).map bv).toArray 5)).drewN n6).cell? ⟨w2.heap.size, 0, none⟩ = some (.int .u64 300) := c6
    have HT7 := Lib.hid ((HT5.out.alloc (.cells (([2, 1, 44, 0] : List B8).map bv).toArray 5)).drewN n6)
    rw [hd]
    generalize (w5.alloc (.cells (([2, 1, 44, 0] : List B8).map bv).toArray 5)).drewN n6 = w7 at *
    clear c6 T5 hd
    go_wp2
    go_ret
    exact ⟨rfl, HT7.out⟩
  · exact absurd hx (by rw [show numE [2, 1, 44] = 0 by decide]; exact fun h => hk h.symm)
end Go.Proofs.Ytciohmlobknhlaa
