/- Merged: Merged: The contracts of what is below the pen and the eye: a number's bits, bytes as a number, bytes copied, bytes compared. The contracts of bytes compared (the document's) and of bytes copied (the library's). The contracts of the eye's small methods: an error told, an error there, what is left, bytes taken. The contract of the eye's 'number'. The contracts of the eye's 'Num' and 'Text'. The contract of the eye's 'Id'. The contracts of the pen. The contracts of the pen's 'Text', 'Id' and 'Bytes'. The contracts of 'look' and 'Read': what is done with an eye, and how its panic is caught. The contract of 'Read'. The contracts of the statements' own small reader 'one', and of the document's example. -/
import Derived.Test.YtajdcekkmikbcaaDoorM09
import Derived.Deep.Cut
import Derived.Lib.Strings
import Derived.Lib.Slices
import Derived.Lib.Small
import Derived.Lib.Walk
import Derived.Lib.BitFns
import Derived.Deep.RegionLaw
import Derived.Laws.CopyOwn
import Derived.Maps.AppendAt
import Derived.Deep.AppendLies
import Derived.Defers
import Derived.Recover
import Derived.LaidEqlPtr
namespace Go.Proofs.YtajdcekkmikbcaaDoor
section

section

open Go.RowKit
end
section

open Go.RowKit
end
section
set_option linter.unusedVariables false
set_option linter.unusedSimpArgs false

open Go.RowKit
section
variable {w w' : World} {e E n c y : Nat} {A : Option Addr}
end
end
section
set_option linter.unusedVariables false
set_option linter.unusedSimpArgs false

open Go.RowKit
/- A number read, by definition: the error, the number, what is left. -/
end
section
set_option linter.unusedVariables false

open Go.RowKit
set_option maxRecDepth 100000 in
set_option maxHeartbeats 1000000 in
theorem text_yes (e E : Nat) (N : Nat → Prop) (most : Int) (l : List B8) (w : World) (h : Eye0 w e E N l) (hx : eText most l = 0) (hm : most < 9223372036854775808) :
    Calls Tryd.prog 87 #[.pointer (some ⟨e, 0, none⟩), .int .i64 most] w fun r w' => ∃ v, r = .returned v ∧ w'.ownsRow w.heap.size 5 1 v (numV l) (((numR l).take (numV l)).map bv) ∧ Eye0 w' e E N ((numR l).drop (numV l)) ∧ Turn (fun i => i = e) w w' := by
  unfold eText at hx
  by_cases h1 : numE l ≠ 0
  · rw [if_pos h1] at hx; exact absurd hx h1
  rw [if_neg h1] at hx
  by_cases h2 : most < 0 ∨ most < (numV l : Int)
  · rw [if_pos h2] at hx; cases hx
  rw [if_neg h2] at hx
  by_cases h4 : (numR l).length < numV l
  · rw [if_pos h4] at hx; cases hx
  have T := Lib.hid (number_yes e E N l w h (by omega))
  obtain ⟨m, rfl⟩ : ∃ m : Nat, most = (m : Int) := ⟨most.toNat, by omega⟩
  have h3 : ¬ ((m : Int) < (numV l : Int)) := by omega
  have T2 := Lib.hid (fun w h => take0_yes e E N (numV l) (numR l) w h (by omega))
  have h5 : m < 9223372036854775808 := by omega
  have HL := Lib.hid (show ((numR l).take (numV l)).length = numV l by simp; omega)
  have hlt := h.lt
  clear h hx h1 h2 h4 hm
  generalize numV l = v at *
  generalize numR l = r at *
  go_enter Tryd.func87, Tryd.ntmps87
  go_wp2_with (first
    | (go_at_call 98; refine T.out.mono ?_; rintro q w1 ⟨rfl, he1, ht1⟩; have HE1 := Lib.hid he1; have HT1 := Lib.hid ht1; clear he1 ht1)
    | (go_at_call 100; refine (T2.out _ HE1.out).mono ?_; rintro q w2 ⟨A2, c2, rfl, hs2, hA2, hc2, he2, ht2⟩; have V2 := Lib.hid (clone_at A2 c2 v N _ w2 hs2 HL.out hA2 hc2 (by have := HE1.out.lt; have := congrArg List.length (List.take_append_drop v r); have := HL.out; simp at *; omega)); have HE2 := Lib.hid he2; have HT2 := Lib.hid ht2; clear hs2 hA2 hc2 he2 ht2)
    | (go_at_call 40; refine V2.out.mono ?_; rintro q w3 ⟨v3, rfl, ho3, ht3⟩; have HO3 := Lib.hid ho3; have HT3 := Lib.hid ht3; clear ho3 ht3))
  go_ret
  have s1 := HT1.out.size
  have s2 := HT2.out.size
  have l2 := HE2.out.lt
  exact ⟨v3, rfl, own_more HO3.out (by omega), HE2.out.turn HT3.out (fun h => h) (fun h => h) (fun _ h => h.elim), (HT1.out.trans HT2.out (fun _ _ h => h)).trans HT3.out (fun _ _ h => h.elim)⟩
set_option maxRecDepth 100000 in
set_option maxHeartbeats 1000000 in
theorem text_no (e E : Nat) (N : Nat → Prop) (most : Int) (l : List B8) (w : World) (h : Eye0 w e E N l) (hx : eText most l ≠ 0) (hm : most < 9223372036854775808) (hm2 : -9223372036854775808 ≤ most) :
    Calls Tryd.prog 87 #[.pointer (some ⟨e, 0, none⟩), .int .i64 most] w fun r w' => r = pan E ∧ EyeX w' e E (eText most l) ∧ Turn (fun i => i = e ∨ i = E) w w' := by
  unfold eText at hx ⊢
  by_cases h1 : numE l ≠ 0
  · rw [if_pos h1]
    have T := Lib.hid (number_no e E N l w h h1)
    clear h hx h1
    go_enter Tryd.func87, Tryd.ntmps87
    go_wp2_with (go_at_call 98; refine T.out.mono ?_; rintro q w1 ⟨rfl, he1, ht1⟩; dsimp only [pan]; have HE1 := Lib.hid he1; have HT1 := Lib.hid ht1; clear he1 ht1)
    exact ⟨rfl, rfl, HE1.out, HT1.out⟩
  rw [if_neg h1] at hx ⊢
  have T := Lib.hid (number_yes e E N l w h (by omega))
  by_cases h2 : most < 0 ∨ most < (numV l : Int)
  · rw [if_pos h2]
    have T2 := Lib.hid (fun w h => fail0 e E N 5 (numR l) w h (by decide))
    by_cases h3 : most < 0
    · clear h hx h1 h2
      generalize numV l = v at *
      go_enter Tryd.func87, Tryd.ntmps87
      go_wp2_with (first
        | (go_at_call 98; refine T.out.mono ?_; rintro q w1 ⟨rfl, he1, ht1⟩; have HE1 := Lib.hid he1; have HT1 := Lib.hid ht1; clear he1 ht1)
        | (go_at_call 99; refine (T2.out _ HE1.out).mono ?_; rintro q w2 ⟨rfl, he2, ht2⟩; dsimp only [pan]; have HE2 := Lib.hid he2; have HT2 := Lib.hid ht2; clear he2 ht2))
      exact ⟨rfl, rfl, HE2.out, HT1.out.trans' HT2.out⟩
    · obtain ⟨m, rfl⟩ : ∃ m : Nat, most = (m : Int) := ⟨most.toNat, by omega⟩
      have h3 : ((m : Int) < (numV l : Int)) := by omega
      have h5 : m < 9223372036854775808 := by omega
      clear h hx h1 h2 hm hm2
      generalize numV l = v at *
      go_enter Tryd.func87, Tryd.ntmps87
      go_wp2_with (first
        | (go_at_call 98; refine T.out.mono ?_; rintro q w1 ⟨rfl, he1, ht1⟩; have HE1 := Lib.hid he1; have HT1 := Lib.hid ht1; clear he1 ht1)
        | (go_at_call 99; refine (T2.out _ HE1.out).mono ?_; rintro q w2 ⟨rfl, he2, ht2⟩; dsimp only [pan]; have HE2 := Lib.hid he2; have HT2 := Lib.hid ht2; clear he2 ht2))
      exact ⟨rfl, rfl, HE2.out, HT1.out.trans' HT2.out⟩
  rw [if_neg h2] at hx ⊢
  by_cases h4 : (numR l).length < numV l
  · rw [if_pos h4]
    obtain ⟨m, rfl⟩ : ∃ m : Nat, most = (m : Int) := ⟨most.toNat, by omega⟩
    have h3 : ¬ ((m : Int) < (numV l : Int)) := by omega
    have T2 := Lib.hid (fun w h => take0_no e E N (numV l) (numR l) w h h4)
    have h5 : m < 9223372036854775808 := by omega
    clear h hx h1 h2 h4 hm hm2
    generalize numV l = v at *
    go_enter Tryd.func87, Tryd.ntmps87
    go_wp2_with (first
      | (go_at_call 98; refine T.out.mono ?_; rintro q w1 ⟨rfl, he1, ht1⟩; have HE1 := Lib.hid he1; have HT1 := Lib.hid ht1; clear he1 ht1)
      | (go_at_call 100; refine (T2.out _ HE1.out).mono ?_; rintro q w2 ⟨rfl, he2, ht2⟩; dsimp only [pan]; have HE2 := Lib.hid he2; have HT2 := Lib.hid ht2; clear he2 ht2))
    exact ⟨rfl, rfl, HE2.out, HT1.out.trans' HT2.out⟩
  · rw [if_neg h4] at hx; exact absurd rfl hx

end
section
set_option linter.unusedVariables false

open Go.RowKit
end
section
set_option linter.unusedVariables false

open Go.RowKit
end
section
set_option linter.unusedVariables false

open Go.RowKit
set_option maxRecDepth 100000 in
set_option maxHeartbeats 1000000 in
theorem ptext_any (p B : Nat) (v : Value) (xs b : List B8) (A : Option Addr) (c : Nat) (w : World) (h : PenAt w p B v xs) (hs : SlN w (fun i => i = p ∨ some i = v.ownBlock) A (b.map bv)) (hA : A = none → c = 0) (hc : b.length ≤ c) (hlen : xs.length + 9 + b.length ≤ 1099511627776) :
    Calls Tryd.prog 62 #[.pointer (some ⟨p, 0, none⟩), .slice A b.length c] w fun r w' => r = .returned (.tuple #[]) ∧ ∃ v', PenAt w' p B v' (xs ++ (numB b.length ++ b)) ∧ PenStep w w' p v v' := by
  obtain ⟨i0, hi, hz0, hz1, hz2⟩ := info_parts info_u8
  have T := Lib.hid (pnum_any p B v xs b.length w h (by omega) (by omega))
  have hb64 : b.length < 9223372036854775808 := by omega
  have hnl := numB_le (n := b.length) (by omega)
  have HH := Lib.hid h
  have HS := Lib.hid hs
  clear h hs
  go_enter Tryd.func62, Tryd.ntmps62
  go_upto_region 1 with (go_at_call 61; refine T.out.mono ?_; rintro r w1 ⟨rfl, v1, hp1, hst1⟩; have HP1 := Lib.hid hp1; have HS1 := Lib.hid hst1; obtain ⟨c1, z1⟩ := hp1.cell; clear hp1 hst1)
  go_step
  iterate 18 go_step
  refine wpList_append_any_at (o := ⟨some 15, _, _, _, _, _⟩) rfl _ _ 36 rfl B 5 i0 (.int .u8 0) 1 Tryd.underlying36 hi hz0 hz1 hz2 rfl v1 (xs ++ numB b.length).length ((xs ++ numB b.length).map bv) rfl HP1.out.2.1 A b.length c (b.map bv) rfl hA (by simp) ?_ (bv_one b) ?_ ?_ ?_ ?_
  · intro j u hu
    have hs1 := HS.out.turn HS1.out.1 (N' := fun _ => False) (fun _ h => h) (fun _ _ h => h.elim)
    obtain ⟨ad, e, -, hc⟩ := hs1 j u hu
    exact ⟨ad, e, hc⟩
  · unfold maxLen; simp; omega
  · simp; omega
  · exact HP1.out.2.2.2
  intro v2 w2 own2 gr2 at2
  have hps := pen_store (ys := b) HP1.out (Turn.refl _ _) own2 gr2 (at2.imp id (fun e => ⟨_, e, Nat.le_refl _⟩))
  obtain ⟨c2, z2⟩ := pen_cell HP1.out (Turn.refl _ _) gr2
  obtain ⟨A2, n2, rfl, -⟩ := own_sl own2
  rw [List.length_append] at hps
  have HPS := Lib.hid hps
  clear own2 gr2 at2 hps c1 z1
  go_wp2
  first | go_end0 | refine bodyPost_ret (results_none rfl _ _ _) rfl ?_
  exact ⟨rfl, _, by rw [← List.append_assoc]; exact HPS.out.1, HS1.out.trans HPS.out.2⟩
end
section
set_option linter.unusedVariables false

open Go.RowKit
end
section
set_option linter.unusedVariables false

open Go.RowKit
end
section
set_option linter.unusedVariables false

open Go.RowKit
end
end
end Go.Proofs.YtajdcekkmikbcaaDoor
