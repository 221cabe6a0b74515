/- Merged: What is read of a certificate's form. Merged: The contracts of what is below the pen and the eye: a number's bits, bytes as a number, bytes copied, bytes compared. The contracts of bytes compared (the document's) and of bytes copied (the library's). The contracts of the eye's small methods: an error told, an error there, what is left, bytes taken. The contract of the eye's 'number'. The contracts of the eye's 'Num' and 'Text'. The contract of the eye's 'Id'. The contracts of the pen. The contracts of the pen's 'Text', 'Id' and 'Bytes'. The contracts of 'look' and 'Read': what is done with an eye, and how its panic is caught. The contract of 'Read'. The contracts of the statements' own small reader 'one', and of the document's example. 'readPath' of certificates: its contract. The landed 'Put' of certificates. -/
import Derived.Test.YthoaaieiiokcmaaGreatDoorM27
import Derived.Test.YthoaaieiiokcmaaGreatDoorM30
import Derived.Test.YthoaaieiiokcmaaGreatDoorM28
import Derived.Test.YthoaaieiiokcmaaGreatDoorM03
import Derived.Deep.Cut
import Derived.Lib.Strings
import Derived.Lib.Slices
import Derived.Lib.Small
import Derived.Lib.Walk
import Derived.Lib.BitFns
import Derived.Deep.RegionLaw
import Derived.Laws.CopyOwn
import Derived.Maps.AppendAt
import Derived.Deep.AppendLies
import Derived.Defers
import Derived.Recover
import Derived.LaidEqlPtr
import Derived.OwnWalk
import Derived.Test.YthoaaieiiokcmaaGreatDoorM23
import Derived.OpenShut
import Derived.ChangeSlices
import Derived.WideOpen
import Derived.Test.YthoaaieiiokcmaaGreatDoorM19
import Derived.Test.YthoaaieiiokcmaaGreatDoorM09
import Derived.Test.YthoaaieiiokcmaaGreatDoorM04
namespace Go.Proofs.YthoaaieiiokcmaaGreatDoor
section
set_option linter.unusedVariables false
set_option linter.unusedSimpArgs false
theorem pE_le (e : Ent) (hd : e.d.length = 32) : (pE e).length ≤ 100 := by
  unfold pE; split
  · exact ent_le e hd (by assumption)
  · simp
theorem readCE_zero {b : List B8} (h : readCE b = 0) : readE (rrE b) = 0 ∧ hreadE (rrH b) = 0 ∧ readCV b = ⟨readV (rrE b), hreadV (rrH b), (rr4 b).take 32, rrI b (rrN b)⟩ := by
  have hv : readCV b = ⟨readV (rrE b), hreadV (rrH b), (rr4 b).take 32, rrI b (rrN b)⟩ := by unfold readCV; rw [if_neg (fun k => k h)]
  unfold readCE at h
  by_cases c1 : sE (tF 1 100) b ≠ 0
  · rw [if_pos c1] at h; exact absurd h c1
  rw [if_neg c1] at h
  by_cases c2 : sE (tF 0 32) (rr1 b) ≠ 0
  · rw [if_pos c2] at h; exact absurd h c2
  rw [if_neg c2] at h
  by_cases c3 : (rr2 b).length < 32 * rrN b
  · rw [if_pos c3] at h; cases h
  rw [if_neg c3] at h
  by_cases c4 : sE (tF 1 100) (rr3 b) ≠ 0
  · rw [if_pos c4] at h; exact absurd h c4
  rw [if_neg c4] at h
  by_cases c5 : (rr4 b).length < 32
  · rw [if_pos c5] at h; cases h
  rw [if_neg c5] at h
  by_cases c6 : rr5 b ≠ []
  · rw [if_pos c6] at h; cases h
  rw [if_neg c6] at h
  by_cases c7 : readE (rrE b) ≠ 0
  · rw [if_pos c7] at h; exact absurd h c7
  rw [if_neg c7] at h
  exact ⟨Decidable.byContradiction c7, h, hv⟩
theorem rrI_each (b : List B8) (k : Nat) (h : 32 * k ≤ (rr2 b).length) : ∀ d ∈ rrI b k, d.length = 32 := by
  generalize hl : rr2 b = l at h
  intro d hd
  unfold rrI at hd
  rw [hl] at hd
  simp only [List.mem_map, List.mem_range] at hd
  obtain ⟨i, hi, rfl⟩ := hd
  rw [List.length_take, List.length_drop]
  omega
theorem rrN_le {b : List B8} (h : sE (tF 0 32) (rr1 b) = 0) : rrN b ≤ 32 := by
  unfold rrN
  generalize rr1 b = l at *
  exact (eNum_le (m := 32) (l := l) h).1
theorem readCV_L (b : List B8) : (readCV b).L ∧ (readCV b).ids.length ≤ 32 := by
  by_cases h : readCE b = 0
  · obtain ⟨-, -, hv⟩ := readCE_zero h
    unfold readCE at h
    by_cases c1 : sE (tF 1 100) b ≠ 0
    · rw [if_pos c1] at h; exact absurd h c1
    rw [if_neg c1] at h
    by_cases c2 : sE (tF 0 32) (rr1 b) ≠ 0
    · rw [if_pos c2] at h; exact absurd h c2
    rw [if_neg c2] at h
    by_cases c3 : (rr2 b).length < 32 * rrN b
    · rw [if_pos c3] at h; cases h
    rw [if_neg c3] at h
    by_cases c4 : sE (tF 1 100) (rr3 b) ≠ 0
    · rw [if_pos c4] at h; exact absurd h c4
    rw [if_neg c4] at h
    by_cases c5 : (rr4 b).length < 32
    · rw [if_pos c5] at h; cases h
    have h2 : sE (tF 0 32) (rr1 b) = 0 := Decidable.byContradiction c2
    have hn := rrN_le h2
    rw [hv]
    have h4 : ((rr4 b).take 32).length = 32 := by rw [List.length_take]; exact Nat.min_eq_left (Nat.le_of_not_lt c5)
    have h3 : 32 * rrN b ≤ (rr2 b).length := Nat.le_of_not_lt c3
    clear hv h h2 c1 c2 c3 c4 c5
    have hh : (hreadV (rrH b)).L := hreadV_L _
    have he : (readV (rrE b)).d.length = 32 := readV_d _
    have hi := rrI_each b (rrN b) h3
    have hl : (rrI b (rrN b)).length ≤ 32 := by rw [rrI_len]; exact hn
    clear h3 hn
    generalize hreadV (rrH b) = H at *
    generalize readV (rrE b) = E at *
    generalize rrI b (rrN b) = I at *
    generalize (rr4 b).take 32 = T at *
    exact ⟨⟨he, hh, h4, hi⟩, hl⟩
  · have hv : readCV b = CZ := by unfold readCV; rw [if_pos h]
    rw [hv]
    exact ⟨CZ_L, by simp [CZ]⟩
end
section

section

open Go.RowKit
end
section

open Go.RowKit
end
section
set_option linter.unusedVariables false
set_option linter.unusedSimpArgs false

open Go.RowKit
section
variable {w w' : World} {e E n c y : Nat} {A : Option Addr}
end
end
section
set_option linter.unusedVariables false
set_option linter.unusedSimpArgs false

open Go.RowKit
/- A number read, by definition: the error, the number, what is left. -/
end
section
set_option linter.unusedVariables false

open Go.RowKit
set_option maxRecDepth 100000 in
set_option maxHeartbeats 1000000 in
theorem text_yes (e E : Nat) (N : Nat → Prop) (most : Int) (l : List B8) (w : World) (h : Eye0 w e E N l) (hx : eText most l = 0) (hm : most < 9223372036854775808) :
    Calls Tryz.prog 69 #[.pointer (some ⟨e, 0, none⟩), .int .i64 most] w fun r w' => ∃ v, r = .returned v ∧ w'.ownsRow w.heap.size 5 1 v (numV l) (((numR l).take (numV l)).map bv) ∧ Eye0 w' e E N ((numR l).drop (numV l)) ∧ Turn (fun i => i = e) w w' := by
  unfold eText at hx
  by_cases h1 : numE l ≠ 0
  · rw [if_pos h1] at hx; exact absurd hx h1
  rw [if_neg h1] at hx
  by_cases h2 : most < 0 ∨ most < (numV l : Int)
  · rw [if_pos h2] at hx; cases hx
  rw [if_neg h2] at hx
  by_cases h4 : (numR l).length < numV l
  · rw [if_pos h4] at hx; cases hx
  have T := Lib.hid (number_yes e E N l w h (by omega))
  obtain ⟨m, rfl⟩ : ∃ m : Nat, most = (m : Int) := ⟨most.toNat, by omega⟩
  have h3 : ¬ ((m : Int) < (numV l : Int)) := by omega
  have T2 := Lib.hid (fun w h => take0_yes e E N (numV l) (numR l) w h (by omega))
  have h5 : m < 9223372036854775808 := by omega
  have HL := Lib.hid (show ((numR l).take (numV l)).length = numV l by simp; omega)
  have hlt := h.lt
  clear h hx h1 h2 h4 hm
  generalize numV l = v at *
  generalize numR l = r at *
  go_enter Tryz.func69, Tryz.ntmps69
  go_wp2_with (first
    | (go_at_call 94; refine T.out.mono ?_; rintro q w1 ⟨rfl, he1, ht1⟩; have HE1 := Lib.hid he1; have HT1 := Lib.hid ht1; clear he1 ht1)
    | (go_at_call 95; refine (T2.out _ HE1.out).mono ?_; rintro q w2 ⟨A2, c2, rfl, hs2, hA2, hc2, he2, ht2⟩; have V2 := Lib.hid (clone_at A2 c2 v N _ w2 hs2 HL.out hA2 hc2 (by have := HE1.out.lt; have := congrArg List.length (List.take_append_drop v r); have := HL.out; simp at *; omega)); have HE2 := Lib.hid he2; have HT2 := Lib.hid ht2; clear hs2 hA2 hc2 he2 ht2)
    | (go_at_call 41; refine V2.out.mono ?_; rintro q w3 ⟨v3, rfl, ho3, ht3⟩; have HO3 := Lib.hid ho3; have HT3 := Lib.hid ht3; clear ho3 ht3))
  go_ret
  have s1 := HT1.out.size
  have s2 := HT2.out.size
  have l2 := HE2.out.lt
  exact ⟨v3, rfl, own_more HO3.out (by omega), HE2.out.turn HT3.out (fun h => h) (fun h => h) (fun _ h => h.elim), (HT1.out.trans HT2.out (fun _ _ h => h)).trans HT3.out (fun _ _ h => h.elim)⟩
set_option maxRecDepth 100000 in
set_option maxHeartbeats 1000000 in
theorem text_no (e E : Nat) (N : Nat → Prop) (most : Int) (l : List B8) (w : World) (h : Eye0 w e E N l) (hx : eText most l ≠ 0) (hm : most < 9223372036854775808) (hm2 : -9223372036854775808 ≤ most) :
    Calls Tryz.prog 69 #[.pointer (some ⟨e, 0, none⟩), .int .i64 most] w fun r w' => r = pan E ∧ EyeX w' e E (eText most l) ∧ Turn (fun i => i = e ∨ i = E) w w' := by
  unfold eText at hx ⊢
  by_cases h1 : numE l ≠ 0
  · rw [if_pos h1]
    have T := Lib.hid (number_no e E N l w h h1)
    clear h hx h1
    go_enter Tryz.func69, Tryz.ntmps69
    go_wp2_with (go_at_call 94; refine T.out.mono ?_; rintro q w1 ⟨rfl, he1, ht1⟩; dsimp only [pan]; have HE1 := Lib.hid he1; have HT1 := Lib.hid ht1; clear he1 ht1)
    exact ⟨rfl, rfl, HE1.out, HT1.out⟩
  rw [if_neg h1] at hx ⊢
  have T := Lib.hid (number_yes e E N l w h (by omega))
  by_cases h2 : most < 0 ∨ most < (numV l : Int)
  · rw [if_pos h2]
    have T2 := Lib.hid (fun w h => fail0 e E N 5 (numR l) w h (by decide))
    by_cases h3 : most < 0
    · clear h hx h1 h2
      generalize numV l = v at *
      go_enter Tryz.func69, Tryz.ntmps69
      go_wp2_with (first
        | (go_at_call 94; refine T.out.mono ?_; rintro q w1 ⟨rfl, he1, ht1⟩; have HE1 := Lib.hid he1; have HT1 := Lib.hid ht1; clear he1 ht1)
        | (go_at_call 72; refine (T2.out _ HE1.out).mono ?_; rintro q w2 ⟨rfl, he2, ht2⟩; dsimp only [pan]; have HE2 := Lib.hid he2; have HT2 := Lib.hid ht2; clear he2 ht2))
      exact ⟨rfl, rfl, HE2.out, HT1.out.trans' HT2.out⟩
    · obtain ⟨m, rfl⟩ : ∃ m : Nat, most = (m : Int) := ⟨most.toNat, by omega⟩
      have h3 : ((m : Int) < (numV l : Int)) := by omega
      have h5 : m < 9223372036854775808 := by omega
      clear h hx h1 h2 hm hm2
      generalize numV l = v at *
      go_enter Tryz.func69, Tryz.ntmps69
      go_wp2_with (first
        | (go_at_call 94; refine T.out.mono ?_; rintro q w1 ⟨rfl, he1, ht1⟩; have HE1 := Lib.hid he1; have HT1 := Lib.hid ht1; clear he1 ht1)
        | (go_at_call 72; refine (T2.out _ HE1.out).mono ?_; rintro q w2 ⟨rfl, he2, ht2⟩; dsimp only [pan]; have HE2 := Lib.hid he2; have HT2 := Lib.hid ht2; clear he2 ht2))
      exact ⟨rfl, rfl, HE2.out, HT1.out.trans' HT2.out⟩
  rw [if_neg h2] at hx ⊢
  by_cases h4 : (numR l).length < numV l
  · rw [if_pos h4]
    obtain ⟨m, rfl⟩ : ∃ m : Nat, most = (m : Int) := ⟨most.toNat, by omega⟩
    have h3 : ¬ ((m : Int) < (numV l : Int)) := by omega
    have T2 := Lib.hid (fun w h => take0_no e E N (numV l) (numR l) w h h4)
    have h5 : m < 9223372036854775808 := by omega
    clear h hx h1 h2 h4 hm hm2
    generalize numV l = v at *
    go_enter Tryz.func69, Tryz.ntmps69
    go_wp2_with (first
      | (go_at_call 94; refine T.out.mono ?_; rintro q w1 ⟨rfl, he1, ht1⟩; have HE1 := Lib.hid he1; have HT1 := Lib.hid ht1; clear he1 ht1)
      | (go_at_call 95; refine (T2.out _ HE1.out).mono ?_; rintro q w2 ⟨rfl, he2, ht2⟩; dsimp only [pan]; have HE2 := Lib.hid he2; have HT2 := Lib.hid ht2; clear he2 ht2))
    exact ⟨rfl, rfl, HE2.out, HT1.out.trans' HT2.out⟩
  · rw [if_neg h4] at hx; exact absurd rfl hx

end
section
set_option linter.unusedVariables false

open Go.RowKit
end
section
set_option linter.unusedVariables false

open Go.RowKit
end
section
set_option linter.unusedVariables false

open Go.RowKit
set_option maxRecDepth 100000 in
set_option maxHeartbeats 1000000 in
theorem ptext_any (p B : Nat) (v : Value) (xs b : List B8) (A : Option Addr) (c : Nat) (w : World) (h : PenAt w p B v xs) (hs : SlN w (fun i => i = p ∨ some i = v.ownBlock) A (b.map bv)) (hA : A = none → c = 0) (hc : b.length ≤ c) (hlen : xs.length + 9 + b.length ≤ 1099511627776) :
    Calls Tryz.prog 24 #[.pointer (some ⟨p, 0, none⟩), .slice A b.length c] w fun r w' => r = .returned (.tuple #[]) ∧ ∃ v', PenAt w' p B v' (xs ++ (numB b.length ++ b)) ∧ PenStep w w' p v v' := by
  obtain ⟨i0, hi, hz0, hz1, hz2⟩ := info_parts info_u8
  have T := Lib.hid (pnum_any p B v xs b.length w h (by omega) (by omega))
  have hb64 : b.length < 9223372036854775808 := by omega
  have hnl := numB_le (n := b.length) (by omega)
  have HH := Lib.hid h
  have HS := Lib.hid hs
  clear h hs
  go_enter Tryz.func24, Tryz.ntmps24
  go_upto_region 1 with (go_at_call 25; refine T.out.mono ?_; rintro r w1 ⟨rfl, v1, hp1, hst1⟩; have HP1 := Lib.hid hp1; have HS1 := Lib.hid hst1; obtain ⟨c1, z1⟩ := hp1.cell; clear hp1 hst1)
  go_step
  iterate 18 go_step
  refine wpList_append_any_at (o := ⟨some 15, _, _, _, _, _⟩) rfl _ _ 22 rfl B 5 i0 (.int .u8 0) 1 Tryz.underlying22 hi hz0 hz1 hz2 rfl v1 (xs ++ numB b.length).length ((xs ++ numB b.length).map bv) rfl HP1.out.2.1 A b.length c (b.map bv) rfl hA (by simp) ?_ (bv_one b) ?_ ?_ ?_ ?_
  · intro j u hu
    have hs1 := HS.out.turn HS1.out.1 (N' := fun _ => False) (fun _ h => h) (fun _ _ h => h.elim)
    obtain ⟨ad, e, -, hc⟩ := hs1 j u hu
    exact ⟨ad, e, hc⟩
  · unfold maxLen; simp; omega
  · simp; omega
  · exact HP1.out.2.2.2
  intro v2 w2 own2 gr2 at2
  have hps := pen_store (ys := b) HP1.out (Turn.refl _ _) own2 gr2 (at2.imp id (fun e => ⟨_, e, Nat.le_refl _⟩))
  obtain ⟨c2, z2⟩ := pen_cell HP1.out (Turn.refl _ _) gr2
  obtain ⟨A2, n2, rfl, -⟩ := own_sl own2
  rw [List.length_append] at hps
  have HPS := Lib.hid hps
  clear own2 gr2 at2 hps c1 z1
  go_wp2
  first | go_end0 | refine bodyPost_ret (results_none rfl _ _ _) rfl ?_
  exact ⟨rfl, _, by rw [← List.append_assoc]; exact HPS.out.1, HS1.out.trans HPS.out.2⟩
end
section
set_option linter.unusedVariables false

open Go.RowKit
end
section
set_option linter.unusedVariables false

open Go.RowKit
end
section
set_option linter.unusedVariables false

open Go.RowKit
end
end
section
set_option linter.unusedVariables false
set_option linter.unusedSimpArgs false
open Go.RowKit
attribute [local go_sem ↓] loadAt_id
attribute [local go_sem] run_idLoad rowOf_drew rowOf_drewN
section
variable {w w' : World} {T : Nat → Prop}
set_option maxRecDepth 100000 in
theorem there_turn {g o n : Nat} (h : w.there g o n) (t : Turn T w w') (hg : ¬ T g) : w'.there g o n := fun j hj => by
  obtain ⟨h1, h2⟩ := h j hj
  obtain ⟨v, hv⟩ := Option.isSome_iff_exists.1 h1
  have hb := t.block g (World.block_lt_of_cell? w _ hv) hg
  refine ⟨?_, ?_⟩
  · rw [World.cell?_of_block hb]; exact h1
  · rw [World.frozen?_of_block hb]; exact h2
end
theorem Turn.range {S : Nat → Prop} {w w' : World} {g o : Nat} {cs : List Value} (t : Turn S w w') (h : w.rangeAt g o cs) (hn : ¬ S g) : w'.rangeAt g o cs := fun j v hj => t.cell (h j v hj) hn
set_option maxRecDepth 100000 in
theorem own_there {w : World} {B n s g c : Nat} {e : TypeId} {xs : List Value} (h : w.ownsRow B e s (.slice (some ⟨g, 0, none⟩) n c) n xs) : w.there g 0 (n * s) := by
  rcases h.2 with ⟨e, -⟩ | ⟨g', cap, cur, e, hB, hg, hc, hm, hcs, ht⟩
  · cases e
  · injection e with e1 e2 e3
    injection e1 with e1
    injection e1 with e1
    subst e1
    exact there_lay hg _ (by rw [hcs]; exact Nat.mul_le_mul_right _ hc)
/-- The cells of a row below a place are as they were. -/
def KeepLo (w w' : World) (G lo : Nat) : Prop := ∀ o v, o < lo → w.cell? ⟨G, o, none⟩ = some v → w'.cell? ⟨G, o, none⟩ = some v
theorem KeepLo.trans {a b c : World} {G lo : Nat} (h : KeepLo a b G lo) (k : KeepLo b c G lo) : KeepLo a c G lo := fun o v ho hv => k o v ho (h o v ho hv)
theorem KeepLo.turn {a b : World} {G lo : Nat} {S : Nat → Prop} (t : Turn S a b) (hS : ¬ S G) : KeepLo a b G lo := fun o v _ hv => t.cell hv hS
theorem KeepLo.setCells (w : World) (G o : Nat) (vs : List Value) : KeepLo w (w.setCells G o vs) G o := fun o' u ho hu => by
  rw [World.cell?_setCells_out G vs o w ⟨G, o', none⟩ (fun _ _ => .inl ho)]; exact hu
theorem KeepLo.range {a b : World} {G lo o : Nat} {cs : List Value} (h : KeepLo a b G lo) (hr : a.rangeAt G o cs) (hl : o + cs.length ≤ lo) : b.rangeAt G o cs := fun j v hj => h _ _ (by have := (List.getElem?_eq_some_iff.1 hj).1; omega) (hr j v hj)
/-- What reading a path comes to: its error, its digests, the rest. -/
def pthE (l : List B8) : Nat := if eNum 32 l ≠ 0 then eNum 32 l else if (numR l).length < 32 * numV l then 2 else 0
def idk (l : List B8) (i : Nat) : List B8 := (l.drop (32 * i)).take 32
def pthV (l : List B8) : List (List B8) := (List.range (numV l)).map (idk (numR l))
def pthR (l : List B8) : List B8 := (numR l).drop (32 * numV l)
def PthPost (e E : Nat) (N : Nat → Prop) (l : List B8) (w : World) (r : Ending) (w' : World) : Prop :=
  (pthE l = 0 ∧ ∃ G, r = .returned (.slice (some ⟨G, 0, none⟩) (numV l) (numV l)) ∧ w.heap.size ≤ G ∧ IdsAt w' (some ⟨G, 0, none⟩) (pthV l) ∧ Eye0 w' e E N (pthR l) ∧ Turn (fun i => i = e) w w') ∨
  (pthE l ≠ 0 ∧ r = pan E ∧ EyeX w' e E (pthE l) ∧ Turn (fun i => i = e ∨ i = E) w w')
set_option maxRecDepth 100000 in
theorem pth_no {e E G : Nat} {N : Nat → Prop} {l : List B8} {w w2 wj w' : World} {x : Nat} (hX : pthE l = x) (hx : x ≠ 0) (he : EyeX w' e E x) (t2 : Turn (fun i => i = e) w w2) (t3 : Turn (fun i => i = e ∨ i = G) w2 wj) (t4 : Turn (fun i => i = e ∨ i = E) wj w') (hG : w.heap.size ≤ G) : PthPost e E N l w (pan E) w' := by
  refine Or.inr ⟨by rw [hX]; exact hx, rfl, by rw [hX]; exact he, ?_⟩
  exact ((t2.mono (fun _ _ h => .inl h)).trans t3 (fun i hi h => by rcases h with h | h; exact .inl h; omega)).trans t4 (fun _ _ h => h)
set_option maxRecDepth 100000 in
set_option maxHeartbeats 4000000 in
theorem readPath_any (e E : Nat) (N : Nat → Prop) (l : List B8) (w : World) (h : Eye0 w e E N l) (hN : ∀ i, w.heap.size ≤ i → N i) :
    Calls Tryz.prog 70 #[.pointer (some ⟨e, 0, none⟩)] w (PthPost e E N l w) := by
  obtain ⟨i0, hi, hz0, hz1, hz2⟩ := info_parts info_idT
  obtain ⟨hle, hlE, hne, hNe, hNE, hll⟩ := h.lt
  by_cases hx : eNum 32 l = 0
  · have T0 := Lib.hid (num_yes e E N 32 l w h hx)
    have hnv : numV l ≤ 32 := by unfold eNum at hx; split at hx <;> (try split at hx) <;> omega
    have HX := Lib.hid (show pthE l = if (numR l).length < 32 * numV l then 2 else 0 by unfold pthE; rw [if_neg (by omega)])
    have HV := Lib.hid (show pthV l = (List.range (numV l)).map (idk (numR l)) from rfl)
    have HR := Lib.hid (show pthR l = (numR l).drop (32 * numV l) from rfl)
    have HN := Lib.hid hN
    obtain ⟨n, hn⟩ : ∃ n, n = numV l := ⟨_, rfl⟩
    rw [← hn] at T0 HX HV HR hnv
    have HNN := Lib.hid hn
    clear h hN hx hn
    generalize numR l = l1 at *
    go_enter Tryz.func70, Tryz.ntmps70
    go_wp2_with fail
    refine T0.out.mono ?_
    rintro r w1 ⟨rfl, he1, ht1⟩
    have HE1 := Lib.hid he1
    have HT1 := Lib.hid ht1
    clear he1 ht1 T0
    go_wp2_with (at_make; refine wpList_make_full _ rfl _ _ 31 rfl w1.heap.size 24 i0 (.agg ZIdT) 32 Tryz.underlying31 hi hz0 hz1 _ _ _ _ n rfl rfl rfl rfl ?b2 ?b3 ?b4 ?_)
    case b2 => rw [hz2]; omega
    case b3 => unfold maxLen; omega
    case b4 => simp
    intro w2 hown2 hgrow2
    have HTH := Lib.hid (own_there hown2)
    have ht2 : Turn (fun _ => False) w1 w2 := (Turn.refl _ w1).grown hgrow2 (fun _ _ e => by cases e)
    have HGlt := Lib.hid (show w1.heap.size < w2.heap.size from by
      rcases hown2.2 with ⟨e, -⟩ | ⟨g', cap, cur, e, hB, hg, -⟩
      · cases e
      · injection e with e1 e2 e3
        injection e1 with e1
        injection e1 with e1
        rw [e1]; exact lt_of_block hg)
    have HE2 := Lib.hid (HE1.out.turn ht2 (fun h => h) (fun h => h) (fun _ h => h.elim))
    have HT2 := Lib.hid (HT1.out.trans ht2 (fun _ _ h => h.elim))
    have HS1 := Lib.hid HT1.out.size
    clear hown2 hgrow2 ht2 HE1 HT1
    generalize w1.heap.size = G at *
    go_wp2
    go_loopw [10] (fun i wr => ∃ k : Nat, k ≤ n ∧ i = .int .i64 k ∧ 32 * k ≤ l1.length ∧ wr.there G 0 (n * 32) ∧ (∀ i, i < k → wr.rangeAt G (i * 32) ((idk l1 i).map bv)) ∧ Eye0 wr e E N (l1.drop (32 * k)) ∧ Turn (fun i => i = e ∨ i = G) w2 wr) (fun i _ => n - (intOf i).toNat)
    case atStart => exact ⟨0, Nat.zero_le _, rfl, by omega, HTH.out, (fun i hi => by omega), by simpa using HE2.out, Turn.refl _ _⟩
    case round =>
      clear HTH HE2
      obtain ⟨k, hk, rfl, h0, hth, hrow, he, ht⟩ := hrel
      by_cases hlt : k < n
      · obtain ⟨lk, hlk⟩ : ∃ lk, lk = l1.drop (32 * k) := ⟨_, rfl⟩
        have HLK := Lib.hid (show lk.length = l1.length - 32 * k by rw [hlk, List.length_drop])
        have HNX := Lib.hid (show lk.drop 32 = l1.drop (32 * (k + 1)) by rw [hlk, List.drop_drop, show 32 * (k + 1) = 32 * k + 32 by omega])
        have HIK := Lib.hid (show lk.take 32 = idk l1 k by rw [hlk]; rfl)
        rw [← hlk] at he
        have HRW := Lib.hid hrow
        have HTR := Lib.hid ht
        have HTH := Lib.hid hth
        have HNG := Lib.hid (show N G from HN.out G HS1.out)
        have hGe : G ≠ e ∧ G ≠ E := by have := HS1.out; omega
        have hGw : G < wr.heap.size := by have := ht.size; have := HGlt.out; omega
        clear hrow ht hlk hth
        by_cases h32 : lk.length < 32
        · have T := Lib.hid (id_no e E N lk wr he h32)
          have hz := Lib.hid (show pthE l = 2 by rw [HX.out, if_pos (by have := HLK.out; omega)])
          clear he
          go_wp2_with (go_at_call 71; refine T.out.mono ?_; rintro r w3 ⟨rfl, he3, ht3⟩; dsimp only [pan]; have HE3 := Lib.hid he3; have HT3 := Lib.hid ht3; clear he3 ht3)
          exact ⟨rfl, pth_no hz.out (by decide) HE3.out HT2.out HTR.out HT3.out HS1.out⟩
        · have T := Lib.hid (id_yes e E N lk wr he (by omega))
          obtain ⟨D, hD⟩ : ∃ D, D = ((lk.take 32).map bv).toArray := ⟨_, rfl⟩
          have hd32 : (lk.take 32).length = 32 := by rw [List.length_take]; omega
          have sD : D.size = 32 := by rw [hD]; simp; omega
          rw [← hD] at T
          have H1 := Lib.hid (show (Tryz.prog.info? 24).map (·.size) = some D.size by rw [sD]; kernel_rfl)
          have H3 := Lib.hid (show D.all (·.oneCell') = true by rw [hD]; exact all_oneCell_toArray (bv_one _))
          have HD := Lib.hid hD
          have HSD := Lib.hid sD
          have HD32 := Lib.hid hd32
          clear he hD sD hd32
          go_wp2_with fail
          refine T.out.mono ?_
          rintro r w3 ⟨rfl, he3, ht3⟩
          have hth3 := there_turn HTH.out ht3 hGe.1
          have HTS := Lib.hid (show w3.there G (k * 32) D.size by rw [HSD.out]; exact there_sub hth3 _ _ (by omega))
          have HTH3 := Lib.hid hth3
          have HE3 := Lib.hid he3
          have HT3 := Lib.hid ht3
          clear he3 ht3 hth3 T
          go_wp2_with (refine wpList_store_mid rfl _ _ _ rfl G (k * 32) D rfl rfl HTS.out H1.out H3.out ?_; refine stop ?_)
          unfold Stop
          obtain ⟨w4, hw4⟩ : ∃ w4, w4 = w3.setCells G (k * 32) D.toList := ⟨_, rfl⟩
          have hr4 : w4.rangeAt G (k * 32) ((lk.take 32).map bv) := by
            rw [hw4]
            have h := World.rangeAt_setCells_same w3 G (k * 32) D.toList (by simpa using HTS.out)
            rw [HD.out] at h ⊢
            simpa using h
          have HR4 := Lib.hid hr4
          have HTH4 := Lib.hid (show w4.there G 0 (n * 32) by rw [hw4]; exact World.there_setCells HTH3.out _ _ _)
          have HK4 := Lib.hid (show KeepLo wr w4 G (k * 32) by rw [hw4]; exact (KeepLo.turn HT3.out hGe.1).trans (KeepLo.setCells _ _ _ _))
          have ht4 : Turn (fun i => i = G) w3 w4 := by rw [hw4]; exact Turn.setCells (S := fun i => i = G) G (fun _ => rfl) _ _ _ (Turn.refl _ _)
          have HT4 := Lib.hid (show Turn (fun i => i = e ∨ i = G) wr w4 from (HT3.out.mono (fun _ _ h => .inl h)).trans ht4 (fun _ _ h => .inr h))
          have HE4 := Lib.hid (HE3.out.turn ht4 (fun h => hGe.1 h.symm) (fun h => hGe.2 h.symm) (fun i h => by rw [h]; exact HNG.out))
          rw [← hw4]
          clear hw4 hr4 ht4 HTS HTH3 HE3 HTH
          go_wp2
          go_roundw
          case rel =>
            refine ⟨k + 1, by omega, by go_num, by have := HLK.out; omega, HTH4.out, ?_, by rw [← HNX.out]; exact HE4.out, HTR.out.trans HT4.out (fun _ _ h => h)⟩
            intro i hi
            by_cases hik : i < k
            · have hl : (idk l1 i).length ≤ 32 := by unfold idk; rw [List.length_take]; omega
              exact HK4.out.range (HRW.out i hik) (by rw [List.length_map]; omega)
            · obtain rfl : i = k := by omega
              rw [← HIK.out]; exact HR4.out
          case measure => simp [intOf]; omega
      · obtain rfl : k = n := by omega
        have HRW := Lib.hid hrow
        have HE := Lib.hid he
        have HT := Lib.hid ht
        have H0 := Lib.hid h0
        clear h0 hrow he ht hth
        go_wp2
        go_ret
        refine Or.inl ⟨by rw [HX.out, if_neg (by have := H0.out; omega)], G, by rw [← HNN.out]; rfl, HS1.out, ?_, by rw [HR.out]; exact HE.out, HT2.out.trans HT.out (fun i hi h => ?_)⟩
        · rw [HV.out]
          intro i d hi
          rw [List.getElem?_map] at hi
          obtain ⟨j, hj, rfl⟩ := Option.map_eq_some_iff.1 hi
          obtain ⟨hlt', rfl⟩ := List.getElem?_eq_some_iff.1 hj
          rw [List.getElem_range]
          have hik : i < k := by simpa using hlt'
          refine ⟨by unfold idk; rw [List.length_take, List.length_drop]; have := H0.out; omega, G, 0, rfl, by have := HGlt.out; have := HT.out.size; omega, ?_⟩
          rw [Nat.zero_add]; exact HRW.out i hik
        · have := HS1.out
          omega
  · have T0 := Lib.hid (num_no e E N 32 l w h hx)
    have HX := Lib.hid (show pthE l = eNum 32 l by unfold pthE; rw [if_pos hx])
    have HNZ := Lib.hid hx
    clear h hN hx
    go_enter Tryz.func70, Tryz.ntmps70
    go_wp2_with (go_at_call 96; refine T0.out.mono ?_; rintro r w1 ⟨rfl, he1, ht1⟩; dsimp only [pan]; have HE1 := Lib.hid he1; have HT1 := Lib.hid ht1; clear he1 ht1)
    exact ⟨rfl, Or.inr ⟨by rw [HX.out]; exact HNZ.out, rfl, by rw [HX.out]; exact HE1.out, HT1.out⟩⟩
end
section
set_option linter.unusedVariables false
set_option linter.unusedSimpArgs false
open Go.RowKit
attribute [local go_sem ↓] loadAt_cr loadAt_hd loadAt_en loadAt_id
attribute [local go_sem] run_crLoad run_hdLoad run_enLoad run_idLoad rowOf_drew rowOf_drewN
theorem pen_turn {w w' : World} {p : Nat} {v : Value} (h : PenStep w w' p (.slice none 0 0) v) : Turn (fun i => i = p) w w' := h.1.mono (fun i _ h => h.elim id (fun h => by cases h))
theorem sl_pen {w w' : World} {p B B0 : Nat} {v : Value} {xs : List B8} {A : Option Addr} {l : List Value} (h : PenAt w' p B v xs) (t : Turn (fun i => i = p) w w') (hs : Sl w B0 A l) (hB : B0 ≤ p) : SlN w' (fun i => i = p ∨ some i = v.ownBlock) A l := fun j u hu => by
  obtain ⟨ad, e, hb, hc⟩ := hs j u hu
  exact ⟨ad, e, h.low (by omega), t.cell hc (show ¬ (ad.add j).block = p by rw [add_block]; omega)⟩
set_option maxRecDepth 100000 in
set_option maxHeartbeats 8000000 in
theorem cput_any (x : Crt) (A : Option Addr) (c : Nat) (w : World) (hx : x.L) (px : CPath w x A c) (mx : x.ids.length ≤ 1000) :
    Calls Tryz.prog 7 #[.agg (x.cells A c).toArray] w fun r w' => ∃ u, r = .returned u ∧ w'.ownsRow w.heap.size 5 1 u (formC x).length ((formC x).map bv) ∧ Turn (fun _ => False) w w' := by
  have TE := Lib.hid (fun w => put_any x.e w hx.1)
  have TH := Lib.hid (fun w => hput_any x.h w hx.2.1)
  have FE := pE_le x.e hx.1
  have FH := pH_le x.h hx.2.1
  have FL := Lib.hid (flat32_len x.ids hx.2.2.2)
  have FT := Lib.hid (fun k d h => flat32_take x.ids k d h)
  have HF := Lib.hid (show formC x = numB (pE x.e).length ++ (pE x.e ++ (numB x.ids.length ++ (x.ids.flatten ++ (numB (pH x.h).length ++ (pH x.h ++ x.t))))) from rfl)
  obtain ⟨C, hC⟩ : ∃ C, C = (x.cells A c).toArray := ⟨_, rfl⟩
  rw [← hC]
  obtain ⟨w1, hw1⟩ : ∃ w1, w1 = w.alloc (.cells C 35) := ⟨_, rfl⟩
  have t1 : Turn (fun _ => False) w w1 := by rw [hw1]; exact (Turn.refl _ _).alloc _
  have e1 : CAt w1 w.heap.size x A c := by unfold CAt; rw [← hC, hw1]; exact heap_alloc_new _ _
  have s1 : w1.heap.size = w.heap.size + 1 := by rw [hw1]; simp
  obtain ⟨EC, hEC⟩ : ∃ L, L = x.e.cells.toArray := ⟨_, rfl⟩
  obtain ⟨HC, hHC⟩ : ∃ L, L = x.h.cells.toArray := ⟨_, rfl⟩
  obtain ⟨TC, hTC⟩ : ∃ L, L = (x.t.map bv).toArray := ⟨_, rfl⟩
  obtain ⟨n, hn⟩ : ∃ n, n = x.ids.length := ⟨_, rfl⟩
  have RW := Lib.hid (fun (w' : World) (g : CAt w' w.heap.size x A c) => show rowOf w' w.heap.size 0 37 = some EC ∧ rowOf w' w.heap.size 38 67 = some HC ∧ rowOf w' w.heap.size 105 32 = some TC ∧ w'.cell? ⟨w.heap.size, 37, none⟩ = some (.slice A n c) from by
    have F := g.facts hx
    rw [hEC, hHC, hTC, hn]
    exact ⟨F.ent, F.hdr, F.tag, F.path⟩)
  have HI := Lib.hid (show ∀ i d, x.ids[i]? = some d → d.length = 32 ∧ ∃ b o, A = some ⟨b, o, none⟩ ∧ b < w.heap.size ∧ w1.rangeAt b (o + i * 32) (d.map bv) from fun i d hi => by
    obtain ⟨h1, b, o, e, hb, hr⟩ := px.1 i d hi
    exact ⟨h1, b, o, e, hb, t1.range hr (fun h => h)⟩)
  have HT32 := Lib.hid hx.2.2.1
  obtain ⟨F, hFF⟩ : ∃ F, F = pE x.e := ⟨_, rfl⟩
  obtain ⟨G, hGG⟩ : ∃ G, G = pH x.h := ⟨_, rfl⟩
  obtain ⟨OE, hOE⟩ : ∃ b, b = decide (okB x.e) := ⟨_, rfl⟩
  obtain ⟨OH, hOH⟩ : ∃ b, b = decide (okH x.h) := ⟨_, rfl⟩
  rw [← hEC, ← hOE, ← hFF] at TE
  rw [← hHC, ← hOH, ← hGG] at TH
  rw [← hFF, ← hGG, ← hn] at HF
  rw [← hFF] at FE
  rw [← hGG] at FH
  rw [← hn] at FL mx
  have HN := Lib.hid hn
  have HTC := Lib.hid hTC
  have HNB := Lib.hid (numB_le (n := n) (by omega))
  have HNE := Lib.hid (numB_le (n := F.length) (by omega))
  have HNH := Lib.hid (numB_le (n := G.length) (by omega))
  have T1 := Lib.hid t1
  have E1 := Lib.hid e1
  have S1 := Lib.hid s1
  clear t1 e1 s1 hC hEC hHC hTC hn hFF hGG hOE hOH px hx
  obtain ⟨r1, r2, r3, r4⟩ := RW.out w1 E1.out
  go_enter Tryz.func7, Tryz.ntmps7
  go_upto_region 1 with fail
  change Code.wp _ _ _ _ (w.alloc (.cells C 35))
  rw [← hw1]
  clear hw1
  go_wp2_with (go_at_call 22; refine stop ?_)
  unfold Stop
  refine (TE.out w1).mono ?_
  rintro r w2 ⟨u2, rfl, o2, t2⟩
  obtain ⟨A2, c2, rfl, sl2, -, hc2, ha2⟩ := own_sl o2
  have E2 := Lib.hid (show CAt w2 w.heap.size x A c from t2.heap E1.out (fun h => h))
  have T2 := Lib.hid t2
  have SL2 := Lib.hid sl2
  have HC2 := Lib.hid hc2
  have HA2 := Lib.hid ha2
  clear o2 t2 sl2 hc2 ha2 r1 r2 r3 r4
  obtain ⟨r1, r2, r3, r4⟩ := RW.out w2 E2.out
  go_wp2_with (go_at_call 23; refine stop ?_)
  unfold Stop
  refine (TH.out w2).mono ?_
  rintro r w3 ⟨u3, rfl, o3, t3⟩
  obtain ⟨A3, c3, rfl, sl3, -, hc3, ha3⟩ := own_sl o3
  obtain ⟨p, hp⟩ : ∃ p, p = w3.heap.size := ⟨_, rfl⟩
  obtain ⟨w4, hw4⟩ : ∃ w4, w4 = w3.alloc (.cells #[.slice none 0 0] 65) := ⟨_, rfl⟩
  have t4 : Turn (fun _ => False) w3 w4 := by rw [hw4]; exact (Turn.refl _ _).alloc _
  have hsz : w4.heap.size = p + 1 := by rw [hw4, hp]; simp
  have hlt : w.heap.size < p := by have := S1.out; have := T2.out.size; have := t3.size; omega
  have hp4 : PenAt w4 p (p + 1) (.slice none 0 0) [] := by rw [hw4, hp]; exact ⟨heap_alloc_new _ _, World.ownsRow_nil _ _ _ _, by omega, by simp⟩
  have T14 := Lib.hid (show Turn (fun _ => False) w1 w4 from (T2.out.trans t3 (fun _ _ h => h)).trans t4 (fun _ _ h => h))
  have HSZ := Lib.hid hsz
  have HLT := Lib.hid hlt
  have SX := Lib.hid (show ∀ (w' : World) (B : Nat) (v : Value) (xs : List B8), PenAt w' p B v xs → Turn (fun i => i = p) w4 w' → SlN w' (fun i => i = p ∨ some i = v.ownBlock) A2 (F.map bv) from fun w' B v xs h t => by
    refine sl_pen h (((t3.trans t4 (fun _ _ h => h)).mono (fun _ _ h => h.elim)).trans t (fun _ _ h => h)) SL2.out (by have := t3.size; omega))
  have SY := Lib.hid (show ∀ (w' : World) (B : Nat) (v : Value) (xs : List B8), PenAt w' p B v xs → Turn (fun i => i = p) w4 w' → SlN w' (fun i => i = p ∨ some i = v.ownBlock) A3 (G.map bv) from fun w' B v xs h t => by
    refine sl_pen h ((t4.mono (fun _ _ h => h.elim)).trans t (fun _ _ h => h)) sl3 (by omega))
  have RX := Lib.hid (show ∀ (w' : World), Turn (fun i => i = p) w4 w' → CAt w' w.heap.size x A c from fun w' t => t.heap (T14.out.heap E1.out (fun h => h)) (by omega))
  have IX := Lib.hid (show ∀ (w' : World), Turn (fun i => i = p) w4 w' → ∀ i d, x.ids[i]? = some d → d.length = 32 ∧ ∃ b o, A = some ⟨b, o, none⟩ ∧ rowOf w' b (o + i * 32) 32 = some (d.map bv).toArray from fun w' t i d hi => by
    obtain ⟨h1, b, o, e, hb, hr⟩ := HI.out i d hi
    exact ⟨h1, b, o, e, rowOf_eq (by simp [h1]) (t.range (T14.out.range hr (fun h => h)) (by omega))⟩)
  have HC3 := Lib.hid hc3
  have HA3 := Lib.hid ha3
  have HP4 := Lib.hid hp4
  have TT4 := Lib.hid (Turn.refl (fun i => i = p) w4)
  have PS4 := Lib.hid (PenStep.refl w4 p (.slice none 0 0))
  have TX := Lib.hid (ptext_any p (p + 1) _ _ F A2 c2 w4 HP4.out (SX.out w4 _ _ _ HP4.out TT4.out) HA2.out HC2.out (by simp only [List.length_nil]; omega))
  clear o3 t3 t4 hsz hlt hp4 sl3 hc3 ha3 r1 r2 r3 r4 SL2 HI E2 T2 TE TH
  go_wp2_with (go_at_call 24; refine stop ?_)
  unfold Stop
  rw [← hw4, ← hp]
  clear hw4 hp
  refine TX.out.mono ?_
  rintro r w5 ⟨rfl, v5, hp5, st5⟩
  have HP5 := Lib.hid hp5
  have PS5 := Lib.hid (PS4.out.trans st5)
  clear hp5 st5 TX HP4 PS4
  obtain ⟨r1, r2, r3, r4⟩ := RW.out w5 (RX.out w5 (pen_turn PS5.out))
  have TN := Lib.hid (pnum_any p (p + 1) _ _ n w5 HP5.out (by omega) (by simp only [List.length_append, List.length_nil]; have := HNE.out; omega))
  go_wp2_with (go_at_call 25; refine stop ?_)
  unfold Stop
  refine TN.out.mono ?_
  rintro r w6 ⟨rfl, v6, hp6, st6⟩
  have PS6 := Lib.hid (PS5.out.trans st6)
  obtain ⟨X6, hX6⟩ : ∃ X, X = ([] ++ (numB F.length ++ F)) ++ numB n := ⟨_, rfl⟩
  rw [← hX6] at hp6
  have HP6 := Lib.hid hp6
  have HX6 := Lib.hid hX6
  have HL6 := Lib.hid (show X6.length ≤ 200 by rw [hX6]; simp only [List.length_append, List.length_nil]; have := HNE.out; have := HNB.out; omega)
  clear hp6 st6 TN HP5 PS5 r1 r2 r3 r4 hX6
  obtain ⟨r1, r2, r3, r4⟩ := RW.out w6 (RX.out w6 (pen_turn PS6.out))
  go_wp2
  clear r1 r2 r3 r4
  go_loopw [32] (fun i wr => ∃ (k : Nat) (u : Value), k ≤ n ∧ i = .int .i64 k ∧ PenAt wr p (p + 1) u (X6 ++ (x.ids.take k).flatten) ∧ PenStep w4 wr p (.slice none 0 0) u) (fun i _ => n - (intOf i).toNat)
  case atStart => exact ⟨0, v6, Nat.zero_le _, rfl, by simpa using HP6.out, PS6.out⟩
  case round =>
    clear HP6 PS6
    obtain ⟨k, u, hk, rfl, hp, hst⟩ := hrel
    by_cases hlt : k < n
    · have hlk : x.ids[k]? = some x.ids[k] := List.getElem?_eq_getElem (by have := HN.out; omega)
      obtain ⟨hd32, b, o, rfl, hr⟩ := IX.out wr (pen_turn hst) k _ hlk
      have HSUC := Lib.hid (FT.out k _ hlk)
      have HFK := Lib.hid (FL.out k (by omega))
      obtain ⟨q, hq⟩ : ∃ q, q = x.ids[k] := ⟨_, rfl⟩
      rw [← hq] at hr hd32 HSUC
      obtain ⟨D, hD⟩ : ∃ D, D = (q.map bv).toArray := ⟨_, rfl⟩
      rw [← hD] at hr
      have sD : D.size = 32 := by rw [hD]; simp [hd32]
      have H1 := Lib.hid (show (Tryz.prog.info? 24).map (·.size) = some D.size by rw [sD]; kernel_rfl)
      have H2 := Lib.hid (show ZIdT.size = D.size by rw [sD]; rfl)
      have H3 := Lib.hid (show D.all (·.oneCell') = true by rw [hD]; exact bvs_one _)
      obtain ⟨hp0, hf0, hst0⟩ := hp.new (.cells D 24)
      obtain ⟨w0, hw0⟩ : ∃ w0, w0 = wr.alloc (.cells D 24) := ⟨_, rfl⟩
      obtain ⟨g, hg⟩ : ∃ g, g = wr.heap.size := ⟨_, rfl⟩
      have rd : rowOf w0 g 0 32 = some D := by rw [hw0, hg, hD]; exact rowOf_id hd32 (heap_alloc_new wr _)
      rw [← hw0] at hp0 hf0 hst0
      have T1 := Lib.hid (pid_any p (p + 1) u _ q w0 hp0 hd32 (by have := HL6.out; have := HFK.out; simp only [List.length_append]; omega))
      rw [← hD] at T1
      have HST := Lib.hid hst
      have HST0 := Lib.hid hst0
      have HW0 := Lib.hid hw0
      have HGG := Lib.hid hg
      clear hp hst hlk hq hD sD hp0 hf0 hst0 hw0 hg hd32
      go_wp2_with (first
        | (refine wpList_store_row rfl _ _ _ rfl wr.heap.size D rfl rfl 24 _ (heap_alloc_new wr _) H1.out H2.out H3.out ?_; rw [World.setRow_alloc_new, ← HW0.out, ← HGG.out])
        | (go_at_call 26; refine stop ?_))
      unfold Stop
      refine T1.out.mono ?_
      rintro r w2 ⟨rfl, v2, hp2, st2⟩
      have HP2 := Lib.hid hp2
      have ST2 := Lib.hid (HST.out.trans (HST0.out.trans st2))
      clear hp2 st2 T1
      go_wp2
      go_roundw
      case rel => exact ⟨k + 1, v2, by omega, by go_num, by rw [HSUC.out]; have h := HP2.out; simp only [List.append_assoc] at h ⊢; exact h, ST2.out⟩
      case measure => simp [intOf]; omega
    · obtain rfl : k = n := by omega
      rw [List.take_of_length_le (by rw [HN.out]; exact Nat.le_refl _)] at hp
      have HL7 := Lib.hid (show (x.ids.flatten).length = k * 32 by have := FL.out k (Nat.le_refl _); rwa [List.take_of_length_le (by rw [HN.out]; exact Nat.le_refl _)] at this)
      have HP7 := Lib.hid hp
      have PS7 := Lib.hid hst
      have TX := Lib.hid (ptext_any p (p + 1) u _ G A3 c3 wr hp (SY.out wr _ _ _ hp (pen_turn hst)) HA3.out HC3.out (by have := HL6.out; have := HL7.out; simp only [List.length_append]; omega))
      clear hp hst
      go_wp2_with (go_at_call 24; refine stop ?_)
      unfold Stop
      refine TX.out.mono ?_
      rintro r w8 ⟨rfl, v8, hp8, st8⟩
      have HP8 := Lib.hid hp8
      have PS8 := Lib.hid (PS7.out.trans st8)
      clear hp8 st8 TX HP7 PS7
      obtain ⟨r1, r2, r3, r4⟩ := RW.out w8 (RX.out w8 (pen_turn PS8.out))
      have TD := Lib.hid (pid_any p (p + 1) v8 _ x.t w8 HP8.out HT32.out (by have := HL6.out; have := HL7.out; have := HNH.out; simp only [List.length_append]; omega))
      rw [← HTC.out] at TD
      go_wp2_with (go_at_call 26; refine stop ?_)
      unfold Stop
      refine TD.out.mono ?_
      rintro r w9 ⟨rfl, v9, hp9, st9⟩
      have HP9 := Lib.hid hp9
      have PS9 := Lib.hid (PS8.out.trans st9)
      clear hp9 st9 TD HP8 PS8 r1 r2 r3 r4
      have TB := Lib.hid (pbytes_any p (p + 1) v9 _ w9 HP9.out (by have := HL6.out; have := HL7.out; have := HNH.out; have := HT32.out; simp only [List.length_append]; omega))
      go_wp2_with (go_at_call 27; refine stop ?_)
      unfold Stop
      refine TB.out.mono ?_
      rintro r w10 ⟨u10, rfl, own10, t10⟩
      have HO10 := Lib.hid own10
      have HT10 := Lib.hid t10
      clear own10 t10 TB
      go_wp2
      go_ret
      refine ⟨u10, rfl, ?_, ?_⟩
      · rw [HF.out]
        have h := own_more HO10.out (base' := w.heap.size) (by have := (pen_turn PS9.out).size; have := HSZ.out; have := HLT.out; omega)
        rw [HX6.out] at h
        simp only [List.append_assoc, List.nil_append] at h ⊢
        exact h
      · refine ((T1.out.trans T14.out (fun _ _ h => h)).trans (pen_turn PS9.out) (fun i hi h => ?_)).trans HT10.out (fun _ _ h => h)
        have := HLT.out
        omega
end
end Go.Proofs.YthoaaieiiokcmaaGreatDoor
