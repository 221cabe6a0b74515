/- The contract of 'twice'. -/
import Derived.Test.YteaoaabjdgdcmaaTxE
set_option linter.unusedVariables false
set_option linter.unusedSimpArgs false
namespace Go.Proofs.Yteaoaabjdgdcmaa
open Go.RowKit
def twAt (l : List Pin) (i : Nat) : Bool := match l[i]? with | some p => (l.take i).any fun q => samePt q p | none => false
set_option maxRecDepth 100000 in
theorem twiceB_eq (l : List Pin) : twiceB l = (List.range l.length).any (twAt l) := rfl
set_option maxRecDepth 100000 in
theorem twAt_at {l : List Pin} {k : Nat} (h : k < l.length) : twAt l k = (l.take k).any fun q => samePt q l[k] := by
  unfold twAt; rw [List.getElem?_eq_getElem h]
set_option maxRecDepth 100000 in
theorem twiceB_hit {l : List Pin} {k : Nat} (h : k < l.length) (h1 : twAt l k = true) : twiceB l = true := by
  rw [twiceB_eq, List.any_eq_true]; exact ⟨k, by simpa using h, h1⟩
set_option maxRecDepth 100000 in
theorem range_any_succ (g : Nat → Bool) (k : Nat) (h : (List.range k).any g = false) (h1 : g k = false) : (List.range (k + 1)).any g = false := by
  rw [List.range_succ, List.any_append, h]; simp [h1]
set_option maxRecDepth 100000 in
theorem zero_in (w : World) : (zeroValue 41).run Try.prog w = .ok (.agg (Pin.cells ⟨zeros 32, 0, 0, []⟩ none 0).toArray) w := by kernel_rfl
def ZIn : Array Value := (Pin.cells ⟨zeros 32, 0, 0, []⟩ none 0).toArray
set_option maxRecDepth 100000 in
theorem slice_ins (A : Option Addr) (len cap n : Nat) (h : n ≤ len) (hc : len ≤ cap) (w : World) : (Instr.slice 24 (.slice A len cap) none (some (.int .i64 (n : Int))) none).run Try.prog w = .ok (.slice A n cap) w := by
  rw [run_slice_h (P := Try.prog) w 24 A len cap (by kernel_rfl) .i64 (n : Int) (by omega) (by omega)]
  rw [show Try.prog.elem 24 = 41 by kernel_rfl, show (sizeOf 41).run Try.prog w = .ok 35 w by kernel_rfl]
  simp [Result.andThen, sliced]
  cases A with
  | none => simp
  | some a => simp [Addr.add]
set_option maxRecDepth 100000 in
set_option maxHeartbeats 1000000 in
theorem twice_any (B : Nat) (A : Option Addr) (c : Nat) (l : List Pin) (w : World) (hI : InsAt w B A l) (hc : l.length ≤ c) (hm : l.length ≤ maxLen) :
    Calls Try.prog 21 #[.slice A l.length c] w fun e w' => e = .returned (.bool (twiceB l)) ∧ Turn (fun _ => False) w w' := by
  have hmm := hm
  unfold maxLen at hmm
  have hmf : ∀ (fn : Fn) (first cap : Array Value) (w : World), (Instr.makeFunc fn first cap).run Try.prog w = .ok (.func fn first cap) w := fun _ _ _ _ => rfl
  have HI := Lib.hid hI
  have HM := Lib.hid hm
  have HC := Lib.hid hc
  have HE := Lib.hid (twiceB_eq l)
  have hzd := zero_in
  change ∀ w, _ = Result.ok (Value.agg ZIn) w at hzd
  clear hI hm hc
  go_enter Try.func21, Try.ntmps21
  go_wp2
  go_loopw [7] (fun i wr => ∃ k : Nat, k ≤ l.length ∧ i = .int .i64 k ∧ (List.range k).any (twAt l) = false ∧ Turn (fun _ => False) w wr) (fun i _ => l.length - (intOf i).toNat)
  case atStart => exact ⟨0, Nat.zero_le _, rfl, rfl, Turn.refl _ _⟩
  case round =>
    obtain ⟨k, hk, rfl, ha, ht⟩ := hrel
    by_cases hlt : k < l.length
    · have hlk := List.getElem?_eq_getElem hlt
      obtain ⟨hok, b, o, S, cp, rfl, hb, hs, hr⟩ := HI.out k l[k] hlk
      have hr1 := ht.range hr (fun h => h)
      have HTA := Lib.hid (twAt_at hlt)
      have HHIT := Lib.hid (fun h1 => twiceB_hit hlt h1)
      have HNX := Lib.hid (fun h1 => range_any_succ (twAt l) k ha h1)
      obtain ⟨p, hp⟩ : ∃ p, p = l[k] := ⟨_, rfl⟩
      rw [← hp] at hok hr1 hlk HTA
      have HL := Lib.hid (show (Try.prog.info? 41).map (·.size) = some (p.cells S cp).length by rw [p.len S cp hok.d]; kernel_rfl)
      obtain ⟨D, hD⟩ : ∃ D, D = (p.cells S cp).toArray := ⟨_, rfl⟩
      have sD : D.size = 35 := by rw [hD, List.size_toArray, p.len S cp hok.d]
      have H1 := Lib.hid (show (Try.prog.info? 41).map (·.size) = some D.size by rw [sD]; kernel_rfl)
      have H2 := Lib.hid (show ZIn.size = D.size by rw [sD]; rfl)
      have H3 := Lib.hid (show D.all (·.oneCell') = true by rw [hD]; exact p.one S cp)
      have HR := Lib.hid hr1
      have HT := Lib.hid (ht.alloc (.cells D 41))
      have HA := Lib.hid (show Calls Try.prog 37 #[.slice (some ⟨b, o, none⟩) k c, .func (.func 39) #[] #[.pointer (some ⟨wr.heap.size, 0, none⟩)]] (wr.alloc (.cells D 41)) fun e w' => e = .returned (.bool (twAt l k)) ∧ Turn (fun _ => False) (wr.alloc (.cells D 41)) w' by
        have h := aheads_any p S cp wr.heap.size B (some ⟨b, o, none⟩) c (l.take k) (wr.alloc (.cells D 41)) hok (by rw [hD]; exact heap_alloc_new wr _) ((HI.out.turn (ht.alloc _) (fun _ _ h => h)).take k) (by rw [List.length_take]; have := HM.out; omega)
        rw [List.length_take, Nat.min_eq_left (by omega), ← HTA.out] at h
        exact h)
      have r1 := slice_ins (some ⟨b, o, none⟩) l.length c k hk HC.out
      have HDD := Lib.hid hD
      clear hr hr1 hok hp hs ha hlk ht hD sD
      go_wp2_with (first
        | (refine wpList_load_mid (op := ⟨some 11, _, _, _, _, _⟩) rfl _ _ rfl b (o + k * 35) rfl (p.cells S cp) _ HR.out Try.underlying41 rfl HL.out ?_; rw [← HDD.out])
        | (refine wpList_store_row rfl _ _ _ rfl wr.heap.size D rfl rfl 41 _ (heap_alloc_new wr _) H1.out H2.out H3.out ?_; rw [World.setRow_alloc_new]))
      refine HA.out.mono ?_
      rintro r w2 ⟨rfl, ht2⟩
      have HT2 := Lib.hid (HT.out.trans ht2 (fun _ _ h => h))
      clear ht2 r1
      cases hg : twAt l k
      · have HM := Lib.hid (HNX.out hg)
        clear hg
        go_wp2
        go_roundw
        case rel => exact ⟨k + 1, by omega, by go_num, HM.out, HT2.out⟩
        case measure => simp [intOf]; omega
      · have HM := Lib.hid (HHIT.out hg)
        clear hg
        go_wp2
        go_ret
        exact ⟨ret_bool HM.out.symm, HT2.out⟩
    · obtain rfl : k = l.length := by omega
      have HN := Lib.hid ha
      clear ha
      go_wp2
      go_ret
      exact ⟨ret_bool (by rw [HE.out, HN.out]), ht⟩
end Go.Proofs.Yteaoaabjdgdcmaa
