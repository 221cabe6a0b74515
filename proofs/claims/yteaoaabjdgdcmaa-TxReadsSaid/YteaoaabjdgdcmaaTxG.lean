/- The contracts of the amounts' lists. -/
import Derived.Test.YteaoaabjdgdcmaaTxF
import Derived.OwnWalk
set_option linter.unusedVariables false
set_option linter.unusedSimpArgs false
namespace Go.Proofs.Yteaoaabjdgdcmaa
open Go.RowKit
set_option maxRecDepth 100000 in
theorem info_u64 : (Try.prog.info? 26).map (fun i => (i.zero, i.size, i.bytes)) = some (some (.int .u64 0), 1, 8) := by kernel_rfl
def rowI (ns : List Nat) (k : Nat) : List Value := u64s (ns.take k) ++ List.replicate (ns.length - k) (.int .u64 0)
set_option maxRecDepth 100000 in
theorem rowI_zero (ns : List Nat) : rowI ns 0 = List.replicate ns.length (.int .u64 0) := by simp [rowI, u64s]
set_option maxRecDepth 100000 in
theorem rowI_end (ns : List Nat) : rowI ns ns.length = u64s ns := by simp [rowI]
set_option maxRecDepth 100000 in
theorem rowI_set (ns : List Nat) (k : Nat) (h : k < ns.length) : (rowI ns k).set k (.int .u64 ((ns[k] : Nat) : Int)) = rowI ns (k + 1) := by
  unfold rowI
  have e : ns.length - k = (ns.length - (k + 1)) + 1 := by omega
  have hl : (u64s (ns.take k)).length = k := by simp [u64s]; omega
  rw [e, List.replicate_succ, List.set_append_right _ _ (by rw [hl]; omega), hl, Nat.sub_self, List.set_cons_zero, List.take_succ_eq_append_getElem h]
  unfold u64s
  simp only [List.map_append, List.map_cons, List.map_nil, List.append_assoc, List.cons_append, List.nil_append]
set_option maxRecDepth 100000 in
theorem rowI_at (ns : List Nat) (k : Nat) (h : k < ns.length) : (rowI ns k)[k]? = some (.int .u64 0) := by
  unfold rowI
  have hl : (u64s (ns.take k)).length = k := by simp [u64s]; omega
  rw [List.getElem?_append_right (by rw [hl]; omega), hl, Nat.sub_self, List.getElem?_replicate, if_pos (by omega)]
set_option maxRecDepth 100000 in
set_option maxHeartbeats 1000000 in
theorem insAmounts_any (B : Nat) (A : Option Addr) (c : Nat) (l : List Pin) (w : World) (hI : InsAt w B A l) (hm : l.length ≤ 1099511627776) :
    Calls Try.prog 22 #[.slice A l.length c] w fun e w' => e = .returned (.slice (some ⟨w.heap.size, 0, none⟩) l.length l.length) ∧ w'.ownsRow w.heap.size 26 1 (.slice (some ⟨w.heap.size, 0, none⟩) l.length l.length) l.length (u64s (insN l)) ∧ Turn (fun _ => False) w w' := by
  obtain ⟨i0, hi, hz0, hz1, hz2⟩ := info_parts info_u64
  have HI := Lib.hid hI
  have hzd := zero_in
  change ∀ w, _ = Result.ok (Value.agg ZIn) w at hzd
  have HN := Lib.hid (show (insN l).length = l.length by simp [insN])
  clear hI
  go_enter Try.func22, Try.ntmps22
  go_wp2_with (at_make; refine wpList_make_full _ rfl _ _ 60 rfl w.heap.size 26 i0 (.int .u64 0) 1 Try.underlying60 hi hz0 hz1 _ _ _ _ l.length rfl rfl rfl rfl ?b2 ?b3 ?b4 ?_)
  case b2 => rw [hz2]; omega
  case b3 => unfold maxLen; omega
  case b4 => simp
  intro w0 hown0 hgrow0
  have e0 : (madeCells #[.int .u64 0] l.length).toList = rowI (insN l) 0 := by
    rw [rowI_zero, HN.out]; exact toList_madeCells_one _ _
  rw [e0] at hown0
  clear e0
  have HO0 := Lib.hid hown0
  have HT0 := Lib.hid (show Turn (fun _ => False) w w0 from (Turn.refl _ w).grown hgrow0 (fun _ _ e => by cases e))
  clear hown0 hgrow0
  go_wp2
  go_loopw [11] (fun i wr => ∃ k : Nat, k ≤ l.length ∧ i = .int .i64 k ∧ wr.ownsRow w.heap.size 26 1 (.slice (some ⟨w.heap.size, 0, none⟩) l.length l.length) l.length (rowI (insN l) k) ∧ Turn (fun _ => False) w wr) (fun i _ => l.length - (intOf i).toNat)
  case atStart => exact ⟨0, Nat.zero_le _, rfl, by simpa using HO0.out, HT0.out⟩
  case round =>
    clear HO0 HT0
    obtain ⟨k, hk, rfl, hown, ht⟩ := hrel
    by_cases hlt : k < l.length
    · have hlk := List.getElem?_eq_getElem hlt
      obtain ⟨hok, b, o, S, cp, rfl, hb, hs, hr⟩ := HI.out k l[k] hlk
      have hr1 := ht.range hr (fun h => h)
      have hln : k < (insN l).length := by rw [HN.out]; exact hlt
      have hnk : (insN l)[k] = l[k].n := by simp [insN]
      obtain ⟨p, hp⟩ : ∃ p, p = l[k] := ⟨_, rfl⟩
      rw [← hp] at hok hr1 hlk hnk
      have HSET := Lib.hid (rowI_set (insN l) k hln)
      have HAT := Lib.hid (rowI_at (insN l) k hln)
      rw [hnk] at HSET
      have HL := Lib.hid (show (Try.prog.info? 41).map (·.size) = some (p.cells S cp).length by rw [p.len S cp hok.d]; kernel_rfl)
      obtain ⟨D, hD⟩ : ∃ D, D = (p.cells S cp).toArray := ⟨_, rfl⟩
      have sD : D.size = 35 := by rw [hD, List.size_toArray, p.len S cp hok.d]
      have H1 := Lib.hid (show (Try.prog.info? 41).map (·.size) = some D.size by rw [sD]; kernel_rfl)
      have H2 := Lib.hid (show ZIn.size = D.size by rw [sD]; rfl)
      have H3 := Lib.hid (show D.all (·.oneCell') = true by rw [hD]; exact p.one S cp)
      have HR := Lib.hid hr1
      have cn : (wr.alloc (.cells D 41)).cell? ⟨wr.heap.size, 33, none⟩ = some (.int .u64 (p.n : Int)) := by
        rw [cell_of_row _ _ _ _ _ _ (heap_alloc_new wr _), hD, List.getElem?_toArray]; exact (p.at S cp hok.d).2.1
      have hown2 := hown.alloc (.cells D 41)
      have ck : (wr.alloc (.cells D 41)).cell? ⟨w.heap.size, k, none⟩ = some (.int .u64 0) := by
        rw [hown2.cellAt k (by omega)]; exact HAT.out
      have fk := hown2.frozenAt k
      have HO2 := Lib.hid hown2
      have HT2 := Lib.hid (ht.alloc (.cells D 41))
      have HDD := Lib.hid hD
      have hn64 := hok.n
      generalize p.n = pn at *
      clear hr hr1 hok hp hs hlk ht hD sD hown hown2 hnk
      go_wp2_with (first
        | (refine wpList_load_mid (op := ⟨some 15, _, _, _, _, _⟩) rfl _ _ rfl b (o + k * 35) rfl (p.cells S cp) _ HR.out Try.underlying41 rfl HL.out ?_; rw [← HDD.out])
        | (refine wpList_store_row (o := ⟨none, .store 41 _ _, _, _, _, _⟩) rfl _ _ _ rfl wr.heap.size D rfl rfl 41 _ (heap_alloc_new wr _) H1.out H2.out H3.out ?_; rw [World.setRow_alloc_new]))
      go_roundw
      case rel => exact ⟨k + 1, by omega, by go_num, by
          have h := (HO2.out.stored k (.int .u64 (pn : Int))).1
          rw [HSET.out] at h
          exact h, HT2.out.setCell ⟨w.heap.size, k, none⟩ _ (fun h => by exact absurd h (Nat.lt_irrefl _))⟩
      case measure => simp [intOf]; omega
    · obtain rfl : k = l.length := by omega
      have HE := Lib.hid (show rowI (insN l) l.length = u64s (insN l) by rw [← HN.out]; exact rowI_end _)
      rw [HE.out] at hown
      have HO := Lib.hid hown
      clear hown
      go_wp2
      go_ret
      exact ⟨rfl, HO.out, ht⟩
set_option maxRecDepth 100000 in
theorem zero_out (w : World) : (zeroValue 43).run Try.prog w = .ok (.agg (Pout.cells ⟨zeros 32, 0⟩).toArray) w := by kernel_rfl
def ZOut : Array Value := (Pout.cells ⟨zeros 32, 0⟩).toArray
set_option maxRecDepth 100000 in
set_option maxHeartbeats 1000000 in
theorem outsAmounts_any (B : Nat) (A : Option Addr) (c : Nat) (l : List Pout) (w : World) (hI : OutsAt w B A l) (hm : l.length ≤ 1099511627776) :
    Calls Try.prog 23 #[.slice A l.length c] w fun e w' => e = .returned (.slice (some ⟨w.heap.size, 0, none⟩) l.length l.length) ∧ w'.ownsRow w.heap.size 26 1 (.slice (some ⟨w.heap.size, 0, none⟩) l.length l.length) l.length (u64s (outsN l)) ∧ Turn (fun _ => False) w w' := by
  obtain ⟨i0, hi, hz0, hz1, hz2⟩ := info_parts info_u64
  have HI := Lib.hid hI
  have hzd := zero_out
  change ∀ w, _ = Result.ok (Value.agg ZOut) w at hzd
  have HN := Lib.hid (show (outsN l).length = l.length by simp [outsN])
  clear hI
  go_enter Try.func23, Try.ntmps23
  go_wp2_with (at_make; refine wpList_make_full _ rfl _ _ 60 rfl w.heap.size 26 i0 (.int .u64 0) 1 Try.underlying60 hi hz0 hz1 _ _ _ _ l.length rfl rfl rfl rfl ?b2 ?b3 ?b4 ?_)
  case b2 => rw [hz2]; omega
  case b3 => unfold maxLen; omega
  case b4 => simp
  intro w0 hown0 hgrow0
  have e0 : (madeCells #[.int .u64 0] l.length).toList = rowI (outsN l) 0 := by
    rw [rowI_zero, HN.out]; exact toList_madeCells_one _ _
  rw [e0] at hown0
  clear e0
  have HO0 := Lib.hid hown0
  have HT0 := Lib.hid (show Turn (fun _ => False) w w0 from (Turn.refl _ w).grown hgrow0 (fun _ _ e => by cases e))
  clear hown0 hgrow0
  go_wp2
  go_loopw [11] (fun i wr => ∃ k : Nat, k ≤ l.length ∧ i = .int .i64 k ∧ wr.ownsRow w.heap.size 26 1 (.slice (some ⟨w.heap.size, 0, none⟩) l.length l.length) l.length (rowI (outsN l) k) ∧ Turn (fun _ => False) w wr) (fun i _ => l.length - (intOf i).toNat)
  case atStart => exact ⟨0, Nat.zero_le _, rfl, by simpa using HO0.out, HT0.out⟩
  case round =>
    clear HO0 HT0
    obtain ⟨k, hk, rfl, hown, ht⟩ := hrel
    by_cases hlt : k < l.length
    · have hlk := List.getElem?_eq_getElem hlt
      obtain ⟨hok, b, o, rfl, hb, hr⟩ := HI.out k l[k] hlk
      have hr1 := ht.range hr (fun h => h)
      have hln : k < (outsN l).length := by rw [HN.out]; exact hlt
      have hnk : (outsN l)[k] = l[k].n := by simp [outsN]
      obtain ⟨p, hp⟩ : ∃ p, p = l[k] := ⟨_, rfl⟩
      rw [← hp] at hok hr1 hlk hnk
      have HSET := Lib.hid (rowI_set (outsN l) k hln)
      have HAT := Lib.hid (rowI_at (outsN l) k hln)
      rw [hnk] at HSET
      have HL := Lib.hid (show (Try.prog.info? 43).map (·.size) = some (p.cells).length by rw [p.len hok.d]; kernel_rfl)
      obtain ⟨D, hD⟩ : ∃ D, D = (p.cells).toArray := ⟨_, rfl⟩
      have sD : D.size = 33 := by rw [hD, List.size_toArray, p.len hok.d]
      have H1 := Lib.hid (show (Try.prog.info? 43).map (·.size) = some D.size by rw [sD]; kernel_rfl)
      have H2 := Lib.hid (show ZOut.size = D.size by rw [sD]; rfl)
      have H3 := Lib.hid (show D.all (·.oneCell') = true by rw [hD]; exact p.one)
      have HR := Lib.hid hr1
      have cn : (wr.alloc (.cells D 43)).cell? ⟨wr.heap.size, 32, none⟩ = some (.int .u64 (p.n : Int)) := by
        rw [cell_of_row _ _ _ _ _ _ (heap_alloc_new wr _), hD, List.getElem?_toArray]; exact p.at hok.d
      have hown2 := hown.alloc (.cells D 43)
      have ck : (wr.alloc (.cells D 43)).cell? ⟨w.heap.size, k, none⟩ = some (.int .u64 0) := by
        rw [hown2.cellAt k (by omega)]; exact HAT.out
      have fk := hown2.frozenAt k
      have HO2 := Lib.hid hown2
      have HT2 := Lib.hid (ht.alloc (.cells D 43))
      have HDD := Lib.hid hD
      have hn64 := hok.n
      generalize p.n = pn at *
      clear hr hr1 hok hp hlk ht hD sD hown hown2 hnk
      go_wp2_with (first
        | (refine wpList_load_mid (op := ⟨some 15, _, _, _, _, _⟩) rfl _ _ rfl b (o + k * 33) rfl (p.cells) _ HR.out Try.underlying43 rfl HL.out ?_; rw [← HDD.out])
        | (refine wpList_store_row (o := ⟨none, .store 43 _ _, _, _, _, _⟩) rfl _ _ _ rfl wr.heap.size D rfl rfl 43 _ (heap_alloc_new wr _) H1.out H2.out H3.out ?_; rw [World.setRow_alloc_new]))
      go_roundw
      case rel => exact ⟨k + 1, by omega, by go_num, by
          have h := (HO2.out.stored k (.int .u64 (pn : Int))).1
          rw [HSET.out] at h
          exact h, HT2.out.setCell ⟨w.heap.size, k, none⟩ _ (fun h => by exact absurd h (Nat.lt_irrefl _))⟩
      case measure => simp [intOf]; omega
    · obtain rfl : k = l.length := by omega
      have HE := Lib.hid (show rowI (outsN l) l.length = u64s (outsN l) by rw [← HN.out]; exact rowI_end _)
      rw [HE.out] at hown
      have HO := Lib.hid hown
      clear hown
      go_wp2
      go_ret
      exact ⟨rfl, HO.out, ht⟩
end Go.Proofs.Yteaoaabjdgdcmaa
