/- 'FieldOne': its walk. -/
import Derived.Test.YtjfjminfpdgcmaaFldK
set_option linter.unusedVariables false
namespace Go.Proofs.Ytjfjminfpdgcmaa
open Go.RowKit Go.ChangeShapes Go.WideShapes Go.ChangeAt
/-- A slice of bytes that came in. -/
theorem open_bytes {H : Type} {enc : TypeId × Value → H} {P : Program} {W : World} {r : Reach} {b0 : Nat} {t e : TypeId} {v : Value} {d : DataW H} {p : List MemPlace} (ht : P.underlying t = some (.slice e)) (he : P.underlying e = some (.int .u8)) (hc : P.cellsOf e = 1)
    (hval : Value.okWide P W r b0 t v) (hd : DataW.Trod enc P W 0 (fun _ => true) true t v d p) :
    ∃ (A : Option Addr) (c : Nat) (xs : List B8), v = .slice A xs.length c ∧ Sl W W.heap.size A (xs.map bv) ∧ (A = none → c = 0) ∧ xs.length ≤ c ∧ xs.length ≤ maxLen := by
  obtain ⟨a0, len, cap, rfl⟩ := okWide_slice ht hval
  obtain ⟨fuel, hf⟩ := hd
  rcases open_ints ht he hc hf with ⟨hcs, hx⟩ | ⟨a, len', cap', zs, hcs, _, hl, hm, hz, hx, hcell, hwz⟩
  · simp [Value.cells] at hcs
    obtain ⟨rfl, rfl, rfl⟩ := hcs
    exact ⟨_, 0, [], rfl, Sl.none _ _ _, (fun _ => rfl), by simp, by simp⟩
  · simp [Value.cells] at hcs
    obtain ⟨rfl, rfl, rfl⟩ := hcs
    have hzl : zs.length = cap := by simpa using hz
    have hlen : ((zs.take len).map fun z => BitVec.ofNat 8 z.toNat).length = len := by simp; omega
    refine ⟨some a, cap, (zs.take len).map (fun z => BitVec.ofNat 8 z.toNat), by rw [hlen], ?_, (fun h => by cases h), by omega, by omega⟩
    intro j u hu
    simp only [List.map_map, List.getElem?_map, Option.map_eq_some_iff] at hu
    obtain ⟨z, hz1, rfl⟩ := hu
    have hj : j < len := by have := (List.getElem?_eq_some_iff.1 hz1).1; simp at this; omega
    have hzj : zs[j]? = some z := by rw [List.getElem?_take, if_pos hj] at hz1; exact hz1
    have h1 := hcell j (by omega)
    have hb := bounds_u8 (hwz z (List.mem_of_getElem? hzj))
    refine ⟨a, rfl, ?_, ?_⟩
    · have := World.block_lt_of_cell? W _ h1
      rwa [add_block] at this
    · rw [h1, List.getD, hzj]
      simp only [Option.getD_some, Function.comp, bv, BitVec.toNat_ofNat]
      rw [Nat.mod_eq_of_lt (by omega)]
      congr 2
      omega
theorem numB_back (bs : List B8) (h : numE bs = 0) (hr : numR bs = []) : numB (numV bs) = bs := by
  cases bs with
  | nil => simp [numE] at h
  | cons k r =>
    simp only [numE] at h
    split at h
    · cases h
    split at h
    · cases h
    split at h
    · cases h
    rename_i h1 h2 h3
    simp only [numR] at hr
    have hl : r.length ≤ k.toNat := by simpa using hr
    have ht : r.take k.toNat = r := List.take_of_length_le hl
    rw [ht] at h3
    rw [numV, ht, numB_valB r (by rintro x s rfl hx; subst hx; exact h3 rfl) (by omega)]
    congr 1
    apply BitVec.eq_of_toNat_eq
    rw [BitVec.toNat_ofNat, Nat.mod_eq_of_lt (by omega)]; omega
set_option maxHeartbeats 1000000 in
theorem fieldOne_any (A : Option Addr) (c : Nat) (bs : List B8) (w : World) (hs : Sl w w.heap.size A (bs.map bv)) (hA : A = none → c = 0) (hc : bs.length ≤ c) (hm : bs.length ≤ maxLen) :
    Calls Try.prog 6 #[.slice A bs.length c] w fun e w' => e = .returned (.bool true) ∧ Turn (fun _ => False) w w' := by
  have hmf : ∀ (fn : Fn) (first cap : Array Value) (w : World), (Instr.makeFunc fn first cap).run Try.prog w = .ok (.func fn first cap) w := fun _ _ _ _ => rfl
  have AW := Lib.hid awake_any
  unfold maxLen at hm
  by_cases h20 : 20 < bs.length
  · go_enter Try.func6, Try.ntmps6
    go_wp2_with (go_at_call 7; refine (AW.out _).mono ?_; rintro r w9 ⟨rfl, t9⟩)
    go_ret
    exact ⟨rfl, t9⟩
  have h20' : ¬ (20 : Int) < (bs.length : Int) := by omega
  have ho1 := heap_alloc_new w (.cells #[Value.int .u64 0] 60)
  have hs1 := (SlN.of (N := fun i => i = w.heap.size) hs (fun i hi h => by omega)).turn ((Turn.refl (fun _ => False) w).alloc (.cells #[Value.int .u64 0] 60)) (fun _ h => h.elim) (N' := fun i => i = w.heap.size) (fun i hi h => h)
  have T1 := Lib.hid (read_one w.heap.size _ A c bs _ hs1 hA hc (by omega) ho1)
  clear h20 ho1 hs1
  go_enter Try.func6, Try.ntmps6
  go_wp2_with fail
  refine T1.out.mono ?_
  rintro r w1 ⟨t1, (⟨hx, ho, rfl⟩ | ⟨k, hk, hx, rfl⟩)⟩
  · by_cases hr : numR bs = []
    · have hi : (if numR bs = [] then (0 : Int) else 3) = 0 := if_pos hr
      rw [hi]
      have c1 : w1.cell? ⟨w.heap.size, 0, none⟩ = some (.int .u64 (numV bs : Int)) := by rw [cell_of_row w1 _ 0 _ _ _ ho]; rfl
      have c2 := ((Turn.refl (fun _ => False) w1).alloc (.cells #[.slice none 0 0] 26)).cell c1 (fun h => h)
      have hp1 : PenAt (w1.alloc (.cells #[.slice none 0 0] 26)) w1.heap.size (w1.heap.size + 1) (.slice none 0 0) [] := ⟨heap_alloc_new _ _, World.ownsRow_nil _ _ _ _, by omega, by simp⟩
      have T2 := Lib.hid (pnum_any w1.heap.size (w1.heap.size + 1) (.slice none 0 0) [] (numV bs) _ hp1 (numV_lt bs hx) (by simp))
      have hnb := numB_back bs hx hr
      have HNB := Lib.hid hnb
      have HT1 := Lib.hid (((Turn.refl (fun _ => False) w).alloc (.cells #[Value.int .u64 0] 60)).trans t1 (fun i hi h => by omega))
      have hw1 : w.heap.size ≤ w1.heap.size := HT1.out.size
      clear hi ho t1 c1 hp1 hx hr T1 hnb
      generalize numV bs = vv at *
      go_wp2_with fail
      refine T2.out.mono ?_
      rintro r w2 ⟨rfl, v2, hp2, st2⟩
      rw [HNB.out, List.nil_append] at hp2
      have T3 := Lib.hid (pbytes_any _ _ _ _ w2 hp2 (by omega))
      have HT2 := Lib.hid ((HT1.out.alloc (.cells #[.slice none 0 0] 26)).trans st2.1 (fun i hi h => h.elim (fun h => by omega) (fun h => by cases h)))
      clear hp2 st2 T2 c2 HNB
      go_wp2_with fail
      refine T3.out.mono ?_
      rintro r w3 ⟨u3, rfl, ho3, t3⟩
      obtain ⟨A3, c3, rfl, hs3, hl3, -⟩ := own_sl ho3
      have hs4 := (HT2.out.trans t3 (fun _ _ h => h)).sl hs (fun _ _ h => h)
      have T4 := Lib.hid (rbytes_any A3 A c3 c _ _ bs bs w3 hs3 hs4 (by unfold maxLen; omega) (by unfold maxLen; omega))
      have HT3 := Lib.hid (HT2.out.trans t3 (fun _ _ h => h))
      have hd : decide (bs = bs) = true := decide_eq_true rfl
      rw [hd] at T4
      clear hs3 hs4 ho3 t3 hl3 hd T3
      go_wp2_with (first
        | (go_at_call 15; refine T4.out.mono ?_; rintro r w4 ⟨rfl, n4, rfl⟩)
        | (go_at_call 7; refine (AW.out _).mono ?_; rintro r w9 ⟨rfl, t9⟩))
      go_ret
      exact ⟨rfl, (HT3.out.drewN n4).trans t9 (fun _ _ h => h)⟩
    · have hi : (if numR bs = [] then (0 : Int) else 3) = 3 := if_neg hr
      rw [hi]
      have HT1 := Lib.hid t1
      clear hi hr hx ho t1
      go_wp2_with (go_at_call 7; refine (AW.out _).mono ?_; rintro r w9 ⟨rfl, t9⟩)
      go_ret
      exact ⟨rfl, (((Turn.refl (fun _ => False) w).alloc _).trans HT1.out (fun i hi h => by omega)).trans t9 (fun _ _ h => h)⟩
  · have hk0 : ¬ ((k : Int) = 0) := by omega
    have HT1 := Lib.hid t1
    clear hk hx t1
    go_wp2_with (go_at_call 7; refine (AW.out _).mono ?_; rintro r w9 ⟨rfl, t9⟩)
    go_ret
    exact ⟨rfl, (((Turn.refl (fun _ => False) w).alloc _).trans HT1.out (fun i hi h => by omega)).trans t9 (fun _ _ h => h)⟩
theorem fieldOne_walk (A : Option Addr) (c : Nat) (bs : List B8) (w : World) (hs : Sl w w.heap.size A (bs.map bv)) (hA : A = none → c = 0) (hc : bs.length ≤ c) (hm : bs.length ≤ maxLen) :
    Calls Try.prog 6 #[.slice A bs.length c] w fun e w' => e = .returned (.bool true) ∧ Below w.heap.size w w' :=
  (fieldOne_any A c bs w hs hA hc hm).mono fun _ _ ⟨h, t⟩ => ⟨h, t.below (fun _ _ h => h.elim) (Nat.le_refl _)⟩
end Go.Proofs.Ytjfjminfpdgcmaa
