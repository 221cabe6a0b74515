/- 'EntryReads': its walk. -/
import Derived.Test.YtomflniknnenaaaEnL
import Derived.Test.YtomflniknnenaaaEnO
import Derived.OpenShut
import Derived.ChangeSlices
set_option linter.unusedVariables false
set_option linter.unusedSimpArgs false
namespace Go.Proofs.Ytomflniknnenaaa
open Go.RowKit Go.ChangeShapes Go.WideShapes Go.ChangeAt
theorem open_bytes {H : Type} {enc : TypeId × Value → H} {P : Program} {W : World} {r : Reach} {b0 : Nat} {t e : TypeId} {v : Value} {d : DataW H} {p : List MemPlace} (ht : P.underlying t = some (.slice e)) (he : P.underlying e = some (.int .u8)) (hc : P.cellsOf e = 1)
    (hval : Value.okWide P W r b0 t v) (hd : DataW.Trod enc P W 0 (fun _ => true) true t v d p) :
    ∃ (A : Option Addr) (c : Nat) (xs : List B8), v = .slice A xs.length c ∧ Sl W W.heap.size A (xs.map bv) ∧ (A = none → c = 0) ∧ xs.length ≤ c ∧ xs.length ≤ maxLen := by
  obtain ⟨a0, len, cap, rfl⟩ := okWide_slice ht hval
  obtain ⟨fuel, hf⟩ := hd
  rcases open_ints ht he hc hf with ⟨hcs, hx⟩ | ⟨a, len', cap', zs, hcs, _, hl, hm, hz, hx, hcell, hwz⟩
  · simp [Value.cells] at hcs
    obtain ⟨rfl, rfl, rfl⟩ := hcs
    exact ⟨_, 0, [], rfl, Sl.none _ _ _, (fun _ => rfl), by simp, by simp⟩
  · simp [Value.cells] at hcs
    obtain ⟨rfl, rfl, rfl⟩ := hcs
    have hzl : zs.length = cap := by simpa using hz
    have hlen : ((zs.take len).map fun z => BitVec.ofNat 8 z.toNat).length = len := by simp; omega
    refine ⟨some a, cap, (zs.take len).map (fun z => BitVec.ofNat 8 z.toNat), by rw [hlen], ?_, (fun h => by cases h), by omega, by omega⟩
    intro j u hu
    simp only [List.map_map, List.getElem?_map, Option.map_eq_some_iff] at hu
    obtain ⟨z, hz1, rfl⟩ := hu
    have hj : j < len := by have := (List.getElem?_eq_some_iff.1 hz1).1; simp at this; omega
    have hzj : zs[j]? = some z := by rw [List.getElem?_take, if_pos hj] at hz1; exact hz1
    have h1 := hcell j (by omega)
    have hb := bounds_u8 (hwz z (List.mem_of_getElem? hzj))
    refine ⟨a, rfl, ?_, ?_⟩
    · have := World.block_lt_of_cell? W _ h1
      rwa [add_block] at this
    · rw [h1, List.getD, hzj]
      simp only [Option.getD_some, Function.comp, bv, BitVec.toNat_ofNat]
      rw [Nat.mod_eq_of_lt (by omega)]
      congr 2
      omega
attribute [local go_sem ↓] loadAt_en loadAt_id
attribute [local go_sem] run_enLoad run_idLoad rowOf_drew rowOf_drewN
theorem readV_len (b : List B8) : (readV b).d.length = 32 := by
  unfold readV
  split
  · rfl
  · rename_i h
    have hx : xE b = 0 := by
      unfold readE at h
      split at h <;> omega
    exact bodV_len (xE_zero hx).1
set_option maxRecDepth 100000 in
/-- A block that holds these cells, in each world behind. -/
theorem row37_at {w w' : World} {b : Nat} {C : Array Value} {t : TypeId} (h : w.heap[b]? = some (.cells C t (0, 0))) (hC : C.size = 37) (k : Turn (fun _ => False) w w') : rowOf w' b 0 37 = some C := by
  have e : C = C.toList.toArray := by simp
  have g := k.heap h (fun h => h)
  rw [e] at g ⊢
  have := rowOf_block g 0 37 (by simp; omega)
  rw [List.drop_zero, List.take_of_length_le (by simp; omega)] at this
  exact this
set_option maxRecDepth 100000 in
set_option maxHeartbeats 4000000 in
theorem entryReads_any (A : Option Addr) (c : Nat) (b : List B8) (w : World) (hs : Sl w w.heap.size A (b.map bv)) (hA : A = none → c = 0) (hc : b.length ≤ c) (hm : b.length ≤ maxLen) :
    Calls Try.prog 4 #[.slice A b.length c] w fun e w' => e = .returned (.bool true) ∧ Turn (fun _ => False) w w' := by
  have AW := Lib.hid awake_any
  by_cases h1 : 100 < b.length
  · have t0 : decide (100 < (b.length : Int)) = true := by rw [decide_eq_true_eq]; omega
    go_enter Try.func4, Try.ntmps4
    go_wp2_with (go_at_call 10; refine (AW.out _).mono ?_; rintro r w9 ⟨rfl, t9⟩)
    go_ret
    exact ⟨rfl, t9⟩
  have t0 : decide (100 < (b.length : Int)) = false := by rw [decide_eq_false_iff_not]; omega
  have T1 := Lib.hid (read_any' A c b w hs hA hc (by omega))
  have T2 := Lib.hid (fun w' (k : Turn (fun _ => False) w w') => eread_any A c b w' ((k.sl hs (fun _ _ h => h)).more k.size) hA hc (by omega))
  have hQ := fun w => eql_in_ent (readV b) (readV b) (readV_len b) (readV_len b) w
  rw [show decide (readV b = readV b) = true from decide_eq_true rfl] at hQ
  obtain ⟨C, hC⟩ : ∃ C, C = (readV b).cells.toArray := ⟨_, rfl⟩
  obtain ⟨E, hE⟩ : ∃ E, E = readE b := ⟨_, rfl⟩
  rw [← hC] at hQ
  rw [← hC, ← hE] at T1
  simp only [← hC, ← hE] at T2
  have sC : C.size = 37 := by rw [hC, List.size_toArray, Ent.len _ (readV_len b)]
  have K1 := Lib.hid (show (Try.prog.info? 26).map (·.size) = some C.size by rw [sC]; exact en_info)
  have K2 := Lib.hid (show Z37E.size = C.size by rw [sC]; rfl)
  have K3 := Lib.hid (show C.all (·.oneCell') = true by rw [hC]; exact Ent.one _)
  have HSC := Lib.hid sC
  have hzd := en_zero
  obtain ⟨bl, hbl⟩ : ∃ bl, bl = b.length := ⟨_, rfl⟩
  rw [← hbl] at T1 T2 t0 ⊢
  clear hs hA hc hm h1 hC hE sC hbl
  go_enter Try.func4, Try.ntmps4
  go_wp2_with fail
  refine T1.out.mono ?_
  rintro r w1 ⟨rfl, t1⟩
  have HA := Lib.hid (show (w1.alloc (.cells Z37E 26)).heap[w1.heap.size]? = some (.cells Z37E 26 (0, 0)) from heap_alloc_new _ _)
  have HT1 := Lib.hid t1
  clear t1 T1
  go_upto_region 4 with (refine wpList_store_row rfl _ _ _ rfl w1.heap.size C rfl rfl 26 Z37E HA.out K1.out K2.out K3.out ?_)
  obtain ⟨w2, hw2⟩ : ∃ w2, w2 = (w1.alloc (.cells Z37E 26)).setRow w1.heap.size C := ⟨_, rfl⟩
  have HT2 := Lib.hid (show Turn (fun _ => False) w w2 by rw [hw2]; exact HT1.out.trans (((Turn.refl (fun _ => False) w1).alloc _).setRow _ _ (fun h => by omega)) (fun _ _ h => h))
  have R2 := Lib.hid (show w2.heap[w1.heap.size]? = some (.cells C 26 (0, 0)) by rw [hw2]; exact setRow_heap _ _ _ _ _ _ HA.out)
  change Code.wp _ _ _ _ ((w1.alloc (.cells Z37E 26)).setRow w1.heap.size C)
  rw [← hw2]
  clear hw2 HA HT1
  generalize w1.heap.size = p1 at *
  go_wp2_with fail
  refine (T2.out w2 HT2.out).mono ?_
  rintro r w3 ⟨rfl, t3⟩
  have HA := Lib.hid (show (w3.alloc (.cells Z37E 26)).heap[w3.heap.size]? = some (.cells Z37E 26 (0, 0)) from heap_alloc_new _ _)
  have HT3 := Lib.hid t3
  clear t3
  go_upto_region 5 with (refine wpList_store_row rfl _ _ _ rfl w3.heap.size C rfl rfl 26 Z37E HA.out K1.out K2.out K3.out ?_)
  obtain ⟨w4, hw4⟩ : ∃ w4, w4 = (w3.alloc (.cells Z37E 26)).setRow w3.heap.size C := ⟨_, rfl⟩
  have t24 : Turn (fun _ => False) w2 w4 := by rw [hw4]; exact HT3.out.trans (((Turn.refl (fun _ => False) w3).alloc _).setRow _ _ (fun h => by omega)) (fun _ _ h => h)
  have r4 : w4.heap[w3.heap.size]? = some (.cells C 26 (0, 0)) := by rw [hw4]; exact setRow_heap _ _ _ _ _ _ HA.out
  have q1 := row37_at R2.out HSC.out t24
  have q2 := row37_at r4 HSC.out (Turn.refl _ _)
  have HT4 := Lib.hid (HT2.out.trans t24 (fun _ _ h => h))
  change Code.wp _ _ _ _ ((w3.alloc (.cells Z37E 26)).setRow w3.heap.size C)
  rw [← hw4]
  clear hw4 HA HT3 t24 r4 R2
  go_wp2_with (go_at_call 10; refine stop ?_)
  unfold Stop
  refine (AW.out w4).mono ?_
  rintro r w5 ⟨rfl, t5⟩
  have HT5 := Lib.hid (HT4.out.trans t5 (fun _ _ h => h))
  clear t5 q1 q2
  go_wp2
  go_ret
  exact ⟨rfl, HT5.out⟩
set_option maxRecDepth 100000 in
theorem entryReads_walk (A : Option Addr) (c : Nat) (b : List B8) (w : World) (hs : Sl w w.heap.size A (b.map bv)) (hA : A = none → c = 0) (hc : b.length ≤ c) (hm : b.length ≤ maxLen) :
    Calls Try.prog 4 #[.slice A b.length c] w fun e w' => e = .returned (.bool true) ∧ Below w.heap.size w w' :=
  (entryReads_any A c b w hs hA hc hm).mono fun _ _ ⟨h1, h2⟩ => ⟨h1, turn_stp' h2⟩
end Go.Proofs.Ytomflniknnenaaa
