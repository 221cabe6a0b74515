/- 'awake', over what 'Leaves' and 'Next' come to. -/
import Derived.Test.YtoagneibaincpaaDoorHlR
set_option linter.unusedVariables false
set_option linter.unusedSimpArgs false
namespace Go.Proofs.YtoagneibaincpaaDoor
open Go.RowKit
attribute [local go_sem ↓] loadAt_hd loadAt_id
attribute [local go_sem] run_hdLoad run_idLoad rowOf_drew rowOf_drewN
/-- What 'Leaves' is to come to. -/
def CLeaves : Prop := ∀ (A : Option Addr) (c : Nat) (b : List B8) (e : Ent) (n : Nat) (w : World), Bts w A b → (A = none → c = 0) → b.length ≤ c → b.length ≤ 1000000 → e.d.length = 32 → n < 18446744073709551616 →
    Calls Tryd.prog 18 #[.slice A b.length c, .agg e.cells.toArray, .int .u64 (n : Int)] w fun r w' => Turn (fun _ => False) w w' ∧ (if okL e n then ∃ g, r = .returned (.tuple #[.slice (some ⟨g, 0, none⟩) 3 3, .bool true]) ∧ w.heap.size ≤ g ∧ LstN w' (some ⟨g, 0, none⟩) [b, formE e, numB n] else r = .returned (.tuple #[.slice none 0 0, .bool false]))
/-- What 'Next' is to come to. -/
def CNext : Prop := ∀ (prev : Hdr) (first : Bool) (A : Option Addr) (c n : Nat) (ls : List (List B8)) (shard epoch : Int) (w : World), n = ls.length → prev.L → LstN w A ls → n ≤ c → (A = none → c = 0) → (∀ xs ∈ ls, xs.length ≤ 1000000) → Glob w →
    Calls Tryd.prog 20 #[.agg prev.cells.toArray, .bool first, .slice A n c, .int .i64 shard, .int .i64 epoch] w (NPost prev first n (rootD ls) shard epoch w)
theorem formE_le (e : Ent) (hd : e.d.length = 32) (h : okB e) : (formE e).length ≤ 100 := by
  unfold okB at h
  unfold formE
  have n1 := numB_le (n := e.k.toNat) (by omega)
  have n2 := numB_le (n := e.s.toNat) (by omega)
  have n3 := numB_le (n := e.a) (by omega)
  have n4 := numB_le (n := e.y.toNat) (by omega)
  have n5 := numB_le (n := e.p.toNat) (by omega)
  simp only [List.length_append]
  omega
def e3H : Ent := ⟨3, 0, zeros 32, 0, 0, 0⟩
theorem okL_e3 : okL e3H 5 := by unfold okL okB e3H; decide
set_option maxRecDepth 100000 in
set_option maxHeartbeats 4000000 in
theorem hawake_of (CL : CLeaves) (CN : CNext) (w : World) (hG : Glob w) : Calls Tryd.prog 13 #[] w fun r w' => r = .returned (.bool true) ∧ Turn (fun _ => False) w w' := by
  obtain ⟨w1, hw1⟩ : ∃ w1, w1 = w.alloc (.cells #[.int .u8 1] 5) := ⟨_, rfl⟩
  have t1 : Turn (fun _ => False) w w1 := by rw [hw1]; exact (Turn.refl _ _).alloc _
  have hB : Bts w1 (some ⟨w.heap.size, 0, none⟩) [1] := by
    rw [hw1]; exact bts_rowT (d := [1]) (heap_alloc_new w _)
  have L1 := CL (some ⟨w.heap.size, 0, none⟩) 1 [1] e3H 5 w1 hB (fun h => by cases h) (Nat.le_refl _) (by decide) rfl (by decide)
  simp only [if_pos okL_e3] at L1
  have L1 := Lib.hid L1
  obtain ⟨F, hF⟩ : ∃ F, F = formE e3H := ⟨_, rfl⟩
  have hFl : F.length ≤ 100 := by rw [hF]; exact formE_le e3H rfl okL_e3.1
  rw [← hF] at L1
  obtain ⟨R, hR⟩ : ∃ R, R = rootD [[1], F, numB 5] := ⟨_, rfl⟩
  have hR32 : R.length = 32 := by rw [hR]; exact rootD_len _
  have hok : okN HZ true 3 R 2 0 := ⟨rfl, .inl rfl, by unfold nxB okH; simp⟩
  have hV : nxV HZ true 3 R 2 0 = ⟨2, 1, 0, zeros 32, R⟩ := by unfold nxV; rw [if_pos hok]; rfl
  have N1 := Lib.hid (fun (g : Nat) (w' : World) (hL : LstN w' (some ⟨g, 0, none⟩) [[1], F, numB 5]) (hg : Glob w') => CN HZ true (some ⟨g, 0, none⟩) 3 3 [[1], F, numB 5] 2 0 w' rfl HZ_L hL (Nat.le_refl _) (fun h => by cases h) (by
    intro xs hx
    simp only [List.mem_cons, List.not_mem_nil, or_false] at hx
    rcases hx with rfl | rfl | rfl
    · decide
    · omega
    · have := numB_le (n := 5) (by decide); omega) hg)
  unfold NPost at N1
  rw [← hR, hV, decide_eq_true hok] at N1
  have hL : (Hdr.mk 2 1 0 (zeros 32) R).L := ⟨rfl, hR32⟩
  have TR := Lib.hid (fun w => hright_any ⟨2, 1, 0, zeros 32, R⟩ w hL)
  rw [show decide (okH ⟨2, 1, 0, zeros 32, R⟩) = true from decide_eq_true (by unfold okH; simp)] at TR
  obtain ⟨C, hC⟩ : ∃ C, C = (Hdr.mk 2 1 0 (zeros 32) R).cells.toArray := ⟨_, rfl⟩
  rw [← hC] at N1 TR
  have sC : C.size = 67 := by rw [hC, List.size_toArray, Hdr.len _ hL]
  have K1 := Lib.hid (show (Tryd.prog.info? 25).map (·.size) = some C.size by rw [sC]; exact hd_info)
  have K2 := Lib.hid (show Z67H.size = C.size by rw [sC]; rfl)
  have K3 := Lib.hid (show C.all (·.oneCell') = true by rw [hC]; exact Hdr.one _)
  have HH := Lib.hid (show ∀ (w' : World) (b : Nat), w'.heap[b]? = some (.cells C 25 (0, 0)) → (w'.cell? ⟨b, 0, none⟩ = some (.int .i64 2) ∧ w'.cell? ⟨b, 1, none⟩ = some (.int .i64 1)) ∧ rowOf w' b 3 32 = some ZIdT ∧ rowOf w' b 0 67 = some C from fun w' b h => by
    have g : HAt w' b ⟨2, 1, 0, zeros 32, R⟩ := by unfold HAt; rw [← hC]; exact h
    refine ⟨⟨g.c.1, g.c.2.1⟩, g.dig hL, ?_⟩
    rw [hC]; exact g.row hL)
  have hI := fun w => eq_id (zeros 32) (zeros 32) rfl rfl w
  rw [show decide (zeros 32 = zeros 32) = true from decide_eq_true rfl] at hI
  change ∀ w, (Op.equalIn 10000 23 (.agg ZIdT) (.agg ZIdT)).run Tryd.prog w = .ok true w at hI
  have hzd := hd_zero
  have GL := Lib.hid (fun (w' : World) (t : Turn (fun _ => False) w1 w') => show Glob w' from glob_turn (glob_turn hG t1) t)
  have T1 := Lib.hid t1
  clear t1 hB hF hFl hR hR32 hok hV hL hC sC hG
  go_enter Tryd.func13, Tryd.ntmps13
  go_wp2_with (go_at_call 18; refine stop ?_)
  unfold Stop
  change Calls _ _ _ (w.alloc (.cells #[.int .u8 1] 5)) _
  rw [← hw1]
  clear hw1
  refine L1.out.mono ?_
  rintro r w2 ⟨t2, g, rfl, hg, hl⟩
  have T2 := Lib.hid t2
  have N2 := Lib.hid (N1.out g w2 hl (GL.out w2 t2))
  clear t2 hg hl N1 L1
  go_wp2_with (go_at_call 20; refine stop ?_)
  unfold Stop
  refine N2.out.mono ?_
  rintro r w3 ⟨rfl, t3⟩
  have HA := Lib.hid (show (w3.alloc (.cells Z67H 25)).heap[w3.heap.size]? = some (.cells Z67H 25 (0, 0)) from heap_alloc_new _ _)
  have T3 := Lib.hid (T2.out.trans t3 (fun _ _ h => h))
  clear t3 N2
  go_upto_region 3 with (refine wpList_store_row rfl _ _ _ rfl w3.heap.size C rfl rfl 25 Z67H HA.out K1.out K2.out K3.out ?_)
  obtain ⟨w4, hw4⟩ : ∃ w4, w4 = (w3.alloc (.cells Z67H 25)).setRow w3.heap.size C := ⟨_, rfl⟩
  have T4 := Lib.hid (show Turn (fun _ => False) w1 w4 by rw [hw4]; exact T3.out.trans (((Turn.refl (fun _ => False) w3).alloc _).setRow _ _ (fun h => by omega)) (fun _ _ h => h))
  have r4 : w4.heap[w3.heap.size]? = some (.cells C 25 (0, 0)) := by rw [hw4]; exact setRow_heap _ _ _ _ _ _ HA.out
  obtain ⟨⟨c0, c1⟩, cd, cr⟩ := HH.out w4 _ r4
  change Code.wp _ _ _ _ ((w3.alloc (.cells Z67H 25)).setRow w3.heap.size C)
  rw [← hw4]
  clear hw4 HA r4
  go_wp2_with (go_at_call 10; refine stop ?_)
  unfold Stop
  refine (TR.out w4).mono ?_
  rintro r w5 ⟨rfl, t5⟩
  have T5 := Lib.hid (T4.out.trans t5 (fun _ _ h => h))
  clear t5 c0 c1 cd cr
  go_wp2
  go_ret
  exact ⟨rfl, T1.out.trans T5.out (fun _ _ h => h)⟩
end Go.Proofs.YtoagneibaincpaaDoor
