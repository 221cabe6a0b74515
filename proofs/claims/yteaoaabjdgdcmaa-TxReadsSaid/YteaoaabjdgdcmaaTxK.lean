/- The contracts of 'putOuts', of 'Put' and of 'Size'. -/
import Derived.Test.YteaoaabjdgdcmaaTxJ
set_option linter.unusedVariables false
set_option linter.unusedSimpArgs false
namespace Go.Proofs.Yteaoaabjdgdcmaa
open Go.RowKit
set_option maxRecDepth 100000 in
theorem Pout.idr {w : World} {g : Nat} {p : Pout} {t : TypeId} {fr : Nat × Nat} (h : w.heap[g]? = some (.cells p.cells.toArray t fr)) : w.rangeAt g 0 (p.d.map bv) := fun j v hj => by
  rw [cell_of_row w g _ _ _ _ h, List.getElem?_toArray, Nat.zero_add]
  unfold Pout.cells
  rw [List.getElem?_append_left (List.getElem?_eq_some_iff.1 hj).1]; exact hj
set_option maxRecDepth 100000 in
theorem Pout.cell {w : World} {g : Nat} {p : Pout} {t : TypeId} {fr : Nat × Nat} (h : w.heap[g]? = some (.cells p.cells.toArray t fr)) (hd : p.d.length = 32) : w.cell? ⟨g, 32, none⟩ = some (.int .u64 (p.n : Int)) := by
  rw [cell_of_row w g _ _ _ _ h, List.getElem?_toArray]; exact p.at hd
set_option maxRecDepth 100000 in
set_option maxHeartbeats 4000000 in
theorem putOuts_any (p B B0 : Nat) (v : Value) (xs : List B8) (A : Option Addr) (c : Nat) (l : List Pout) (w : World) (h : PenAt w p B v xs) (hI : OutsAt w B0 A l) (hB : B0 ≤ p) (hl : l.length ≤ 16) (hlen : xs.length ≤ 1000000) :
    Calls Try.prog 43 #[.pointer (some ⟨p, 0, none⟩), .slice A l.length c] w fun r w' => r = .returned (.tuple #[]) ∧ ∃ v', PenAt w' p B v' (xs ++ (numB l.length ++ outsF l)) ∧ PenStep w w' p v v' := by
  have hzd := zero_out
  change ∀ w, _ = Result.ok (Value.agg ZOut) w at hzd
  have T0 := Lib.hid (pnum_any p B v xs l.length w h (by omega) (by omega))
  have hnl := numB_le (n := l.length) (by omega)
  have HI := Lib.hid hI
  have HH := Lib.hid h
  have HK := Lib.hid (fun k => outsF_le (l := l.take k) (fun p hp => hI.oks p (List.mem_of_mem_take hp)))
  clear h hI
  go_enter Try.func43, Try.ntmps43
  go_wp2_with fail
  refine T0.out.mono ?_
  rintro r w1 ⟨rfl, v1, hp1, st1⟩
  have HP1 := Lib.hid hp1
  have HS1 := Lib.hid st1
  clear hp1 st1 T0
  go_wp2
  go_loopw [13] (fun i wr => ∃ (k : Nat) (u : Value), k ≤ l.length ∧ i = .int .i64 k ∧ PenAt wr p B u (xs ++ (numB l.length ++ outsF (l.take k))) ∧ PenStep w wr p v u) (fun i _ => l.length - (intOf i).toNat)
  case atStart => exact ⟨0, v1, Nat.zero_le _, rfl, by simpa [outsF] using HP1.out, HS1.out⟩
  case round =>
    clear HP1 HS1
    obtain ⟨k, u, hk, rfl, hp, hst⟩ := hrel
    by_cases hlt : k < l.length
    · have hlk := List.getElem?_eq_getElem hlt
      obtain ⟨hok, b, o, rfl, hbb, hr⟩ := HI.out k l[k] hlk
      have hlow : ∀ i, i < B0 → ¬ (i = p ∨ some i = v.ownBlock) := fun i hi => HH.out.low (by omega)
      have hr1 := hst.1.range hr (hlow b hbb)
      have HSUC := Lib.hid (outsF_succ hlt)
      have hxl : (xs ++ (numB l.length ++ outsF (l.take k))).length ≤ 1002000 := by
        have := HK.out k
        rw [List.length_take] at this
        simp only [List.length_append]; omega
      obtain ⟨q, hq⟩ : ∃ q, q = l[k] := ⟨_, rfl⟩
      rw [← hq] at hok hr1 hlk HSUC
      have hin : outF q = q.d ++ numB q.n := rfl
      have HL := Lib.hid (show (Try.prog.info? 43).map (·.size) = some q.cells.length by rw [q.len hok.d]; kernel_rfl)
      obtain ⟨D, hD⟩ : ∃ D, D = q.cells.toArray := ⟨_, rfl⟩
      have sD : D.size = 33 := by rw [hD, List.size_toArray, q.len hok.d]
      have H1 := Lib.hid (show (Try.prog.info? 43).map (·.size) = some D.size by rw [sD]; kernel_rfl)
      have H2 := Lib.hid (show ZOut.size = D.size by rw [sD]; rfl)
      have H3 := Lib.hid (show D.all (·.oneCell') = true by rw [hD]; exact q.one)
      have HR := Lib.hid hr1
      obtain ⟨hp0, hf0, hst0⟩ := hp.new (.cells D 43)
      obtain ⟨w0, hw0⟩ : ∃ w0, w0 = wr.alloc (.cells D 43) := ⟨_, rfl⟩
      obtain ⟨g, hg⟩ : ∃ g, g = wr.heap.size := ⟨_, rfl⟩
      have hg0 : w0.heap[g]? = some (.cells q.cells.toArray 43 (0, 0)) := by rw [hw0, hg, ← hD]; exact heap_alloc_new wr _
      rw [← hw0] at hp0 hf0 hst0
      rw [← hg] at hf0
      obtain ⟨C, hC⟩ : ∃ C, C = (q.d.map bv).toArray := ⟨_, rfl⟩
      have HLI := Lib.hid (show (Try.prog.info? 37).map (·.size) = some (q.d.map bv).length by rw [List.length_map, hok.d]; kernel_rfl)
      have T1 := Lib.hid (pid_any p B u _ q.d w0 hp0 hok.d (by omega))
      rw [← hC] at T1
      have RI := Lib.hid (Pout.idr hg0)
      have HG0 := Lib.hid hg0
      have HF0 := Lib.hid hf0
      have HDD := Lib.hid hD
      have HCC := Lib.hid hC
      have HIN := Lib.hid hin
      have HST := Lib.hid hst
      have HST0 := Lib.hid hst0
      have hn64 := hok.n
      have HQD := Lib.hid hok.d
      have HPL := Lib.hid hp0
      have HW0 := Lib.hid hw0
      have HGG := Lib.hid hg
      have CELLS := Lib.hid (fun (w' : World) (hg : w'.heap[g]? = some (.cells q.cells.toArray 43 (0, 0))) => Pout.cell hg hok.d)
      clear hr hr1 hok hp hq hlk hD sD hC hin hst hst0 hp0 hf0 hg0 hlow hw0 hg
      go_wp2_with (first
        | (refine wpList_load_mid (op := ⟨some 16, _, _, _, _, _⟩) rfl _ _ rfl b (o + k * 33) rfl q.cells _ HR.out Try.underlying43 rfl HL.out ?_; rw [← HDD.out])
        | (refine wpList_store_row (o := ⟨none, .store 43 _ _, _, _, _, _⟩) rfl _ _ _ rfl wr.heap.size D rfl rfl 43 _ (heap_alloc_new wr _) H1.out H2.out H3.out ?_; rw [World.setRow_alloc_new, ← HW0.out, ← HGG.out])
        | (refine wpList_load_mid (op := ⟨some 19, _, _, _, _, _⟩) rfl _ _ rfl g 0 rfl (q.d.map bv) _ RI.out Try.underlying37 rfl HLI.out ?_; rw [← HCC.out]))
      refine T1.out.mono ?_
      rintro r w2 ⟨rfl, v2, hp2, st2⟩
      have hg2 := st2.heap HF0.out HG0.out
      have c32 := CELLS.out _ hg2
      have T2 := Lib.hid (pnum_any p B v2 _ q.n w2 hp2 hn64 (by have := HQD.out; simp only [List.length_append] at hxl ⊢; omega))
      have ST2 := Lib.hid (HST0.out.trans st2)
      clear hg2 hp2 st2 T1
      go_wp2_with fail
      refine T2.out.mono ?_
      rintro r w5 ⟨rfl, v5, hp5, st5⟩
      have HP5 := Lib.hid hp5
      have ST5 := Lib.hid (ST2.out.trans st5)
      clear hp5 st5 T2
      go_wp2
      go_roundw
      case rel => exact ⟨k + 1, v5, by omega, by go_num, by rw [HSUC.out, HIN.out]; have h := HP5.out; simp only [List.append_assoc] at h ⊢; exact h, HST.out.trans ST5.out⟩
      case measure => simp [intOf]; omega
    · obtain rfl : k = l.length := by omega
      rw [List.take_length] at hp
      have HP := Lib.hid hp
      have HS := Lib.hid hst
      clear hp hst
      go_wp2
      first | go_end0 | refine bodyPost_ret (results_none rfl _ _ _) rfl ?_
      exact ⟨rfl, u, HP.out, HS.out⟩
end Go.Proofs.Yteaoaabjdgdcmaa
