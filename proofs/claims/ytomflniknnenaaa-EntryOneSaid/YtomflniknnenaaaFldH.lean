/- The contracts of the pen's 'Text', 'Id' and 'Bytes'. -/
import Derived.Test.YtomflniknnenaaaFldG
set_option linter.unusedVariables false
namespace Go.Proofs.Ytomflniknnenaaa
open Go.RowKit
theorem pbytes_any (p B : Nat) (v : Value) (xs : List B8) (w : World) (h : PenAt w p B v xs) (hlen : xs.length ≤ 1099511627776) :
    Calls Try.prog 17 #[.pointer (some ⟨p, 0, none⟩)] w fun r w' => ∃ u, r = .returned u ∧ w'.ownsRow w.heap.size 5 1 u xs.length (xs.map bv) ∧ Turn (fun _ => False) w w' := by
  obtain ⟨c0, z0⟩ := h.cell
  obtain ⟨A, c, rfl, hs, -, hc, hA⟩ := own_sl h.2.1
  have T := Lib.hid (clone_any A c _ xs w hs hA hc hlen)
  clear h hs
  go_enter Try.func17, Try.ntmps17
  go_wp2_with (go_at_call 26; refine T.out.mono ?_; rintro r w1 ⟨u1, rfl, ho1, ht1⟩; have HO1 := Lib.hid ho1; have HT1 := Lib.hid ht1; clear ho1 ht1)
  go_ret
  exact ⟨u1, rfl, HO1.out, HT1.out⟩
theorem slice_idn (b : Nat) (w : World) : (Instr.sliceAt 23 (.pointer (some ⟨b, 0, none⟩)) none none none).run Try.prog w = .ok (.slice (some ⟨b, 0, none⟩) 32 32) w := by
  have e : Try.prog.arrayLen 23 = 32 := by kernel_rfl
  rw [run_sliceAt_array_all (P := Try.prog) w 23 ⟨b, 0, none⟩ (by kernel_rfl)]
  rw [show Try.prog.elem 23 = 5 by kernel_rfl, size_u8, e]
  simp [Result.andThen, slicedAt, Addr.add]
set_option maxHeartbeats 1000000 in
theorem pid_any (p B : Nat) (v : Value) (xs d : List B8) (w : World) (h : PenAt w p B v xs) (hd : d.length = 32) (hlen : xs.length + 32 ≤ 1099511627776) :
    Calls Try.prog 16 #[.pointer (some ⟨p, 0, none⟩), .agg (d.map bv).toArray] w fun r w' => r = .returned (.tuple #[]) ∧ ∃ v', PenAt w' p B v' (xs ++ d) ∧ PenStep w w' p v v' := by
  obtain ⟨i0, hi, hz0, hz1, hz2⟩ := info_parts info_u8
  obtain ⟨C, hC⟩ : ∃ C, C = (d.map bv).toArray := ⟨_, rfl⟩
  rw [← hC]
  have HC := Lib.hid hC
  have HH := Lib.hid h
  obtain ⟨c0, z0⟩ := h.cell
  have r1 := slice_idn
  have c6 : ∀ o, (w.alloc o).cell? ⟨p, 0, none⟩ = some v := fun o => (World.cell?_of_block (w := w) (Below.heap_alloc w o p (lt_of_block h.1))).trans c0
  have hl9 : B ≤ w.heap.size + 1 := by have := h.2.2.2; omega
  have hn9 : xs.length + 32 ≤ maxLen := by unfold maxLen; omega
  have HN9 := Lib.hid hn9
  have HO := Lib.hid h.2.1
  have HD := Lib.hid hd
  have HNW := Lib.hid (show ∀ j u, (d.map bv)[j]? = some u → ((w.alloc (.cells C 23)).drew).cell? ((⟨w.heap.size, 0, none⟩ : Addr).add j) = some u from fun j u hu => World.news_of_block (cs := C) (t := 23) (fr := (0, 0)) (heap_alloc_new w _) j u (by rw [hC]; exact hu))
  have HDL := Lib.hid (show (d.map bv).length = 32 * 1 by simp [hd])
  have HOW := Lib.hid (fun (v1 : Value) (w1 : World) (h1 : w1.ownsRow B 5 1 v1 (xs.length + 32) (xs.map bv ++ d.map bv)) => show w1.ownsRow B 5 1 v1 (xs.length + d.length) (xs.map bv ++ d.map bv) by rw [hd]; exact h1)
  clear h hC hn9 hd
  go_enter Try.func16, Try.ntmps16
  go_wp2
  go_region_law ((refine step_append_lies _ (by rfl) _ _ _ (by rfl) B 5 i0 _ 1 1 Try.underlying27 hi hz0 hz1 hz2 rfl (by omega) v xs.length (xs.map bv) (by rfl) ((HO.out.alloc _).drew) ⟨w.heap.size, 0, none⟩ 32 32 (d.map bv) (by rfl) HDL.out HNW.out (bv_one d) (by omega) HN9.out (by omega) (by simpa using hl9) (w.heap.size + 1) (by simp) ?_; intro gg cap w5 hown5 hgrow5 hat5 hlt5; have HPS5 := Lib.hid (pen_store (ys := d) HH.out (((Turn.refl _ w).alloc (.cells C 23)).drew) (HOW.out _ _ hown5) hgrow5 (hat5.imp (fun e => e.symm) (fun e => ⟨gg, rfl, by omega⟩))); have c5 := pen_cell HH.out (((Turn.refl _ w).alloc (.cells C 23)).drew) hgrow5; obtain ⟨c5, z5⟩ := c5; clear hown5 hgrow5 hat5))
  all_goals
    go_wp2
    first | go_end0 | refine bodyPost_ret (results_none rfl _ _ _) rfl ?_
    exact ⟨rfl, _, HPS5.out.1, HPS5.out.2⟩
end Go.Proofs.Ytomflniknnenaaa
