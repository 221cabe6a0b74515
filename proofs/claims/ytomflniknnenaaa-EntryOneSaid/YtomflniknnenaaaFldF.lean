/- The contract of the eye's 'Id'. -/
import Derived.Test.YtomflniknnenaaaFldE
import Derived.Deep.RegionLaw
import Derived.Laws.CopyOwn
set_option linter.unusedVariables false
namespace Go.Proofs.Ytomflniknnenaaa
open Go.RowKit
theorem step_enter {P : Program} {ops : Array Oper} {o : Oper} {a : Act} {w : World} {K : Act → World → Prop} {Q : Exit → Act → World → Prop} {E : Prop} (hgd : o.guard = none) (f : FuncId) (vs : Array Value) (hrun : (execOp a.eval o).run P w = .ok (.enter f vs) w)
    (h : Calls P f vs w fun
      | .returned v, w'' => K (a.put o.dst v) w''
      | .panicked chain, w'' => Q (.panic chain) a w''
      | .outgrown, _ => LetsOut Q) :
    if Region.wanted o (yielded ops a.tmps) = true then Oper.wp P o a w K Q else E := by
  have hw : Region.wanted o (yielded ops a.tmps) = true := by simp [Region.wanted, hgd]
  rw [if_pos hw]
  unfold Oper.wp
  rw [hrun]
  exact h
theorem slice_idz (b : Nat) (w : World) : (Instr.sliceAt 23 (.pointer (some ⟨b, 0, none⟩)) none none none).run Try.prog w = .ok (.slice (some ⟨b, 0, none⟩) 32 32) w := by
  have e : Try.prog.arrayLen 23 = 32 := by kernel_rfl
  rw [run_sliceAt_array_all (P := Try.prog) w 23 ⟨b, 0, none⟩ (by kernel_rfl)]
  rw [show Try.prog.elem 23 = 5 by kernel_rfl, size_u8, e]
  simp [Result.andThen, slicedAt, Addr.add]
theorem Eye0.alloc {w : World} {e E : Nat} {N : Nat → Prop} {l : List B8} (h : Eye0 w e E N l) (o : Obj) : Eye0 (w.alloc o) e E N l := h.turn ((Turn.refl (fun _ => False) w).alloc o) (fun h => h) (fun h => h) (fun _ h => h.elim)
theorem Eye0.drew {w : World} {e E : Nat} {N : Nat → Prop} {l : List B8} (h : Eye0 w e E N l) : Eye0 w.drew e E N l := h.turn ((Turn.refl (fun _ => False) w).drew) (fun h => h) (fun h => h) (fun _ h => h.elim)
def zero32 : Array Value := ((zeros 32).map bv).toArray
theorem id_no (e E : Nat) (N : Nat → Prop) (l : List B8) (w : World) (h : Eye0 w e E N l) (hx : l.length < 32) :
    Calls Try.prog 33 #[.pointer (some ⟨e, 0, none⟩)] w fun r w' => r = pan E ∧ EyeX w' e E 2 ∧ Turn (fun i => i = e ∨ i = E) w w' := by
  have T2 := Lib.hid (fun w h => take0_no e E N 32 l w h hx)
  have HH := Lib.hid h
  have r1 := slice_idz
  clear h hx
  go_enter Try.func33, Try.ntmps33
  go_wp2
  change Code.wp _ _ _ _ ((w.alloc (.cells zero32 23)).alloc (.cells zero32 23))
  have HH2 := Lib.hid (((HH.out.alloc (.cells zero32 23)).alloc (.cells zero32 23)).drew)
  have HT := Lib.hid ((((Turn.refl (fun i => i = e ∨ i = E) w).alloc (.cells zero32 23)).alloc (.cells zero32 23)).drew)
  refine wp_region_any (by kernel_rfl) ?_
  change wpAny _ _ _ _ _ _ _ (World.drew _)
  refine wpAny_take (i := 0) (v := .slice (some ⟨w.heap.size + 1, 0, none⟩) 32 32) rfl (by kernel_rfl) (by kernel_rfl) (by kernel_rfl) (fun _ _ _ h => h) (Or.inl ⟨by rfl, ?_⟩) ?_
  · intro w2; go_simp
  refine wpAny_take (i := 1) (v := .pointer (some ⟨e, 0, none⟩)) rfl (by kernel_rfl) (by kernel_rfl) (by kernel_rfl) (fun _ _ _ h => h) (Or.inl ⟨by rfl, ?_⟩) ?_
  · intro w2; rfl
  refine wpAny_ready (rs := [2]) (by kernel_rfl) (by simp) ?_
  refine AllReady.cons rfl (fun K hK => ?_) AllReady.nil
  refine step_enter rfl 38 #[.pointer (some ⟨e, 0, none⟩), .int .u64 32] (by go_simp) ?_
  refine (T2.out _ HH2.out).mono ?_
  rintro q w2 ⟨rfl, he2, ht2⟩
  exact ⟨rfl, rfl, he2, HT.out.trans ht2 (fun _ _ h => .inr h)⟩
theorem id_cells (l : List B8) (w : World) (b : Nat) (h : Hid (w.heap[b]? = some (.cells (splice ((zeros 32).map bv) 0 ((l.take 32).map bv)).toArray 23 (0, 0)))) (hl : 32 ≤ l.length) : w.heap[b]? = some (.cells ((l.take 32).map bv).toArray 23 (0, 0)) := by
  rw [h.out]
  congr 3
  unfold splice
  have : (((l.take 32).map bv)).length = 32 := by simp; omega
  simp [zeros]; omega
set_option maxHeartbeats 1000000 in
theorem id_yes (e E : Nat) (N : Nat → Prop) (l : List B8) (w : World) (h : Eye0 w e E N l) (hx : 32 ≤ l.length) :
    Calls Try.prog 33 #[.pointer (some ⟨e, 0, none⟩)] w fun r w' => r = .returned (.agg ((l.take 32).map bv).toArray) ∧ Eye0 w' e E N (l.drop 32) ∧ Turn (fun i => i = e) w w' := by
  have hlt := h.lt
  have T2 := Lib.hid (fun w1 h => take0_yes e E (fun i => N i ∨ w.heap.size ≤ i) 32 l w1 h hx)
  have HH := Lib.hid h.fresh
  have HX := Lib.hid hx
  have r1 := slice_idz
  clear h hx
  go_enter Try.func33, Try.ntmps33
  go_wp2
  change Code.wp _ _ _ _ ((w.alloc (.cells zero32 23)).alloc (.cells zero32 23))
  have HH2 := Lib.hid (((HH.out.alloc (.cells zero32 23)).alloc (.cells zero32 23)).drew)
  have HT := Lib.hid ((((Turn.refl (fun i => i = e) w).alloc (.cells zero32 23)).alloc (.cells zero32 23)).drew)
  have hz1 := Lib.hid (show (((w.alloc (.cells zero32 23)).alloc (.cells zero32 23)).drew).heap[w.heap.size]? = some (.cells zero32 23 (0, 0)) from heap_alloc2_old w _ _)
  have hz2 := Lib.hid (show (((w.alloc (.cells zero32 23)).alloc (.cells zero32 23)).drew).heap[w.heap.size + 1]? = some (.cells zero32 23 (0, 0)) from heap_alloc2_new w _ _)
  refine wp_region_any (by kernel_rfl) ?_
  change wpAny _ _ _ _ _ _ _ (World.drew _)
  refine wpAny_take (i := 0) (v := .slice (some ⟨w.heap.size + 1, 0, none⟩) 32 32) rfl (by kernel_rfl) (by kernel_rfl) (by kernel_rfl) (fun _ _ _ h => h) (Or.inl ⟨by rfl, ?_⟩) ?_
  · intro w2; go_simp
  refine wpAny_take (i := 1) (v := .pointer (some ⟨e, 0, none⟩)) rfl (by kernel_rfl) (by kernel_rfl) (by kernel_rfl) (fun _ _ _ h => h) (Or.inl ⟨by rfl, ?_⟩) ?_
  · intro w2; rfl
  refine wpAny_ready (rs := [2]) (by kernel_rfl) (by simp) ?_
  refine AllReady.cons rfl (fun K hK => ?_) AllReady.nil
  refine step_enter rfl 38 #[.pointer (some ⟨e, 0, none⟩), .int .u64 32] (by go_simp) ?_
  refine (T2.out _ HH2.out).mono ?_
  rintro q w2 ⟨A2, c2, rfl, hs2, hA2, hc2, he2, ht2⟩
  refine hK _ _ ?_
  clear hK K
  refine wpAny_ready (rs := [3]) (by kernel_rfl) (by simp) ?_
  refine AllReady.cons rfl (fun K hK => ?_) AllReady.nil
  have g2 := ht2.heap hz2.out (by omega)
  refine step_copy_splice rfl (.tmp 4) (.tmp 6) _ _ rfl 5 Try.underlying27 (by kernel_rfl) (some ⟨w.heap.size + 1, 0, none⟩) A2 32 32 32 c2 rfl rfl (w.heap.size + 1) 0 ((zeros 32).map bv) _ g2 ((l.take 32).map bv) (by simp; have := HX.out; omega) (fun _ => ⟨rfl, ?_⟩) (by simp [zeros]; omega) (bv_one _) (w.heap.size + 1) w2 (Below.refl _ _) (Nat.le_refl _) ?_
  · have hl0 : 0 < l.length := by have := HX.out; omega
    obtain ⟨ad, e1, -, -⟩ := hs2 0 (bv l[0]) (by simp [hl0])
    refine ⟨ad, e1, fun j v hj => ?_⟩
    obtain ⟨ad', e', -, hc⟩ := hs2 j v hj
    rw [e1] at e'; injection e' with e'; subst e'; exact hc
  intro w3 hg3 hb3
  refine hK _ _ ?_
  clear hK K
  refine wpAny_done (by kernel_rfl) ?_ _
  have g3 := Lib.hid (id_cells l w3 _ hg3 HX.out)
  have gz := Lib.hid ((hb3.block w.heap.size (by omega)).trans (ht2.heap hz1.out (by omega)))
  obtain ⟨C, hC⟩ : ∃ C, C = ((l.take 32).map bv).toArray := ⟨_, rfl⟩
  have hC32 : C.size = 32 := by rw [hC]; have := HX.out; simp; omega
  have H1 := Lib.hid (show (Try.prog.info? 23).map (·.size) = some C.size by rw [hC32]; kernel_rfl)
  have H2 := Lib.hid (show zero32.size = C.size by rw [hC32]; rfl)
  have H3 := Lib.hid (show C.all (·.oneCell') = true by rw [hC, Array.all_eq_true_iff_forall_mem]; intro u hu; exact bv_one (l.take 32) u (by simpa using hu))
  rw [← hC] at g3
  have HC := Lib.hid hC
  have HB3 := Lib.hid hb3
  have HE2 := Lib.hid he2
  have HT2 := Lib.hid ht2
  clear hC hC32 hs2 hg3 hb3 he2 ht2 g2 T2 HH HH2 hz1 hz2
  go_wp2_with (first
    | (refine wpList_load_row rfl _ _ rfl (w.heap.size + 1) rfl _ C (0, 0) _ g3.out Try.underlying23 rfl H1.out ?_)
    | (refine wpList_store_row rfl _ _ _ rfl w.heap.size C rfl rfl 23 _ gz.out H1.out H2.out H3.out ?_))
  have h3 := setRow_heap w3 w.heap.size zero32 C 23 (0, 0) gz.out
  have t3 : Turn (fun i => w.heap.size ≤ i) w2 (w3.setRow w.heap.size C) :=
    (show Turn (fun i => w.heap.size ≤ i) w2 w3 from ⟨HB3.out.os, HB3.out.tape, HB3.out.output, HB3.out.size, fun k _ hn => HB3.out.block k (by omega)⟩).setRow _ _ (fun _ => Nat.le_refl _)
  refine bodyPost_ret (v := .agg C) ?_ rfl ⟨by rw [HC.out], (HE2.out.turn t3 (by omega) (by omega) (fun i hi => .inr hi)).weak (fun i hi => .inl hi) hlt.2.2.2.1 hlt.2.2.2.2.1, (HT.out.trans HT2.out (fun _ _ h => h)).trans t3 (fun i hi h => by omega)⟩
  exact results_cell_row Try.results33 _ _ w.heap.size _ C (0, 0) _ rfl h3 Try.underlying23 rfl H1.out
end Go.Proofs.Ytomflniknnenaaa
