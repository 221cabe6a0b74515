/- Package rate's Sort. -/
import Derived.Test.YtbnplhdelpbfdaaSrtS
import Derived.Deep.OwnRows
import Derived.Laws.CopyOwn
set_option linter.unusedVariables false
set_option linter.unusedSimpArgs false
namespace Go.Proofs.Ytbnplhdelpbfdaa
open Go.RowKit
open Flt (nan key lessB cmpI S)
theorem stableFunc_any (g c N : Nat) (D : List Nat) (w : World) (hD : FD w g D) (hN : D.length = N) (hN2 : N ≤ 1099511627776) (hwf : Wf D) :
    Calls Try.prog 14 #[.slice (some ⟨g, 0, none⟩) N c, (.func (.func 15) #[] #[])] w fun e w' => e = .returned (.tuple #[]) ∧ (∃ E : List Nat, E.Perm D ∧ Srt E ∧ FD w' g E) ∧ Turn (fun i => i = g) w w' := by
  have C := Lib.hid (stable_any g c N D w hD hN hN2 hwf)
  clear hD hN hwf
  go_enter Try.func14, Try.ntmps14
  go_wp2_with fail
  refine C.out.mono ?_
  rintro _ w2 ⟨rfl, hE, t⟩
  have H := Lib.hid (And.intro hE t)
  clear hE t
  go_wp2
  go_end0
  exact ⟨rfl, H.out⟩
theorem info_f64 : (Try.prog.info? 26).map (fun i => (i.zero, i.size, i.bytes)) = some (some (.float .f64 0), 1, 8) := by kernel_rfl
set_option maxRecDepth 100000 in
theorem sort_any (A : Option Addr) (c n : Nat) (l : List Nat) (w : World) (hs : Sl w w.heap.size A (l.map fv)) (hA : A = none → c = 0) (hc : l.length ≤ c) (hn : l.length = n) (hm : n ≤ 1000) (hwf : Wf l) :
    Calls Try.prog 5 #[.slice A n c] w fun e w' => ∃ g, e = .returned (.slice (some ⟨g, 0, none⟩) n n) ∧ w.heap.size ≤ g ∧ (∃ E : List Nat, E.Perm l ∧ Srt E ∧ FD w' g E) ∧ Turn (fun _ => False) w w' := by
  have hmk := run_make_row' (P := Try.prog) 22 26 (.float .f64 0) 8 Try.underlying22 info_f64 rfl .i64 .i64 n (by omega) (by omega)
  have HS := Lib.hid (And.intro hs (And.intro hn hwf))
  have HA := Lib.hid (And.intro hA hc)
  clear hs hn hwf hA hc
  go_enter Try.func5, Try.ntmps5
  go_upto_region 2 with fail
  obtain ⟨w1, hw1⟩ : ∃ w1, w1 = w.alloc (.cells (madeCells #[Value.float FloatKind.f64 0] n) 26) := ⟨_, rfl⟩
  have t1 : Turn (fun _ => False) w w1 := by rw [hw1]; exact (Turn.refl _ _).alloc _
  have hb1 : Below w.heap.size w w1 := by rw [hw1]; exact (Below.refl _ _).alloc (Nat.le_refl _) _
  have g1 : w1.heap[w.heap.size]? = some (.cells (madeCells #[Value.float FloatKind.f64 0] n) 26 (0, 0)) := by rw [hw1]; exact heap_alloc_new _ _
  obtain ⟨Z, hZ⟩ : ∃ Z : List Value, Z = (madeCells #[Value.float FloatKind.f64 0] n).toList := ⟨_, rfl⟩
  have hZl : Z.length = n := by rw [hZ, Array.length_toList, size_madeCells]
  have g1' : w1.heap[w.heap.size]? = some (.cells Z.toArray 26 (0, 0)) := by rw [g1, hZ]
  rw [← hw1]
  have HL := Lib.hid (show (l.map fv).length = Nat.min n n by rw [List.length_map, HS.out.2.1]; exact (Nat.min_self n).symm)
  have HSRC := Lib.hid (fun (hp : 0 < (l.map fv).length) => show (some (⟨w.heap.size, 0, none⟩ : Addr) = some ⟨w.heap.size, 0, none⟩ ∧ ∃ ad, A = some ad ∧ ∀ j v, (l.map fv)[j]? = some v → w1.cell? (ad.add j) = some v) by
    refine ⟨rfl, ?_⟩
    obtain ⟨ad, e, -, -⟩ := HS.out.1 0 _ (List.getElem?_eq_getElem hp)
    refine ⟨ad, e, fun j v hj => ?_⟩
    obtain ⟨ad', e', hb, hcell⟩ := t1.sl HS.out.1 (fun _ _ h => h) j v hj
    rw [e] at e'; injection e' with e'; subst e'; exact hcell)
  have HG1 := Lib.hid g1'
  have HZ := Lib.hid hZl
  have HB1 := Lib.hid hb1
  have HT1 := Lib.hid t1
  have ONE := Lib.hid (show ∀ v ∈ l.map fv, v.oneCell' = true by intro v hv; simp only [List.mem_map] at hv; obtain ⟨x, -, rfl⟩ := hv; rfl)
  clear hw1 t1 hb1 g1 hZ hZl g1' hmk
  go_step
  iterate 6 go_step
  refine wpList_copy_splice (o := ⟨some 9, _, _, _, _, _⟩) rfl _ _ _ _ rfl 26 Try.underlying22 (by kernel_rfl) _ _ n n n c rfl rfl w.heap.size 0 Z _ HG1.out (l.map fv) HL.out HSRC.out (by rw [List.length_map, HS.out.2.1, HZ.out]; omega) ONE.out w.heap.size w HB1.out (Nat.le_refl _) ?_
  intro w2 hF2 hb2
  have HF2 := Lib.hid (show FD w2 w.heap.size l by
    have := hF2.out
    unfold FD
    rw [this]
    congr 2
    unfold splice
    rw [List.take_zero, List.nil_append, List.drop_eq_nil_of_le (by rw [List.length_map, HS.out.2.1, HZ.out]; omega), List.append_nil])
  have HB2 := Lib.hid hb2
  clear hF2 hb2
  have C := Lib.hid (stableFunc_any w.heap.size n n l w2 HF2.out HS.out.2.1 (by omega) HS.out.2.2)
  go_wp2_with fail
  refine C.out.mono ?_
  rintro _ w3 ⟨rfl, hE, t3⟩
  have H3 := Lib.hid (And.intro hE t3)
  clear hE t3 C
  go_wp2
  go_ret
  exact ⟨w.heap.size, rfl, Nat.le_refl _, H3.out.1, (Turn.of_below HB2.out).trans H3.out.2 (fun i hi h => by have h' : i = w.heap.size := h; omega)⟩
end Go.Proofs.Ytbnplhdelpbfdaa
