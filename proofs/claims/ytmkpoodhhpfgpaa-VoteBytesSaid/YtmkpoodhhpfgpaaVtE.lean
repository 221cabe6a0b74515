/- slices.Sorted over what slices.Values handed back: the ints, sorted. -/
import Derived.Test.YtmkpoodhhpfgpaaVtB
import Derived.Test.YtmkpoodhhpfgpaaShI
import Derived.Test.YtmkpoodhhpfgpaaTxBase
import Derived.Sort.OwnSortedInts
import Derived.Lib.OwnBridge
import Derived.Sort.Grow

set_option linter.unusedVariables false
namespace Go.Proofs.Ytmkpoodhhpfgpaa
open Go.RowKit Go.Sort
def srtZ (zs : List Int) : List Int := zs.mergeSort fun x y => decide (x ≤ y)
theorem srtZ_len (zs : List Int) : (srtZ zs).length = zs.length := List.length_mergeSort zs
set_option maxRecDepth 100000 in
set_option maxHeartbeats 2000000 in
theorem sorted_any (Bs c : Nat) (A : Option Addr) (zs : List Int) (hfew : zs.length ≤ 10000) (hz : 0 < zs.length)
    (w : World) (hBl : Bs < w.heap.size) (hBs : w.cell? ⟨Bs, 0, none⟩ = some (.slice A zs.length c)) (hc : Sl w w.heap.size A (i64s zs)) :
    Calls Try.prog 27 #[.func (.func 39) #[] #[.pointer (some ⟨Bs, 0, none⟩)]] w fun e w' => ∃ v, e = .returned v ∧ w'.ownsRow w.heap.size 3 1 v zs.length (i64s (srtZ zs)) ∧ Below w.heap.size w w' := by
  have CC := Lib.hid ((callsIn_wide (n := 6)).1 (collect_in Fence.wide 6 trivial trivial trivial rfl (by omega) Bs c A zs hfew w hBl hBs hc))
  clear hBs hc
  go_enter Try.func27, Try.ntmps27
  go_wp2_with (go_at_call 37; refine stop ?_)
  unfold Stop
  refine CC.out.mono ?_
  rintro r w1 ⟨v, rfl, ho, hb⟩
  rcases ho.2 with ⟨rfl, h0⟩ | ⟨gb, cap, cur, rfl, hbase, hgb, r1, r2, r3, r4⟩
  · exact absurd h0 (by omega)
  · have hH : Holds (Value.int .i64) w1 gb 0 zs.toArray := holds_of_blockI hgb (by simpa [i64s] using r4)
    have hgl : gb < w1.heap.size := (Array.getElem?_eq_some_iff.1 hgb).1
    have cS := Lib.hid (Any.slices_Sort_int laysSortI gb 0 cap zs w1 hH hgl (by omega))
    have HX := Lib.hid (And.intro hbase (And.intro hgb (And.intro r1 (And.intro r2 r3))))
    have HB := Lib.hid hb
    clear hH hgl hb ho hbase hgb r1 r2 r3 r4
    go_wp2_with (go_at_call 38; refine stop ?_)
    unfold Stop
    refine cS.out.mono ?_
    rintro r w2 ⟨rfl, nn, os, hw2⟩
    have h2 : w2.ownsRow w.heap.size 3 1 (.slice (some ⟨gb, 0, none⟩) zs.length cap) zs.length (i64s (srtZ zs)) ∧ Below w.heap.size w w2 := by
      obtain ⟨hbase, hgb, r1, r2, r3⟩ := HX.out
      rw [hw2]
      exact ⟨ownsRow_sortedI (srtZ_len zs) hbase hgb r1 r2 r3, HB.out.grown (grownBy_sortedI _) HB.out.size (fun j hj => by cases hj; exact hbase)⟩
    have H2 := Lib.hid h2
    clear hw2 h2
    go_wp2
    go_ret
    exact ⟨_, rfl, H2.out.1, H2.out.2⟩
end Go.Proofs.Ytmkpoodhhpfgpaa
