/- Merged: Merged: The contracts of the small functions on words: turning to the right, and the four bytes of a word. The contract of the code's 'schedule': the 64 words of the rounds. The contract of the code's 'mix': a block is stirred into the words. The contract of the code's 'take': bytes come to a digest that is under way. The contract of the code's 'end': what has come is filled up, and its digest is answered. The contracts of the code's 'Sum' and 'Under'. The contract of the code's 'Under'. The contracts of the code's 'Hex' and 'Same'. The contract of the code's 'Same', and the document's example. What the listed variables give the walks; an Id that came in, read as 32 bytes; a slice of bytes that came in. Two Ids compared, by the language's own ==. The contracts of the document's small functions: Pick, First, Rounds. The contract of the document's 'Long': a length as four bytes, and the bytes. The laws' acts that came in, read: a slice of records {Do, At, B, M}. -/
import Derived.Test.YtfiopkehpcipdaaDoorRows
import Derived.Test.YtfiopkehpcipdaaDoorM00
import Derived.Test.YtfiopkehpcipdaaDoorM01
import Derived.Test.YtfiopkehpcipdaaDoorM02
import Derived.Test.YtfiopkehpcipdaaDoorM03
import Derived.Test.YtfiopkehpcipdaaDoorM04
import Derived.Test.YtfiopkehpcipdaaDoorM05
import Derived.Test.YtfiopkehpcipdaaDoorM06
import Derived.Test.YtfiopkehpcipdaaDoorM07
import Derived.Test.YtfiopkehpcipdaaDoorM08
import Derived.Test.YtfiopkehpcipdaaDoorM09
import Derived.Test.YtfiopkehpcipdaaDoorM10
import Derived.Test.YtfiopkehpcipdaaDoorM11
import Derived.Test.YtfiopkehpcipdaaDoorM12
import Derived.Test.YtfiopkehpcipdaaDoorM13
import Derived.Test.YtfiopkehpcipdaaDoorM14
import Derived.Test.YtfiopkehpcipdaaDoorM15
import Derived.Test.YtfiopkehpcipdaaDoorM16
import Derived.Test.YtfiopkehpcipdaaDoorM17
import Derived.Test.YtfiopkehpcipdaaDoorM18
import Derived.Test.YtfiopkehpcipdaaDoorM19
import Derived.Test.YtfiopkehpcipdaaDoorM20
import Derived.Test.YtfiopkehpcipdaaDoorM21
import Derived.Test.YtfiopkehpcipdaaDoorM22
import Derived.Test.YtfiopkehpcipdaaDoorM23
import Derived.Test.YtfiopkehpcipdaaDoorM24
import Derived.Test.YtfiopkehpcipdaaDoorM25
import Derived.Test.YtfiopkehpcipdaaDoorM26
import Derived.Test.YtfiopkehpcipdaaDoorM27
import Derived.Test.YtfiopkehpcipdaaDoorM28
import Derived.Test.YtfiopkehpcipdaaDoorM29
import Derived.Test.YtfiopkehpcipdaaDoorM30
import Derived.Test.YtfiopkehpcipdaaDoorM31
import Derived.Test.YtfiopkehpcipdaaDoorM32
import Derived.Test.YtfiopkehpcipdaaDoorM33
import Derived.Test.YtfiopkehpcipdaaDoorM34
import Derived.Test.YtfiopkehpcipdaaDoorM35
import Derived.Test.YtfiopkehpcipdaaDoorM36
import Derived.Test.YtfiopkehpcipdaaDoorM37
import Derived.Test.YtfiopkehpcipdaaDoorM38
import Derived.Test.YtfiopkehpcipdaaDoorM39
import Derived.Test.YtfiopkehpcipdaaDoorM40
import Derived.Test.YtfiopkehpcipdaaDoorM41
import Derived.Test.YtfiopkehpcipdaaDoorM42
import Derived.Test.YtfiopkehpcipdaaDoorM43
import Derived.Test.YtfiopkehpcipdaaDoorM44
import Derived.Test.YtfiopkehpcipdaaDoorM45
import Derived.Test.YtfiopkehpcipdaaDoorM46
import Derived.Test.YtfiopkehpcipdaaDoorM47
import Derived.Test.YtfiopkehpcipdaaDoorM48
import Derived.Below
import Derived.Laws.Entries
import Derived.Laws.BitsLemmas
import Derived.KernelRfl
import Derived.WalkKit
import Derived.WalkLawsBesides
import Derived.Lib.Hide
import Derived.LoopTactic
import Derived.Outline
import Derived.Deep.QuietTactic
import Derived.BigQuiet
import Derived.BigRegion
import Derived.StillTailTactics
import Derived.Deep.RegionHeld3
import Derived.IntWalk
import Derived.Laws.CopyOwn
import Derived.Deep.WholeRow
import Derived.Deep.RegionLaw
import Derived.Carry
import Derived.ChangeSame
import Derived.ChangeSlices
import Derived.OpenShut
import Derived.ProofKit
import Derived.Maps.AppendAt
import Derived.OwnWalk
import Derived.Deep.AppendLies
import Derived.Lib.SlBytesConst
import Derived.Lib.LaidTab
import Derived.MakeChecks
import Derived.Stop.BytesEq
import Derived.Laws.AppendOwnNone
import Derived.Deep.Cut
import Derived.OneCell
import Derived.Lib.Strings
import Derived.Lib.Slices
import Derived.Lib.Small
import Derived.Lib.Walk
import Derived.Lib.BitFns
import Derived.Defers
import Derived.Recover
import Derived.LaidEqlPtr
import Derived.Deep.MidRow
import Derived.Still
import Derived.StillTail
import Derived.Test.YtfiopkehpcipdaaDoorChecked
import Derived.Laws.Rows
import Derived.Great.BuildSlice
import Derived.Deep.Onto
import Derived.Laws.ResultCell
import Derived.Laws.OwnMore
import Derived.Laws.Tables
import Derived.RangeFuncNested
import Derived.RangeFuncBound
import Derived.RangeFuncCalls
import Derived.RangeFuncLeaves
import Derived.Shelf.Abstract
import Derived.Shelf.RegionOpen
import Derived.OwnWalkIn
import Derived.TacticsInMore
import Derived.LoopNIn
import Derived.LoopIn
import Derived.Laws.IdiomStrings
import Derived.Laws.BytesArg
import Derived.WalkMore
namespace Go.Proofs.YtfiopkehpcipdaaDoor
section

section

open Go.RowKit

end
section

open Go.RowKit

end
section

open Go.RowKit

end
section

open Go.RowKit

end
section

open Go.RowKit

end
section

open Go.RowKit

end
section

open Go.RowKit

end
section

open Go.RowKit

end
section

open Go.RowKit

end
section

open Go.ChangeShapes Go.WideShapes Go.ChangeAt Go.RowKit

def shaLaid : List (String × DataW Unit) := [("seisin/sha.startWords", Rows.laid_seisin_sha_startWords), ("seisin/sha.roundWords", Rows.laid_seisin_sha_roundWords)]
def zsH : List Int := H8.list.map fun x => (x.toNat : Int)
def zsK : List Int := K64.map fun x => (x.toNat : Int)
set_option maxRecDepth 100000 in
theorem laidH : (Rows.laid_seisin_sha_startWords : DataW Unit) = Lib.tabData .u32 zsH := by rfl
set_option maxRecDepth 100000 in
theorem laidK : (Rows.laid_seisin_sha_roundWords : DataW Unit) = Lib.tabData .u32 zsK := by rfl
set_option maxRecDepth 100000 in
theorem laid_tail {P : Program} {x : String × DataW Unit} {l : List (String × DataW Unit)} {w : World} (h : laidMet P (x :: l) w) : laidMet P l w := by
  obtain ⟨ps, ⟨g, t, cs, fuel, p, q, hg, ht, hv, hd, hr, e⟩, hn, hc⟩ := h
  refine ⟨q, hr, ?_, fun b off hm => hc b off (by rw [e]; exact List.mem_append_right _ hm)⟩
  rw [e] at hn
  exact (List.nodup_append.1 hn).2.1
set_option maxRecDepth 100000 in
theorem at_tab (zs : List Int) (l : List W) (h : zs = l.map fun x => (x.toNat : Int)) (i : Nat) (hi : i < l.length) : (zs.map fun z => Value.int .u32 z).toArray[i]? = some (wv (l.getD i 0)) := by
  subst h
  rw [List.getElem?_toArray, List.getElem?_map, List.getElem?_map, List.getD_eq_getElem?_getD, List.getElem?_eq_getElem hi]; rfl
set_option maxRecDepth 100000 in
theorem glob_of {w : World} (h : laidMetH Tryd.prog shaLaid w) : Glob w := by
  rw [MakeChecks.laidMetH_plain _ _ _ (by kernel_rfl)] at h
  unfold shaLaid at h
  rw [laidH, laidK] at h
  have t0 := Lib.tabIs_of_head (show Tryd.prog.globalNamed "seisin/sha.startWords" = some 0 by kernel_rfl) (show (Tryd.prog.globals[0]?).map (·.type) = some 134 by kernel_rfl) Tryd.underlying134 Tryd.underlying133 (by kernel_rfl) (by kernel_rfl) h
  have t1 := Lib.tabIs_of_head (show Tryd.prog.globalNamed "seisin/sha.roundWords" = some 1 by kernel_rfl) (show (Tryd.prog.globals[1]?).map (·.type) = some 163 by kernel_rfl) Tryd.underlying163 Tryd.underlying133 (by kernel_rfl) (by kernel_rfl) (laid_tail h)
  have c1 : ∀ i, i < 64 → w.cell? ⟨1, i, none⟩ = some (wv (K64.getD i 0)) := fun i hi => by
    rw [World.var?_cell (show Tryd.prog.globalNamed "seisin/sha.roundWords" = some 1 by kernel_rfl) t1 i]; exact at_tab _ K64 rfl i hi
  have c0 : ∀ i, i < 8 → w.cell? ⟨0, i, none⟩ = some (wv (H8.list.getD i 0)) := fun i hi => by
    rw [World.var?_cell (show Tryd.prog.globalNamed "seisin/sha.startWords" = some 0 by kernel_rfl) t0 i]; exact at_tab _ H8.list rfl i hi
  have h1 : 1 < w.heap.size := World.block_lt_of_cell? w _ (c1 0 (by omega))
  have h0 : 0 < w.heap.size := World.block_lt_of_cell? w _ (c0 0 (by omega))
  exact ⟨by omega, c1, c0⟩

section
variable {H : Type} {enc : TypeId × Value → H}
end

end
section

open Go.RowKit
open Extern.Stop (cell)
end
section

open Go.RowKit

end
section

open Go.RowKit

end
end
section
set_option linter.unusedVariables false
open Go.RowKit Go.ChangeShapes Go.WideShapes Go.ChangeAt
set_option maxRecDepth 100000
theorem addr_zero14 (a : Addr) : a.add 0 = a := by unfold Addr.add; split <;> simp_all
theorem rangeAt_of14 {w : World} {base : Nat} {a : Addr} {n : Nat} {cs : List Value} (h : w.cells? base a n = some cs) (hn : 0 < n) : a.spot = none ∧ w.rangeAt a.block a.off cs ∧ a.block < w.heap.size ∧ cs.length = n := by
  obtain ⟨hb, hl, hc⟩ := World.cells?_some h
  have h0 := hc 0 hn
  have hsp : a.spot = none := by
    rw [addr_zero14] at h0
    unfold World.cell? at h0
    cases hh : a.spot with
    | none => rfl
    | some z =>
      rw [hh] at h0
      rw [List.getElem?_eq_getElem (by omega)] at h0
      revert h0
      split <;> simp
  refine ⟨hsp, fun j v hj => ?_, World.cells?_block h hn, hl⟩
  have hj' := (List.getElem?_eq_some_iff.1 hj).1
  have := hc j (by omega)
  rw [hj] at this
  rw [← this]
  congr 1
  unfold Addr.add
  split
  · rename_i h; subst h; cases a; simp_all
  · rfl
section
variable {H : Type} {enc : TypeId × Value → H} {W : World} {fuel : Nat} {x : DataW H × List MemPlace}
theorem trod_bytes14 {cs : List Value} (h : DataW.trod enc Tryd.prog W 0 (fun _ => true) true fuel 36 cs = some x) :
    ∃ (A : Option Addr) (c : Nat) (xs : List B8), cs = [.slice A xs.length c] ∧ Sl W W.heap.size A (xs.map bv) ∧ (A = none → c = 0) ∧ xs.length ≤ c ∧ xs.length ≤ maxLen := by
  rcases open_ints Tryd.underlying36 Tryd.underlying5 (by kernel_rfl) h with ⟨hcs, hx⟩ | ⟨a, len', cap', zs, hcs, _, hl, hm, hz, hx, hcell, hwz⟩
  · exact ⟨none, 0, [], hcs, Sl.none _ _ _, fun _ => rfl, by simp, by simp⟩
  · have hzl : zs.length = cap' := by simpa using hz
    have hlen : ((zs.take len').map fun z => BitVec.ofNat 8 z.toNat).length = len' := by simp; omega
    refine ⟨some a, cap', (zs.take len').map (fun z => BitVec.ofNat 8 z.toNat), by rw [hlen]; exact hcs, ?_, (fun h => by cases h), by omega, by omega⟩
    intro j u hu
    simp only [List.map_map, List.getElem?_map, Option.map_eq_some_iff] at hu
    obtain ⟨z, hz1, rfl⟩ := hu
    have hj : j < len' := by have := (List.getElem?_eq_some_iff.1 hz1).1; simp at this; omega
    have hzj : zs[j]? = some z := by rw [List.getElem?_take, if_pos hj] at hz1; exact hz1
    have h1 := hcell j (by omega)
    have hb := bounds_u8 (hwz z (List.mem_of_getElem? hzj))
    refine ⟨a, rfl, ?_, ?_⟩
    · have := World.block_lt_of_cell? W _ h1
      rwa [add_block] at this
    · rw [h1, List.getD, hzj]
      simp only [Option.getD_some, Function.comp, bv, BitVec.toNat_ofNat]
      rw [Nat.mod_eq_of_lt (by omega)]
      congr 2
      omega
theorem trod_act {cs : List Value} (h : DataW.trod enc Tryd.prog W 0 (fun _ => true) true fuel 38 cs = some x) : ∃ f : Ac, cs = f.cells ∧ f.ok W W.heap.size := by
  obtain ⟨xs, m, -, -, hl, hxl, hall⟩ := DataW.trod_struct Tryd.underlying38 h
  have c31 : Tryd.prog.cellsOf 38 = 4 := by kernel_rfl
  rw [c31] at hl
  have hx4 : xs.length = 4 := hxl
  have g0 : xs[0]? = some xs[0] := List.getElem?_eq_getElem (by omega)
  have g1 : xs[1]? = some xs[1] := List.getElem?_eq_getElem (by omega)
  have g2 : xs[2]? = some xs[2] := List.getElem?_eq_getElem (by omega)
  have g3 : xs[3]? = some xs[3] := List.getElem?_eq_getElem (by omega)
  have h0 : DataW.trod enc Tryd.prog W 0 (fun _ => true) true m 3 ((cs.drop 0).take (Tryd.prog.cellsOf 3)) = some xs[0] := (hall 0 _ rfl).trans g0
  have h1 : DataW.trod enc Tryd.prog W 0 (fun _ => true) true m 3 ((cs.drop 1).take (Tryd.prog.cellsOf 3)) = some xs[1] := (hall 1 _ rfl).trans g1
  have h2 : DataW.trod enc Tryd.prog W 0 (fun _ => true) true m 36 ((cs.drop 2).take (Tryd.prog.cellsOf 36)) = some xs[2] := (hall 2 _ rfl).trans g2
  have h3 : DataW.trod enc Tryd.prog W 0 (fun _ => true) true m 36 ((cs.drop 3).take (Tryd.prog.cellsOf 36)) = some xs[3] := (hall 3 _ rfl).trans g3
  rw [show Tryd.prog.cellsOf 3 = 1 by kernel_rfl] at h0 h1
  rw [show Tryd.prog.cellsOf 36 = 1 by kernel_rfl] at h2 h3
  obtain ⟨k, e0, -, w0⟩ := DataW.trod_int Tryd.underlying3 h0
  obtain ⟨n, e1, -, w1⟩ := DataW.trod_int Tryd.underlying3 h1
  obtain ⟨A, c, b, e2, hs, hA, hc, hm⟩ := trod_bytes14 h2
  obtain ⟨A', c', b', e3, hs', hA', hc', hm'⟩ := trod_bytes14 h3
  have b0 := bounds_i64 w0
  have b1 := bounds_i64 w1
  refine ⟨⟨k, n, A, c, b, A', c', b'⟩, ?_, ⟨b0.1, by simp only; omega, b1.1, by simp only; omega, hs, hA, hc, hm, hs', hA', hc', hm'⟩⟩
  have e : cs = (cs.drop 0).take 1 ++ ((cs.drop 1).take 1 ++ ((cs.drop 2).take 1 ++ (cs.drop 3).take 1)) := by
    rw [List.take_of_length_le (l := cs.drop 3) (by simp; omega)]
    rw [show cs.drop 3 = (cs.drop 2).drop 1 by simp, List.take_append_drop, show cs.drop 2 = (cs.drop 1).drop 1 by simp, List.take_append_drop, show cs.drop 1 = (cs.drop 0).drop 1 by simp, List.take_append_drop]
    simp
  rw [e, e0, e1, e2, e3]
  simp [Ac.cells]
theorem open_acts {r : Reach} {b0 : Nat} {v : Value} {d : DataW H} {p : List MemPlace} (hval : Value.okWide Tryd.prog W r b0 22 v) (hd : DataW.Trod enc Tryd.prog W 0 (fun _ => true) true 22 v d p) :
    ∃ (A : Option Addr) (c : Nat) (l : List Ac), v = .slice A l.length c ∧ Acs W W.heap.size A l ∧ (A = none → c = 0) ∧ l.length ≤ c ∧ l.length ≤ maxLen := by
  obtain ⟨a0, len, cap, rfl⟩ := okWide_slice Tryd.underlying22 hval
  obtain ⟨fuel, hf⟩ := hd
  rcases DataW.trod_slice Tryd.underlying22 hf with ⟨hcs, -⟩ | ⟨a, len', cap', elems, rest, m, -, hcs, -, -, hl, hm, hel, hall, -, -⟩
  · simp [Value.cells] at hcs
    obtain ⟨rfl, rfl, rfl⟩ := hcs
    exact ⟨none, 0, [], rfl, fun i f h => by simp at h, fun _ => rfl, by simp, by simp⟩
  · simp [Value.cells] at hcs
    obtain ⟨rfl, rfl, rfl⟩ := hcs
    have c31 : Tryd.prog.cellsOf 38 = 4 := by kernel_rfl
    have each : ∀ i, i < len → ∃ f : Ac, f.ok W W.heap.size ∧ (i = 0 → a.spot = none) ∧ a.block < W.heap.size ∧ W.rangeAt a.block (a.off + i * 4) f.cells := by
      intro i hi
      have h := hall i hi
      rw [c31, List.getElem?_eq_getElem (by omega), Option.bind_eq_some_iff] at h
      obtain ⟨cs, hcs, ht⟩ := h
      obtain ⟨f, rfl, hok⟩ := trod_act ht
      obtain ⟨hsp, hr, hb, -⟩ := rangeAt_of14 hcs (by omega)
      have hadd : (a.add (i * 4)).block = a.block := add_block _ _
      refine ⟨f, hok, ?_, by rw [← hadd]; exact hb, ?_⟩
      · rintro rfl
        rw [Nat.zero_mul, addr_zero14] at hsp; exact hsp
      · rw [hadd] at hr
        have : (a.add (i * 4)).off = a.off + i * 4 := by unfold Addr.add; split <;> simp_all
        rwa [this] at hr
    have hlen : ((List.range len).map fun i => if h : i < len then (each i h).choose else ⟨0, 0, none, 0, [], none, 0, []⟩).length = len := by simp
    refine ⟨some a, cap, (List.range len).map fun i => if h : i < len then (each i h).choose else ⟨0, 0, none, 0, [], none, 0, []⟩, by rw [hlen], ?_, (fun h => by cases h), by omega, by omega⟩
    intro i f hf
    have hi : i < len := by have := (List.getElem?_eq_some_iff.1 hf).1; simpa using this
    simp [hi] at hf
    have hsp := (each 0 (by omega)).choose_spec.2.1 rfl
    obtain ⟨h1, h2, h3, h4⟩ := (each i hi).choose_spec
    rw [hf] at h1 h4
    refine ⟨h1, a.block, a.off, ?_, h3, h4⟩
    cases a; simp_all
end
end
end Go.Proofs.YtfiopkehpcipdaaDoor
