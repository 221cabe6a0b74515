/- What the listed variables give the walks; an Id that came in, read as 32 bytes; a slice of bytes that came in. -/
import Derived.Test.YtoclfohgchlpnaaDoorShaW9
import Derived.Lib.LaidTab
import Derived.MakeChecks
import Derived.OpenShut
import Derived.ProofKit
import Derived.Carry
namespace Go.Proofs.YtoclfohgchlpnaaDoor
open Go.ChangeShapes Go.WideShapes Go.ChangeAt Go.RowKit

def shaLaid : List (String × DataW Unit) := [("seisin/sha.startWords", Rows.laid_seisin_sha_startWords), ("seisin/sha.roundWords", Rows.laid_seisin_sha_roundWords)]
def zsH : List Int := H8.list.map fun x => (x.toNat : Int)
def zsK : List Int := K64.map fun x => (x.toNat : Int)
set_option maxRecDepth 100000 in
theorem laidH : (Rows.laid_seisin_sha_startWords : DataW Unit) = Lib.tabData .u32 zsH := by rfl
set_option maxRecDepth 100000 in
theorem laidK : (Rows.laid_seisin_sha_roundWords : DataW Unit) = Lib.tabData .u32 zsK := by rfl
set_option maxRecDepth 100000 in
theorem laid_tail {P : Program} {x : String × DataW Unit} {l : List (String × DataW Unit)} {w : World} (h : laidMet P (x :: l) w) : laidMet P l w := by
  obtain ⟨ps, ⟨g, t, cs, fuel, p, q, hg, ht, hv, hd, hr, e⟩, hn, hc⟩ := h
  refine ⟨q, hr, ?_, fun b off hm => hc b off (by rw [e]; exact List.mem_append_right _ hm)⟩
  rw [e] at hn
  exact (List.nodup_append.1 hn).2.1
set_option maxRecDepth 100000 in
theorem at_tab (zs : List Int) (l : List W) (h : zs = l.map fun x => (x.toNat : Int)) (i : Nat) (hi : i < l.length) : (zs.map fun z => Value.int .u32 z).toArray[i]? = some (wv (l.getD i 0)) := by
  subst h
  rw [List.getElem?_toArray, List.getElem?_map, List.getElem?_map, List.getD_eq_getElem?_getD, List.getElem?_eq_getElem hi]; rfl
set_option maxRecDepth 100000 in
theorem glob_of {w : World} (h : laidMetH Tryd.prog shaLaid w) : Glob w := by
  rw [MakeChecks.laidMetH_plain _ _ _ (by kernel_rfl)] at h
  unfold shaLaid at h
  rw [laidH, laidK] at h
  have t0 := Lib.tabIs_of_head (show Tryd.prog.globalNamed "seisin/sha.startWords" = some 0 by kernel_rfl) (show (Tryd.prog.globals[0]?).map (·.type) = some 69 by kernel_rfl) Tryd.underlying69 Tryd.underlying68 (by kernel_rfl) (by kernel_rfl) h
  have t1 := Lib.tabIs_of_head (show Tryd.prog.globalNamed "seisin/sha.roundWords" = some 1 by kernel_rfl) (show (Tryd.prog.globals[1]?).map (·.type) = some 99 by kernel_rfl) Tryd.underlying99 Tryd.underlying68 (by kernel_rfl) (by kernel_rfl) (laid_tail h)
  have c1 : ∀ i, i < 64 → w.cell? ⟨1, i, none⟩ = some (wv (K64.getD i 0)) := fun i hi => by
    rw [World.var?_cell (show Tryd.prog.globalNamed "seisin/sha.roundWords" = some 1 by kernel_rfl) t1 i]; exact at_tab _ K64 rfl i hi
  have c0 : ∀ i, i < 8 → w.cell? ⟨0, i, none⟩ = some (wv (H8.list.getD i 0)) := fun i hi => by
    rw [World.var?_cell (show Tryd.prog.globalNamed "seisin/sha.startWords" = some 0 by kernel_rfl) t0 i]; exact at_tab _ H8.list rfl i hi
  have h1 : 1 < w.heap.size := World.block_lt_of_cell? w _ (c1 0 (by omega))
  have h0 : 0 < w.heap.size := World.block_lt_of_cell? w _ (c0 0 (by omega))
  exact ⟨by omega, c1, c0⟩

section
variable {H : Type} {enc : TypeId × Value → H}
set_option maxRecDepth 100000 in
theorem open_id {W : World} {r : Reach} {b0 : Nat} {v : Value} {d : DataW H} {p : List MemPlace} (hval : Value.okWide Tryd.prog W r b0 23 v) (hd : DataW.Trod enc Tryd.prog W 0 (fun _ => true) true 23 v d p) :
    ∃ l : List B8, l.length = 32 ∧ v = .agg (l.map bv).toArray := by
  have hv : ∃ cs, v = .agg cs := by
    simp only [Value.okWide, Tryd.underlying23] at hval
    obtain ⟨cs, h1, _⟩ := hval
    exact ⟨cs, h1⟩
  obtain ⟨cs, rfl⟩ := hv
  obtain ⟨fuel, hf⟩ := hd
  obtain ⟨xs, m, -, -, hl, hxl, hall⟩ := DataW.trod_array Tryd.underlying23 hf
  have c26 : Tryd.prog.cellsOf 23 = 32 := by kernel_rfl
  have c5 : Tryd.prog.cellsOf 5 = 1 := by kernel_rfl
  have hl32 : cs.toList.length = 32 := by
    have : (Value.agg cs).cells.toList.length = 32 := by rw [hl, c26]
    simpa [Value.cells] using this
  have hget : ∀ i, i < 32 → ∃ x : B8, cs.toList[i]? = some (bv x) := by
    intro i hi
    have h := hall i hi
    rw [c5, Nat.mul_one] at h
    rw [List.getElem?_eq_getElem (by omega)] at h
    obtain ⟨z, e1, -, hw⟩ := DataW.trod_int Tryd.underlying5 h
    have h0 : ((cs.toList.drop i).take 1)[0]? = some (.int .u8 z) := by
      have : (((Value.agg cs).cells.toList.drop i).take 1)[0]? = some (.int .u8 z) := by rw [e1]; rfl
      simpa [Value.cells] using this
    have hb := bounds_u8 hw
    refine ⟨BitVec.ofNat 8 z.toNat, ?_⟩
    have h1 : cs.toList[i]? = some (.int .u8 z) := by simpa using h0
    rw [h1]; unfold bv
    rw [BitVec.toNat_ofNat, Nat.mod_eq_of_lt (by omega)]
    rw [Int.toNat_of_nonneg hb.1]
  refine ⟨(List.range 32).map fun i => if h : i < 32 then (hget i h).choose else 0, by simp, ?_⟩
  congr 1
  apply Array.ext'
  apply List.ext_getElem?
  intro i
  by_cases hi : i < 32
  · rw [(hget i hi).choose_spec]
    simp [hi]
  · rw [List.getElem?_eq_none (by omega), List.getElem?_eq_none (by simp; omega)]
end
end Go.Proofs.YtoclfohgchlpnaaDoor
