/- Merged: 'ShaUnder': its walk. Awake. The landed chest in memory; used, ends. The document's Left. The landed chest's Keep. The landed chest's Sync; lay: a head on a side where nothing else is. The landed chest's Turn. ChestGone: the power fails; plain part and contracts. The statements' walks, in the cards' order of arguments. The landed Fits, of texts of any length. -/
import Derived.Test.YtfiopkehpcipdaaDoorLQ00
import Derived.Test.YtfiopkehpcipdaaDoorM00
import Derived.Test.YtfiopkehpcipdaaDoorM01
import Derived.Test.YtfiopkehpcipdaaDoorM02
import Derived.Test.YtfiopkehpcipdaaDoorM03
import Derived.Test.YtfiopkehpcipdaaDoorM04
import Derived.Test.YtfiopkehpcipdaaDoorM05
import Derived.Test.YtfiopkehpcipdaaDoorM06
import Derived.Test.YtfiopkehpcipdaaDoorM07
import Derived.Test.YtfiopkehpcipdaaDoorM08
import Derived.Test.YtfiopkehpcipdaaDoorM09
import Derived.Test.YtfiopkehpcipdaaDoorM10
import Derived.Test.YtfiopkehpcipdaaDoorM11
import Derived.Test.YtfiopkehpcipdaaDoorM12
import Derived.Test.YtfiopkehpcipdaaDoorM13
import Derived.Test.YtfiopkehpcipdaaDoorM14
import Derived.Test.YtfiopkehpcipdaaDoorM15
import Derived.Test.YtfiopkehpcipdaaDoorM16
import Derived.Test.YtfiopkehpcipdaaDoorM17
import Derived.Test.YtfiopkehpcipdaaDoorM18
import Derived.Test.YtfiopkehpcipdaaDoorM19
import Derived.Test.YtfiopkehpcipdaaDoorM20
import Derived.Test.YtfiopkehpcipdaaDoorM21
import Derived.Test.YtfiopkehpcipdaaDoorM22
import Derived.Test.YtfiopkehpcipdaaDoorM23
import Derived.Test.YtfiopkehpcipdaaDoorM24
import Derived.Test.YtfiopkehpcipdaaDoorM25
import Derived.Test.YtfiopkehpcipdaaDoorM26
import Derived.Test.YtfiopkehpcipdaaDoorM27
import Derived.Test.YtfiopkehpcipdaaDoorM28
import Derived.Test.YtfiopkehpcipdaaDoorM29
import Derived.Test.YtfiopkehpcipdaaDoorM30
import Derived.Test.YtfiopkehpcipdaaDoorM31
import Derived.Test.YtfiopkehpcipdaaDoorM32
import Derived.Test.YtfiopkehpcipdaaDoorM33
import Derived.Test.YtfiopkehpcipdaaDoorM34
import Derived.Test.YtfiopkehpcipdaaDoorM35
import Derived.Test.YtfiopkehpcipdaaDoorM36
import Derived.Test.YtfiopkehpcipdaaDoorM37
import Derived.Test.YtfiopkehpcipdaaDoorM38
import Derived.Test.YtfiopkehpcipdaaDoorM39
import Derived.Test.YtfiopkehpcipdaaDoorM40
import Derived.Test.YtfiopkehpcipdaaDoorM41
import Derived.Test.YtfiopkehpcipdaaDoorM42
import Derived.Test.YtfiopkehpcipdaaDoorM43
import Derived.Test.YtfiopkehpcipdaaDoorM44
import Derived.Test.YtfiopkehpcipdaaDoorM45
import Derived.Test.YtfiopkehpcipdaaDoorM46
import Derived.Test.YtfiopkehpcipdaaDoorM47
import Derived.Test.YtfiopkehpcipdaaDoorM48
import Derived.Test.YtfiopkehpcipdaaDoorRows
import Derived.Below
import Derived.Laws.Entries
import Derived.Laws.BitsLemmas
import Derived.KernelRfl
import Derived.WalkKit
import Derived.WalkLawsBesides
import Derived.Lib.Hide
import Derived.LoopTactic
import Derived.Outline
import Derived.Deep.QuietTactic
import Derived.BigQuiet
import Derived.BigRegion
import Derived.StillTailTactics
import Derived.Deep.RegionHeld3
import Derived.IntWalk
import Derived.Laws.CopyOwn
import Derived.Deep.WholeRow
import Derived.Deep.RegionLaw
import Derived.Carry
import Derived.ChangeSame
import Derived.ChangeSlices
import Derived.OpenShut
import Derived.ProofKit
import Derived.Maps.AppendAt
import Derived.OwnWalk
import Derived.Deep.AppendLies
import Derived.Lib.SlBytesConst
import Derived.Lib.LaidTab
import Derived.MakeChecks
import Derived.Stop.BytesEq
import Derived.Laws.AppendOwnNone
import Derived.Deep.Cut
import Derived.Still
import Derived.OneCell
import Derived.Lib.Strings
import Derived.Lib.Slices
import Derived.Lib.Small
import Derived.Lib.Walk
import Derived.Lib.BitFns
import Derived.Defers
import Derived.Recover
import Derived.LaidEqlPtr
import Derived.Deep.MidRow
import Derived.StillTail
import Derived.Test.YtfiopkehpcipdaaDoorChecked
import Derived.Laws.Rows
import Derived.Great.BuildSlice
import Derived.Deep.Onto
import Derived.Laws.ResultCell
import Derived.Laws.OwnMore
import Derived.Laws.Tables
import Derived.RangeFuncNested
import Derived.RangeFuncBound
import Derived.RangeFuncCalls
import Derived.RangeFuncLeaves
import Derived.Shelf.Abstract
import Derived.Shelf.RegionOpen
import Derived.OwnWalkIn
import Derived.TacticsInMore
import Derived.LoopNIn
import Derived.LoopIn
import Derived.Laws.IdiomStrings
import Derived.Laws.BytesArg
import Derived.WalkMore
import Derived.ArgAppend
import Derived.Lib.AppendZerosOnto
namespace Go.Proofs.YtfiopkehpcipdaaDoor
section
set_option linter.unusedVariables false
open Go.RowKit Go.ChangeShapes Go.WideShapes Go.ChangeAt
section
variable {H : Type} {enc : TypeId × Value → H} {W : World} {fuel : Nat} {x : DataW H × List MemPlace}
set_option maxRecDepth 100000 in
theorem trod_bytes {cs : List Value} (h : DataW.trod enc Tryd.prog W 0 (fun _ => true) true fuel 36 cs = some x) :
    ∃ (A : Option Addr) (c : Nat) (xs : List B8), cs = [.slice A xs.length c] ∧ Bts W A xs ∧ (A = none → c = 0) ∧ xs.length ≤ c ∧ xs.length ≤ maxLen := by
  rcases open_ints Tryd.underlying36 Tryd.underlying5 (by kernel_rfl) h with ⟨hcs, hx⟩ | ⟨a, len', cap', zs, hcs, _, hl, hm, hz, hx, hcell, hwz⟩
  · exact ⟨none, 0, [], hcs, fun j u h => by simp at h, fun _ => rfl, by simp, by simp⟩
  · have hzl : zs.length = cap' := by simpa using hz
    have hlen : ((zs.take len').map fun z => BitVec.ofNat 8 z.toNat).length = len' := by simp; omega
    refine ⟨some a, cap', (zs.take len').map (fun z => BitVec.ofNat 8 z.toNat), by rw [hlen]; exact hcs, ?_, (fun h => by cases h), by omega, by omega⟩
    intro j u hu
    simp only [List.map_map, List.getElem?_map, Option.map_eq_some_iff] at hu
    obtain ⟨z, hz1, rfl⟩ := hu
    have hj : j < len' := by have := (List.getElem?_eq_some_iff.1 hz1).1; simp at this; omega
    have hzj : zs[j]? = some z := by rw [List.getElem?_take, if_pos hj] at hz1; exact hz1
    have h1 := hcell j (by omega)
    have hb := bounds_u8 (hwz z (List.mem_of_getElem? hzj))
    refine ⟨a, rfl, ?_⟩
    rw [h1, List.getD, hzj]
    simp only [Option.getD_some, Function.comp, bv, BitVec.toNat_ofNat]
    rw [Nat.mod_eq_of_lt (by omega)]
    congr 2
    omega
set_option maxRecDepth 100000 in
theorem cells_one {w : World} {b : Nat} {a : Addr} {v : Value} (h : w.cells? b a 1 = some [v]) : w.cell? a = some v := by
  obtain ⟨-, -, hc⟩ := World.cells?_some h
  have := hc 0 (by omega)
  have e : a.add 0 = a := by unfold Addr.add; simp
  rwa [e] at this
end
end
section
set_option linter.unusedVariables false
set_option linter.unusedSimpArgs false
open Go.RowKit
set_option maxRecDepth 100000
theorem bts_new (w : World) (b : List B8) (Z : Array Value) (hZ : Z = (b.map bv).toArray) : SlN (w.alloc (.cells Z 5)) (fun k => k < w.heap.size) (some ⟨w.heap.size, 0, none⟩) (b.map bv) := fun j u hu => by
  refine ⟨_, rfl, by simp, ?_⟩
  rw [add_row, cell_of_row _ _ _ _ _ _ (heap_alloc_new _ _), hZ, List.getElem?_toArray]; exact hu
end
section
set_option linter.unusedVariables false
set_option linter.unusedSimpArgs false
open Go.RowKit
set_option maxRecDepth 100000
section
variable {w w' : World} {c : Nat} {PS PD : Value} {half a t : Int} {H NV : Value}
end
theorem kused_no (c : Nat) (PS : Value) (half a t : Int) (H NV : Value) (w : World) (h : KBox w c PS (.pointer none) half a t H NV) : Calls Tryd.prog 38 #[.pointer (some ⟨c, 0, none⟩)] w fun r w' => r = .returned (.bool false) ∧ w' = w := by
  obtain ⟨-, c1, -⟩ := h.cells
  clear h
  go_enter Tryd.func38, Tryd.ntmps38
  go_wp2
  go_ret
  exact ⟨rfl, rfl⟩
end
section
set_option linter.unusedVariables false
set_option linter.unusedSimpArgs false
open Go.RowKit
set_option maxRecDepth 100000
theorem leftsC_snoc (t : Int) (b : List B8) : ∀ (L : List (List B8)) (i : Nat) (a : Int), leftsC t i a (L ++ [b]) = leftsC t i a L - sizeC t ((i + L.length : Nat) : Int) b
  | [], i, a => by simp [leftsC]
  | x :: xs, i, a => by
    show leftsC t (i + 1) (a - sizeC t i x) (xs ++ [b]) = leftsC t (i + 1) (a - sizeC t i x) xs - _
    rw [leftsC_snoc t b xs]
    rw [show i + (x :: xs).length = i + 1 + xs.length by simp; omega]
end
section
set_option linter.unusedVariables false
set_option linter.unusedSimpArgs false
open Go.RowKit
set_option maxRecDepth 100000
theorem kkeep_gone (c : Nat) (A : Option Addr) (cb : Nat) (m : Nat) (w : World) (h : KGn w c) : Calls Tryd.prog 15 #[.pointer (some ⟨c, 0, none⟩), .slice A m cb] w fun r w' => r = .returned (.int .i64 20) ∧ w' = w := by
  obtain ⟨PS, half, a, t, H, NV, hb⟩ := h
  have US := Lib.hid (kused_no c PS half a t H NV w hb)
  clear hb
  go_enter Tryd.func15, Tryd.ntmps15
  go_wp2_with (go_at_call 38; refine US.out.mono ?_; clear US; rintro r w1 ⟨rfl, hw⟩; rw [hw]; clear hw)
  go_ret
  exact ⟨rfl, rfl⟩
end
section
set_option linter.unusedVariables false
set_option linter.unusedSimpArgs false
open Go.RowKit
set_option maxRecDepth 100000
theorem ksync_gone (c : Nat) (w : World) (h : KGn w c) : Calls Tryd.prog 16 #[.pointer (some ⟨c, 0, none⟩)] w fun r w' => r = .returned (.int .i64 20) ∧ w' = w := by
  obtain ⟨PS, half, a, t, H, NV, hb⟩ := h
  have US := Lib.hid (kused_no c PS half a t H NV w hb)
  clear hb
  go_enter Tryd.func16, Tryd.ntmps16
  go_wp2_with (go_at_call 38; refine US.out.mono ?_; clear US; rintro r w1 ⟨rfl, hw⟩; rw [hw]; clear hw)
  go_ret
  exact ⟨rfl, rfl⟩
end
section
set_option linter.unusedVariables false
set_option linter.unusedSimpArgs false
open Go.RowKit
set_option maxRecDepth 100000
theorem kturn_gone (c : Nat) (A : Option Addr) (cb : Nat) (m : Nat) (w : World) (h : KGn w c) : Calls Tryd.prog 18 #[.pointer (some ⟨c, 0, none⟩), .slice A m cb] w fun r w' => r = .returned (.int .i64 20) ∧ w' = w := by
  obtain ⟨PS, half, a, t, H, NV, hb⟩ := h
  have US := Lib.hid (kused_no c PS half a t H NV w hb)
  clear hb
  go_enter Tryd.func18, Tryd.ntmps18
  go_wp2_with (go_at_call 38; refine US.out.mono ?_; clear US; rintro r w1 ⟨rfl, hw⟩; rw [hw]; clear hw)
  go_ret
  exact ⟨rfl, rfl⟩
end
section
set_option linter.unusedVariables false
set_option linter.unusedSimpArgs false
open Go.RowKit
set_option maxRecDepth 100000
theorem write_power {d : Dr} {n a : Nat} {s : Sec} (ok : d.Ok n) (hoff : d.off = false) (ha : a < n) (hs : s.length = 64) : (d.writeE (a : Int) s = 0 ∧ (d.write (a : Int) s).off = false) ∨ (d.writeE (a : Int) s = 20 ∧ (d.write (a : Int) s).off = true) := by
  have hr : d.readE (a : Int) = 0 := by
    unfold Dr.readE
    rw [ok.len, hoff, if_neg (by simp), if_pos (by omega)]
  have e1 : d.writeE (a : Int) s = if d.fuse = 1 then 20 else 0 := by unfold Dr.writeE; rw [hr, if_neg (by simp), if_neg (by omega)]
  have e2 : d.write (a : Int) s = if d.fuse = 1 then d.burn else { d.burn with W := d.W ++ [((a : Int).toNat, s)] } := by unfold Dr.write; rw [hr, if_neg (by omega)]
  rw [e1, e2]
  by_cases hf : d.fuse = 1
  · rw [if_pos hf, if_pos hf]
    exact .inr ⟨rfl, by unfold Dr.burn; simp [hf]⟩
  · rw [if_neg hf, if_neg hf]
    exact .inl ⟨rfl, by unfold Dr.burn; simp [hf, hoff]⟩
theorem sync_power {d : Dr} (hoff : d.off = false) : (d.syncE = 0 ∧ d.sync.off = false) ∨ (d.syncE = 20 ∧ d.sync.off = true) := by
  unfold Dr.syncE Dr.sync
  rw [hoff]
  by_cases hf : d.fuse = 1
  · exact .inr ⟨by simp [hf], by simp [hf, Dr.burn]⟩
  · exact .inl ⟨by simp [hf], by simp [hf, Dr.burn, Dr.land, hoff]⟩
theorem putR_power {n : Nat} : ∀ (l : List Sec) (d : Dr) (a : Nat), d.Ok n → d.off = false → a + l.length ≤ n → (∀ s ∈ l, s.length = 64) → ((putR d a l).2 = 0 ∧ (putR d a l).1.off = false) ∨ ((putR d a l).2 = 20 ∧ (putR d a l).1.off = true)
  | [], d, a, ok, hoff, h, hs => .inl ⟨rfl, hoff⟩
  | s :: l, d, a, ok, hoff, h, hs => by
    rw [List.length_cons] at h
    rw [putR]
    rcases write_power ok hoff (show a < n by omega) (hs s (List.mem_cons_self ..)) with ⟨h1, h2⟩ | ⟨h1, h2⟩
    · rw [if_neg (by rw [h1]; simp)]
      exact putR_power l _ _ (ok.write _ _) h2 (by omega) (fun x hx => hs x (List.mem_cons_of_mem _ hx))
    · rw [if_pos (by rw [h1]; decide)]
      exact .inr ⟨h1, h2⟩
theorem putR_W : ∀ (l : List Sec) (d : Dr) (a : Nat), (putR d a l).1.W.length ≤ d.W.length + l.length
  | [], d, a => Nat.le_refl _
  | s :: l, d, a => by
    rw [putR]
    have h := write_W_le d (a : Int) s
    split
    · show (d.write (a : Int) s).W.length ≤ _
      rw [List.length_cons]; omega
    · have := putR_W l (d.write (a : Int) s) (a + 1)
      rw [List.length_cons]; omega
theorem zeros64 : (zeros 64).length = 64 := by simp [zeros]
theorem wipeL_power {n : Nat} (d0 : Dr) (p : Nat) : ∀ (r i : Nat) (d : Dr), d.Ok n → d.off = false → p + i + r ≤ n → (((wipeL d0 d p i r).2 = 0 ∧ (wipeL d0 d p i r).1.off = false) ∨ ((wipeL d0 d p i r).2 = 20 ∧ (wipeL d0 d p i r).1.off = true)) ∧ (wipeL d0 d p i r).1.Ok n
  | 0, i, d, ok, hoff, h => ⟨.inl ⟨rfl, hoff⟩, ok⟩
  | r + 1, i, d, ok, hoff, h => by
    rw [wipeL]
    split
    · exact wipeL_power d0 p r (i + 1) d ok hoff (by omega)
    · rcases write_power ok hoff (show p + i < n by omega) zeros64 with ⟨h1, h2⟩ | ⟨h1, h2⟩
      · rw [if_neg (by rw [h1]; simp)]
        exact wipeL_power d0 p r (i + 1) _ (ok.write _ _) h2 (by omega)
      · rw [if_pos (by rw [h1]; decide)]
        exact ⟨.inr ⟨h1, h2⟩, ok.write _ _⟩
theorem wipeR_power {n : Nat} {d : Dr} {p m : Nat} (ok : d.Ok n) (hoff : d.off = false) (h : p + m ≤ n) : (((wipeR d p m).2 = 0 ∧ (wipeR d p m).1.off = false) ∨ ((wipeR d p m).2 = 20 ∧ (wipeR d p m).1.off = true)) ∧ (wipeR d p m).1.Ok n := by
  obtain ⟨h1, h2⟩ := wipeL_power (n := n) d p m 0 d ok hoff (by omega)
  unfold wipeR
  rcases h1 with ⟨h1, h3⟩ | ⟨h1, h3⟩
  · rw [if_neg (by rw [h1]; simp)]
    split
    · exact ⟨sync_power h3, h2.sync⟩
    · exact ⟨.inl ⟨rfl, h3⟩, h2⟩
  · rw [if_pos (by rw [h1]; decide)]
    exact ⟨.inr ⟨h1, h3⟩, h2⟩
/-- A scroll's Put that its form and its room allow. -/
theorem put_power {n : Nat} {d : Dr} {s : Scr} {b : List B8} (ok : d.Ok n) (hoff : d.off = false) (hf : s.fin ≤ n) (h : s.pre b = 0) : ((s.putE d b = 0 ∧ (s.putD d b).off = false) ∨ (s.putE d b = 20 ∧ (s.putD d b).off = true)) ∧ (s.putD d b).W.length ≤ d.W.length + secsOf (s.form b) ∧ s.pos + secsOf (s.form b) ≤ s.fin := by
  have hp := h
  unfold Scr.pre at hp
  split at hp
  · cases hp
  · split at hp
    · rename_i h2; exact absurd hp h2
    · split at hp
      · cases hp
      · rename_i h3
        have hl : ∀ x ∈ chunks (secsOf (s.form b)) (s.form b), x.length = 64 := chunks_sec _ _ (by unfold secsOf; omega)
        have h1 := putR_power (n := n) (chunks (secsOf (s.form b)) (s.form b)) d s.pos ok hoff (by rw [chunks_len]; omega) hl
        have h2 := putR_W (chunks (secsOf (s.form b)) (s.form b)) d s.pos
        rw [chunks_len] at h2
        unfold Scr.putE Scr.putD
        rw [if_neg (by rw [h]; simp), if_neg (by rw [h]; simp)]
        exact ⟨h1, h2, by omega⟩
theorem layR_power {n : Nat} {d : Dr} {p m t : Nat} {b : List B8} (ok : d.Ok n) (hoff : d.off = false) (hp : p + m ≤ n) (hE : formE13 (t : Int) ((0 : Nat) : Int) b = 0) (hr : secsOf (formV13 (t : Int) ((0 : Nat) : Int) b) ≤ m) :
    (((layR d p m t b).2 = 0 ∧ (layR d p m t b).1.off = false) ∨ ((layR d p m t b).2 = 20 ∧ (layR d p m t b).1.off = true)) ∧ (layR d p m t b).1.W.length ≤ d.W.length + 2 * m := by
  obtain ⟨w1, w2⟩ := wipeR_power (p := p) (m := m) ok hoff hp
  have w3 := wipeR_W d p m
  have hpre : (Scr.mk p (p + m) t 0 false).pre b = 0 := by
    unfold Scr.pre
    rw [if_neg (by simp), if_neg (show ¬ ((Scr.mk p (p + m) t 0 false).formE b ≠ 0) from fun h => h hE), if_neg (show ¬ (Scr.mk p (p + m) t 0 false).fin < (Scr.mk p (p + m) t 0 false).pos + secsOf ((Scr.mk p (p + m) t 0 false).form b) from (show ¬ p + m < p + secsOf (formV13 (t : Int) ((0 : Nat) : Int) b) by omega))]
  unfold layR
  rcases w1 with ⟨h1, h2⟩ | ⟨h1, h2⟩
  · rw [if_neg (by rw [h1]; simp)]
    obtain ⟨q1, q2, q3⟩ := put_power (s := Scr.mk p (p + m) t 0 false) w2 h2 (show p + m ≤ n from hp) hpre
    have q2 : ((Scr.mk p (p + m) t 0 false).putD (wipeR d p m).1 b).W.length ≤ (wipeR d p m).1.W.length + secsOf (formV13 (t : Int) ((0 : Nat) : Int) b) := q2
    rcases q1 with ⟨g1, g2⟩ | ⟨g1, g2⟩
    · rw [if_neg (by rw [g1]; simp)]
      have := sync_W_le ((Scr.mk p (p + m) t 0 false).putD (wipeR d p m).1 b)
      exact ⟨sync_power g2, by show (((Scr.mk p (p + m) t 0 false).putD (wipeR d p m).1 b).sync).W.length ≤ _; omega⟩
    · rw [if_pos (by rw [g1]; decide)]
      exact ⟨.inr ⟨g1, g2⟩, by show ((Scr.mk p (p + m) t 0 false).putD (wipeR d p m).1 b).W.length ≤ _; omega⟩
  · rw [if_pos (by rw [h1]; decide)]
    exact ⟨.inr ⟨h1, h2⟩, by omega⟩
/-- The chest and its drum, the power on or gone. -/
def GSt (w : World) (g c n i : Nat) (B : Nat) (on : Bool) : Prop :=
  if on = true then ∃ d k D E, KAt w g c n d k D E ∧ d.off = false ∧ d.W.length ≤ n * i ∧ k.t ≤ 1 + i ∧ k.L.length ≤ 1 + i ∧ (∀ j, D j → B ≤ j) ∧ (∀ j, E j → B ≤ j)
  else ∃ d D, LD w g n d D ∧ d.off = true ∧ KGn w c ∧ ¬ D c ∧ c < w.heap.size ∧ (∀ j, D j → B ≤ j) ∧ B ≤ c
theorem GSt.on {w : World} {g c n i B : Nat} {on : Bool} (h : GSt w g c n i B on) : Calls Tryd.prog 29 #[.pointer (some ⟨g, 0, none⟩)] w fun r w' => r = .returned (.bool on) ∧ w' = w := by
  unfold GSt at h
  cases on with
  | true =>
    rw [if_pos rfl] at h
    obtain ⟨d, k, D, E, ka, ho, -⟩ := h
    have := ka.ld.on
    rw [ho] at this; exact this
  | false =>
    rw [if_neg (by simp)] at h
    obtain ⟨d, D, ld, ho, -⟩ := h
    have := ld.on
    rw [ho] at this; exact this
/-- What a Keep or a Turn of a small text comes to. -/
def GPost (g c n i B : Nat) (on : Bool) (w : World) (r : Ending) (w' : World) : Prop :=
  ∃ (e : Nat) (on' : Bool), r = .returned (.int .i64 (e : Int)) ∧ GSt w' g c n (i + 1) B on' ∧ Turn (fun j => B ≤ j) w w' ∧ ((on = true ∧ on' = true ∧ (e = 0 ∨ e = 18)) ∨ (on' = false ∧ e = 20))
theorem form_small {t n : Nat} {b : List B8} (ht : t ≤ 100) (hn : n ≤ 100) (hb : b.length ≤ 100) : formE13 (t : Int) (n : Int) b = 0 := by
  refine formE_ok (by unfold mostS; omega) (by unfold mostS; omega) ?_
  have h1 := numB_small (n := t) (by omega)
  have h2 := numB_small (n := n) (by omega)
  have h3 := numB_small (n := b.length) (by omega)
  rw [fldS_len]
  omega
set_option maxHeartbeats 4000000 in
theorem gkeep_any (w : World) (g c n i B : Nat) (on : Bool) (A : Option Addr) (cb : Nat) (b : List B8) (h : GSt w g c n i B on) (hn : n ≤ 100) (hi : i ≤ 50) (hs : SlN w (fun j => B ≤ j) A (b.map bv)) (hA : A = none → cb = 0) (hc : b.length ≤ cb) (hlen : b.length ≤ 100) :
    Calls Tryd.prog 15 #[.pointer (some ⟨c, 0, none⟩), .slice A b.length cb] w (GPost g c n i B on w) := by
  cases on with
  | false =>
    have h0 := h
    unfold GSt at h
    rw [if_neg (by simp)] at h
    obtain ⟨d, D, ld, ho, kg, hcD, hcl, hD, hBc⟩ := h
    refine (kkeep_gone c A cb b.length w kg).mono ?_
    rintro r w' ⟨rfl, rfl⟩
    refine ⟨20, false, rfl, ?_, Turn.refl _ _, .inr ⟨rfl, rfl⟩⟩
    unfold GSt
    rw [if_neg (by simp)]
    exact ⟨d, D, ld, ho, kg, hcD, hcl, hD, hBc⟩
  | true =>
    unfold GSt at h
    rw [if_pos rfl] at h
    obtain ⟨d, k, D, E, ka, ho, hW, hkt, hkL, hD, hE⟩ := h
    have hni : n * i ≤ 5000 := Nat.le_trans (Nat.mul_le_mul hn hi) (by omega)
    refine (kkeep_any w g c n d k D E A cb b ka (by omega) (hs.turn (Turn.refl (fun _ => False) _) (fun _ h => h.elim) (fun j _ h => h.elim (hD j) (hE j))) hA hc (by omega) (by omega) (by omega)).mono ?_
    have hform := form_small (t := k.t) (n := k.L.length) (by omega) (by omega) hlen
    have hpre : (k.scr (n / 2)).pre b ≠ 0 → (k.scr (n / 2)).pre b = 18 ∧ (k.scr (n / 2)).putE d b = 18 := fun hq => by
      have h18 : (k.scr (n / 2)).pre b = 18 := by
        rcases ck_pre ka.ok b with h | h | h
        · exact absurd h hq
        · exfalso
          unfold Scr.pre at h
          rw [if_neg (by simp [Ck.scr])] at h
          rw [if_neg (show ¬ ((k.scr (n / 2)).formE b ≠ 0) from fun h9 => h9 hform)] at h
          split at h <;> omega
        · exact h
      exact ⟨h18, by unfold Scr.putE; rw [if_pos hq, h18]⟩
    rintro r w' ⟨D', E', rfl, h1, h2, h3, hpost⟩
    have hB : ∀ j, D' j → B ≤ j := fun j hj => (h1 j hj).elim (hD j) (fun h => by have := h.1; have := hE c ka.own; have := ka.lt c ka.own; omega)
    have hBE : ∀ j, E' j → B ≤ j := fun j hj => (h2 j hj).elim (hE j) (fun h => by have := h.1; have := hE c ka.own; have := ka.lt c ka.own; omega)
    have h3' : Turn (fun j => B ≤ j) w w' := h3.mono (fun j _ h => h.elim (hD j) (hE j))
    have hni2 : n * (i + 1) = n * i + n := Nat.mul_succ n i
    rcases hpost with ⟨h0, ka'⟩ | ⟨hp, ka'⟩ | ⟨hp, hq, ld', kg, hcD, hcl⟩
    · have hp0 : (k.scr (n / 2)).pre b = 0 := by
        by_cases hq : (k.scr (n / 2)).pre b = 0
        · exact hq
        · have := (hpre hq).2; omega
      obtain ⟨q1, q2, q3⟩ := put_power (s := k.scr (n / 2)) ka.ld.ok ho ka.ok.fin hp0
      have hs2 : secsOf ((k.scr (n / 2)).form b) ≤ n := by
        have h9 : (k.scr (n / 2)).pos + secsOf ((k.scr (n / 2)).form b) ≤ k.fin (n / 2) := q3
        have := ka.ok.fin
        omega
      refine ⟨0, true, by rw [h0], ?_, h3', .inl ⟨rfl, rfl, .inl rfl⟩⟩
      unfold GSt
      rw [if_pos rfl]
      refine ⟨_, _, D', E', ka', ?_, by omega, by show k.t ≤ _; omega, by show (k.L ++ [b]).length ≤ _; rw [List.length_append, List.length_singleton]; omega, hB, hBE⟩
      rcases q1 with ⟨-, q⟩ | ⟨q, -⟩
      · exact q
      · omega
    · refine ⟨18, true, by rw [(hpre hp).2], ?_, h3', .inl ⟨rfl, rfl, .inr rfl⟩⟩
      unfold GSt
      rw [if_pos rfl]
      exact ⟨d, k, D', E', ka', ho, by omega, by omega, by omega, hB, hBE⟩
    · obtain ⟨q1, -, -⟩ := put_power (s := k.scr (n / 2)) ka.ld.ok ho ka.ok.fin hq
      rcases q1 with ⟨q, -⟩ | ⟨q, q'⟩
      · exact absurd q hp
      · refine ⟨20, false, by rw [q], ?_, h3', .inr ⟨rfl, rfl⟩⟩
        unfold GSt
        rw [if_neg (by simp)]
        exact ⟨_, D', ld', q', kg, hcD, hcl, hB, hE c ka.own⟩
set_option maxHeartbeats 4000000 in
theorem gturn_any (w : World) (g c n i B : Nat) (on : Bool) (A : Option Addr) (cb : Nat) (b : List B8) (h : GSt w g c n i B on) (hn : n ≤ 100) (hi : i ≤ 50) (hs : SlN w (fun j => B ≤ j) A (b.map bv)) (hA : A = none → cb = 0) (hc : b.length ≤ cb) (hlen : b.length ≤ 100) :
    Calls Tryd.prog 18 #[.pointer (some ⟨c, 0, none⟩), .slice A b.length cb] w (GPost g c n i B on w) := by
  cases on with
  | false =>
    unfold GSt at h
    rw [if_neg (by simp)] at h
    obtain ⟨d, D, ld, ho, kg, hcD, hcl, hD, hBc⟩ := h
    refine (kturn_gone c A cb b.length w kg).mono ?_
    rintro r w' ⟨rfl, rfl⟩
    refine ⟨20, false, rfl, ?_, Turn.refl _ _, .inr ⟨rfl, rfl⟩⟩
    unfold GSt
    rw [if_neg (by simp)]
    exact ⟨d, D, ld, ho, kg, hcD, hcl, hD, hBc⟩
  | true =>
    unfold GSt at h
    rw [if_pos rfl] at h
    obtain ⟨d, k, D, E, ka, ho, hW, hkt, hkL, hD, hE⟩ := h
    have hni : n * i ≤ 5000 := Nat.le_trans (Nat.mul_le_mul hn hi) (by omega)
    have hform := form_small (t := k.t + 1) (n := 0) (by omega) (by omega) hlen
    refine (kturn_any w g c n k d D E A cb b ka ho (by omega) (hs.turn (Turn.refl (fun _ => False) _) (fun _ h => h.elim) (fun j _ h => h.elim (hD j) (hE j))) hA hc (by omega) (by omega)).mono ?_
    rintro r w' ⟨D', E', h1, h2, h3, hpost⟩
    have hB : ∀ j, D' j → B ≤ j := fun j hj => (h1 j hj).elim (hD j) (fun h => by have := h.1; have := hE c ka.own; have := ka.lt c ka.own; omega)
    have hBE : ∀ j, E' j → B ≤ j := fun j hj => (h2 j hj).elim (hE j) (fun h => by have := h.1; have := hE c ka.own; have := ka.lt c ka.own; omega)
    have h3' : Turn (fun j => B ≤ j) w w' := h3.mono (fun j _ h => h.elim (hD j) (hE j))
    have hni2 : n * (i + 1) = n * i + n := Nat.mul_succ n i
    have hTP : turnP k (n / 2) b = if n / 2 < secsOf (formV13 ((k.t + 1 : Nat) : Int) 0 b) then 18 else 0 := by
      unfold turnP
      rw [if_neg (show ¬ (formE13 ((k.t + 1 : Nat) : Int) 0 b ≠ 0) from fun h => h hform)]
    rcases hpost with ⟨h0, rfl, ka'⟩ | ⟨h0, rfl, hq⟩
    · have h18 : turnP k (n / 2) b = 18 := by rw [hTP] at h0 ⊢; split at h0 <;> simp_all
      refine ⟨18, true, by rw [h18], ?_, h3', .inl ⟨rfl, rfl, .inr rfl⟩⟩
      unfold GSt
      rw [if_pos rfl]
      exact ⟨d, k, D', E', ka', ho, by omega, by omega, by omega, hB, hBE⟩
    · have hr : secsOf (formV13 ((k.t + 1 : Nat) : Int) ((0 : Nat) : Int) b) ≤ n / 2 := by
        rw [hTP] at h0
        by_cases hq : n / 2 < secsOf (formV13 ((k.t + 1 : Nat) : Int) 0 b)
        · rw [if_pos hq] at h0; cases h0
        · have : ¬ n / 2 < secsOf (formV13 ((k.t + 1 : Nat) : Int) ((0 : Nat) : Int) b) := hq
          omega
      have ha := ka.ok.a
      have hfit : (1 - k.a) * (n / 2) + n / 2 ≤ n := by
        rcases Nat.lt_or_ge k.a 1 with h9 | h9
        · rw [show k.a = 0 by omega]; omega
        · rw [show k.a = 1 by omega]; omega
      obtain ⟨l1, l2⟩ := layR_power (t := k.t + 1) ka.ld.ok ho hfit hform hr
      have e : turnR d k (n / 2) b = layR d ((1 - k.a) * (n / 2)) (n / 2) (k.t + 1) b := rfl
      rw [← e] at l1 l2
      rcases hq with ⟨hq, ka'⟩ | ⟨hq, ld', kg, hcD, hcl⟩
      · refine ⟨0, true, by rw [hq], ?_, h3', .inl ⟨rfl, rfl, .inl rfl⟩⟩
        unfold GSt
        rw [if_pos rfl]
        refine ⟨_, _, D', E', ka', ?_, by omega, by show k.t + 1 ≤ _; omega, by show 1 ≤ _; omega, hB, hBE⟩
        rcases l1 with ⟨-, q⟩ | ⟨q, -⟩
        · exact q
        · omega
      · rcases l1 with ⟨q, -⟩ | ⟨q, q'⟩
        · exact absurd q hq
        · refine ⟨20, false, by rw [q], ?_, h3', .inr ⟨rfl, rfl⟩⟩
          unfold GSt
          rw [if_neg (by simp)]
          exact ⟨_, D', ld', q', kg, hcD, hcl, hB, hE c ka.own⟩
theorem gsync_off (w : World) (g c n i B : Nat) (h : GSt w g c n i B false) : Calls Tryd.prog 16 #[.pointer (some ⟨c, 0, none⟩)] w fun r w' => r = .returned (.int .i64 20) ∧ w' = w := by
  unfold GSt at h
  rw [if_neg (by simp)] at h
  obtain ⟨d, D, ld, ho, kg, -⟩ := h
  exact ksync_gone c w kg
theorem gbad_off (w : World) (g c n i B : Nat) (h : GSt w g c n i B false) : KGn w c := by
  unfold GSt at h
  rw [if_neg (by simp)] at h
  obtain ⟨d, D, ld, ho, kg, -⟩ := h
  exact kg
end
section
set_option linter.unusedVariables false
set_option linter.unusedSimpArgs false
open Go.ChangeShapes Go.WideShapes Go.ChangeAt Go.RowKit
set_option maxRecDepth 100000
section
variable {H : Type} {enc : TypeId × Value → H} {W : World} {fuel : Nat} {x : DataW H × List MemPlace}
theorem open_texts {r : Reach} {b0 : Nat} {v : Value} {d : DataW H} {p : List MemPlace} (hval : Value.okWide Tryd.prog W r b0 31 v) (hd : DataW.Trod enc Tryd.prog W 0 (fun _ => true) true 31 v d p) :
    ∃ (A : Option Addr) (c : Nat) (l : List (List B8)), v = .slice A l.length c ∧ LstN W A l ∧ (A = none → c = 0) ∧ l.length ≤ c ∧ l.length ≤ maxLen ∧ ∀ x ∈ l, x.length ≤ maxLen := by
  obtain ⟨a0, len, cap, rfl⟩ := okWide_slice Tryd.underlying31 hval
  obtain ⟨fuel, hf⟩ := hd
  rcases DataW.trod_slice Tryd.underlying31 hf with ⟨hcs, -⟩ | ⟨a, len', cap', elems, rest, m, -, hcs, -, -, hl, hm, hel, hall, -, -⟩
  · simp [Value.cells] at hcs
    obtain ⟨rfl, rfl, rfl⟩ := hcs
    exact ⟨none, 0, [], rfl, fun i f h => by simp at h, fun _ => rfl, by simp, by simp, by simp⟩
  · simp [Value.cells] at hcs
    obtain ⟨rfl, rfl, rfl⟩ := hcs
    have c31 : Tryd.prog.cellsOf 36 = 1 := by kernel_rfl
    have each : ∀ i, i < len → ∃ xs : List B8, ∃ Ai ci, W.cell? (a.add i) = some (.slice Ai xs.length ci) ∧ xs.length ≤ ci ∧ (Ai = none → ci = 0) ∧ Bts W Ai xs ∧ xs.length ≤ maxLen := by
      intro i hi
      have h := hall i hi
      rw [c31, List.getElem?_eq_getElem (by omega), Option.bind_eq_some_iff, Nat.mul_one] at h
      obtain ⟨cs, hcs, ht⟩ := h
      obtain ⟨Ai, ci, xs, rfl, h1, h2, h3, h4⟩ := trod_bytes ht
      exact ⟨xs, Ai, ci, cells_one hcs, h3, h2, h1, h4⟩
    have hlen : ((List.range len).map fun i => if h : i < len then (each i h).choose else []).length = len := by simp
    refine ⟨some a, cap, (List.range len).map fun i => if h : i < len then (each i h).choose else [], by rw [hlen], ?_, (fun h => by cases h), by omega, by omega, ?_⟩
    rotate_left 1
    · intro x hx
      rw [List.mem_map] at hx
      obtain ⟨i, hi, rfl⟩ := hx
      have hi : i < len := by simpa using hi
      rw [dif_pos hi]
      obtain ⟨Ai, ci, -, -, -, -, h5⟩ := (each i hi).choose_spec
      exact h5
    intro i f hf
    have hi : i < len := by have := (List.getElem?_eq_some_iff.1 hf).1; simpa using this
    simp [hi] at hf
    obtain ⟨Ai, ci, h1, h2, h3, h4, -⟩ := (each i hi).choose_spec
    rw [hf] at h1 h2 h4
    exact ⟨a, Ai, ci, rfl, h1, h2, h3, h4⟩
end
def bov (b : Bool) : Value := .bool b
theorem open_bools {H : Type} {enc : TypeId × Value → H} {W : World} {r : Reach} {b0 : Nat} {v : Value} {d : DataW H} {p : List MemPlace} (hval : Value.okWide Tryd.prog W r b0 63 v) (hd : DataW.Trod enc Tryd.prog W 0 (fun _ => true) true 63 v d p) :
    ∃ (A : Option Addr) (c : Nat) (xs : List Bool), v = .slice A xs.length c ∧ Sl W W.heap.size A (xs.map bov) ∧ (A = none → c = 0) ∧ xs.length ≤ c ∧ xs.length ≤ maxLen := by
  obtain ⟨a0, len, cap, rfl⟩ := okWide_slice Tryd.underlying63 hval
  obtain ⟨fuel, hf⟩ := hd
  rcases DataW.trod_slice Tryd.underlying63 hf with ⟨hcs, -⟩ | ⟨a, len', cap', elems, rest, m, -, hcs, -, -, hl, hm, hel, hall, -, -⟩
  · simp [Value.cells] at hcs
    obtain ⟨rfl, rfl, rfl⟩ := hcs
    exact ⟨none, 0, [], rfl, Sl.none _ _ _, fun _ => rfl, by simp, by simp⟩
  · simp [Value.cells] at hcs
    obtain ⟨rfl, rfl, rfl⟩ := hcs
    have c31 : Tryd.prog.cellsOf 4 = 1 := by kernel_rfl
    have each : ∀ i, i < len → ∃ b : Bool, W.cell? (a.add i) = some (.bool b) := by
      intro i hi
      have h := hall i hi
      rw [c31, List.getElem?_eq_getElem (by omega), Option.bind_eq_some_iff] at h
      obtain ⟨cs, hcs, ht⟩ := h
      obtain ⟨b, rfl, -⟩ := DataW.trod_bool Tryd.underlying4 ht
      obtain ⟨hb, hl, hc⟩ := World.cells?_some hcs
      have h0 := hc 0 (by omega)
      rw [Nat.mul_one, addr_zero0] at h0
      exact ⟨b, h0⟩
    have hlen : ((List.range len).map fun i => if h : i < len then (each i h).choose else false).length = len := by simp
    refine ⟨some a, cap, (List.range len).map fun i => if h : i < len then (each i h).choose else false, by rw [hlen], ?_, (fun h => by cases h), by omega, by omega⟩
    intro j u hu
    have hj : j < len := by have := (List.getElem?_eq_some_iff.1 hu).1; simpa using this
    simp [hj] at hu
    have h1 := (each j hj).choose_spec
    refine ⟨a, rfl, ?_, ?_⟩
    · have := World.block_lt_of_cell? W _ h1
      rwa [add_block] at this
    · rw [h1, ← hu]; rfl
end
section
set_option linter.unusedVariables false
set_option linter.unusedSimpArgs false
open Go.RowKit
set_option maxRecDepth 100000
theorem wrap_low (x : Int) : -9223372036854775808 ≤ IntKind.i64.wrap x ∧ IntKind.i64.wrap x < 9223372036854775808 := by
  have e : IntKind.i64.wrap x = if (true && decide (x % 18446744073709551616 ≥ 9223372036854775808)) = true then x % 18446744073709551616 - 18446744073709551616 else x % 18446744073709551616 := by
    rfl
  rw [e]
  by_cases h : x % 18446744073709551616 ≥ 9223372036854775808
  · rw [if_pos (by simpa using h)]; omega
  · rw [if_neg (by simpa using h)]; omega
theorem wholes_wild (x : Int) (w : World) : Calls Tryd.prog 66 #[.int .i64 x] w fun r w' => (∃ z, r = .returned (.int .i64 z) ∧ -9223372036854775808 ≤ z ∧ z < 9223372036854775808) ∧ w' = w := by
  obtain ⟨a, ha⟩ : ∃ a, a = IntKind.i64.wrap (x + 64) := ⟨_, rfl⟩
  obtain ⟨b, hb⟩ : ∃ b, b = IntKind.i64.wrap (a - 1) := ⟨_, rfl⟩
  have h1 := wrap_low (x + 64)
  have h2 := wrap_low (a - 1)
  rw [← ha] at h1
  rw [← hb] at h2
  have ha' := ha.symm
  have hb' := hb.symm
  clear ha hb
  obtain ⟨q, hq⟩ : ∃ q, q = b.tdiv 64 := ⟨_, rfl⟩
  have h3 : -9223372036854775808 ≤ q ∧ q < 9223372036854775808 := by
    rw [hq]
    rcases Int.le_total 0 b with h | h
    · rw [Int.tdiv_eq_ediv_of_nonneg h]; omega
    · have e : b.tdiv 64 = -((-b).tdiv 64) := by rw [Int.neg_tdiv]; omega
      rw [e, Int.tdiv_eq_ediv_of_nonneg (by omega)]; omega
  have hq' := hq.symm
  have hwq : IntKind.i64.wrap q = q := IntWalk.i64_in _ (by omega)
  clear hq
  go_enter Tryd.func66, Tryd.ntmps66
  go_wp2
  go_ret
  exact ⟨⟨q, rfl, h3.1, h3.2⟩, rfl⟩
set_option maxHeartbeats 4000000 in
theorem sectorsOf_wild (t n m : Nat) (ht : t ≤ 1099511627776) (hn : n ≤ 1099511627776) (hm : m ≤ 9223372036854775807) (w : World) :
    Calls Tryd.prog 45 #[.int .i64 (t : Int), .int .i64 (n : Int), .int .i64 (m : Int)] w fun r w' => (∃ z, r = .returned (.int .i64 z) ∧ -9223372036854775808 ≤ z ∧ z < 9223372036854775808) ∧ Turn (fun _ => False) w w' := by
  have lT := numB_small ht
  have lN := numB_small hn
  have lM := numB_le (n := m) (by omega)
  obtain ⟨L, hL⟩ : ∃ L, L = (numB t).length + ((numB n).length + (numB m).length) := ⟨_, rfl⟩
  have hL30 : L ≤ 30 := by omega
  have HLL := Lib.hid hL
  have LEN := Lib.hid (And.intro lT (And.intro lN lM))
  clear hL lT lN lM
  obtain ⟨w1, hw1⟩ : ∃ w1, w1 = w.alloc (.cells #[.slice none 0 0] 105) := ⟨_, rfl⟩
  have t1 : Turn (fun _ => False) w w1 := by rw [hw1]; exact (Turn.refl _ _).alloc _
  have P1 := Lib.hid (show PenAt w1 w.heap.size (w.heap.size + 1) (.slice none 0 0) [] by rw [hw1]; exact pen_new w)
  have T1 := Lib.hid t1
  have C1 := Lib.hid (pnum_any w.heap.size _ _ _ t w1 P1.out (by omega) (by simp))
  clear t1
  go_enter Tryd.func45, Tryd.ntmps45
  go_upto_region 2 with fail
  change Code.wp _ _ _ _ (w.alloc (.cells #[.slice none 0 0] 105))
  rw [← hw1]
  clear hw1
  obtain ⟨p, hp⟩ : ∃ p, p = w.heap.size := ⟨_, rfl⟩
  have HP := Lib.hid (show w.heap.size ≤ p by omega)
  rw [← hp] at P1 C1 ⊢
  clear hp
  go_wp2_with (go_at_call 61; refine stop ?_)
  unfold Stop
  refine C1.out.mono ?_
  rintro r w2 ⟨rfl, v2, p2, s2⟩
  have T2 := Lib.hid (pen_turn T1.out HP.out P1.out s2)
  have C2 := Lib.hid (pnum_any p _ _ _ n w2 p2 (by omega) (by have := LEN.out; simp; omega))
  have P2 := Lib.hid p2
  clear C1 P1 T1 p2 s2
  go_wp2_with (go_at_call 61; refine stop ?_)
  unfold Stop
  refine C2.out.mono ?_
  rintro r w3 ⟨rfl, v3, p3, s3⟩
  have T3 := Lib.hid (pen_turn T2.out HP.out P2.out s3)
  have C3 := Lib.hid (pnum_any p _ _ _ m w3 p3 (by omega) (by have := LEN.out; simp; omega))
  have P3 := Lib.hid p3
  clear C2 P2 T2 p3 s3
  go_wp2_with (go_at_call 61; refine stop ?_)
  unfold Stop
  refine C3.out.mono ?_
  rintro r w4 ⟨rfl, v4, p4, s4⟩
  have T4 := Lib.hid (pen_turn T3.out HP.out P3.out s4)
  have hl4 : ([] ++ numB t ++ numB n ++ numB m).length = L := by rw [HLL.out]; simp [Nat.add_assoc]
  have C4 := pbytes_any p _ _ _ w4 p4 (by rw [hl4]; omega)
  rw [hl4] at C4
  have C4 := Lib.hid C4
  clear C3 P3 T3 p4 s4 hl4
  go_wp2_with (go_at_call 63; refine stop ?_)
  unfold Stop
  refine C4.out.mono ?_
  rintro r w5 ⟨u, rfl, o5, t5⟩
  obtain ⟨A5, c5, rfl, -, -, -, -⟩ := own_sl o5
  have T5 := Lib.hid (T4.out.trans t5 (fun _ _ h => h))
  obtain ⟨X, hX⟩ : ∃ X, X = IntKind.i64.wrap (12 + (L : Int) + (m : Int)) := ⟨_, rfl⟩
  have hXs := hX.symm
  have W5 := Lib.hid (wholes_wild X w5)
  clear hX
  clear C4 T4 o5 t5
  go_wp2_with (go_at_call 66; refine stop ?_)
  unfold Stop
  refine W5.out.mono ?_
  rintro r w6 ⟨⟨z, rfl, hz1, hz2⟩, hw6⟩
  rw [hw6]
  clear W5 hw6 w6 hXs
  go_wp2
  go_ret
  exact ⟨⟨z, rfl, hz1, hz2⟩, T5.out⟩
/-- What is left behind texts, put one behind the other. -/
def remB (t : Nat) : Nat → Nat → List (List B8) → Nat
  | _, left, [] => left
  | i, left, b :: bs => remB t (i + 1) (left - secB t i b.length) bs
theorem remB_le (t : Nat) : ∀ (L : List (List B8)) (i left : Nat), remB t i left L ≤ left
  | [], i, left => Nat.le_refl _
  | b :: bs, i, left => Nat.le_trans (remB_le t bs (i + 1) (left - secB t i b.length)) (Nat.sub_le _ _)
theorem fits_app (t : Nat) (ys : List (List B8)) : ∀ (xs : List (List B8)) (i left : Nat), fitsB t i left (xs ++ ys) = (fitsB t i left xs && fitsB t (i + xs.length) (remB t i left xs) ys)
  | [], i, left => by simp [fitsB, remB]
  | b :: bs, i, left => by
    rw [List.cons_append, fitsB, fitsB, remB, fits_app t ys bs]
    by_cases h : 1024 < secB t i b.length ∨ left < secB t i b.length
    · rw [if_pos h, if_pos h]; rfl
    · rw [if_neg h, if_neg h, List.length_cons, show i + 1 + bs.length = i + (bs.length + 1) by omega]
theorem rem_app (t : Nat) (b : List B8) : ∀ (xs : List (List B8)) (i left : Nat), remB t i left (xs ++ [b]) = remB t i left xs - secB t (i + xs.length) b.length
  | [], i, left => by simp [remB]
  | x :: xs, i, left => by
    rw [List.cons_append, remB, remB, rem_app t b xs, List.length_cons, show i + 1 + xs.length = i + (xs.length + 1) by omega]
def smallB (L : List (List B8)) (j : Nat) : Prop := ∀ i, i < j → ∀ x, L[i]? = some x → x.length ≤ 900000
/-- What Fits answers of texts of any length. -/
def FitsP (t nn l : Nat) (L : List (List B8)) (v : Bool) : Prop := (∀ j, smallB L j → fitsB t nn l (L.take j) = false → v = false) ∧ ((∀ x ∈ L, x.length ≤ 900000) → v = fitsB t nn l L)
theorem fitsP_no {t nn l k : Nat} {L : List (List B8)} {b : List B8} (hb : L[k]? = some b) (h1 : smallB L k → 1024 < secB t (nn + k) b.length ∨ remB t nn l (L.take k) < secB t (nn + k) b.length ∨ 900000 < b.length) : FitsP t nn l L false := by
  refine ⟨fun _ _ _ => rfl, fun hs => ?_⟩
  obtain ⟨hk, e⟩ := List.getElem?_eq_some_iff.1 hb
  have hsm : smallB L k := fun i hi x hx => hs x (List.mem_of_getElem? hx)
  have hbl := hs b (List.mem_of_getElem? hb)
  have hL : L = L.take k ++ b :: L.drop (k + 1) := by
    rw [← e, ← List.drop_eq_getElem_cons hk, List.take_append_drop]
  rw [hL, fits_app, List.length_take, Nat.min_eq_left (Nat.le_of_lt hk), fitsB]
  rw [if_pos (by rcases h1 hsm with h | h | h; exact .inl h; exact .inr h; omega)]
  simp
def LFPost (t nn l : Nat) (L : List (List B8)) (w : World) (r : Ending) (w' : World) : Prop := ∃ v, r = .returned (.bool v) ∧ FitsP t nn l L v ∧ Turn (fun _ => False) w w'
set_option maxHeartbeats 8000000 in
theorem lfitsW_any (w : World) (s t nn l : Nat) (P : Value) (p : Int) (A : Option Addr) (c : Nat) (L : List (List B8)) (hb : SBox w s P t nn p l) (hL : LstN w A L) (ht : t ≤ 1099511627776) (hn : nn + L.length ≤ 1099511627776) (hl : l ≤ 1000000) (hbs : ∀ x ∈ L, x.length ≤ maxLen) :
    Calls Tryd.prog 19 #[.pointer (some ⟨s, 0, none⟩), .slice A L.length c] w (LFPost t nn l L w) := by
  have BX := Lib.hid hb
  have HL := Lib.hid hL
  have HBS := Lib.hid hbs
  obtain ⟨c0, c1, c2, c3, c4⟩ := hb.cells
  have HQ := Lib.hid (show ∀ v, FitsP t nn l L v = FitsP t nn l L v from fun _ => rfl)
  clear hb hL hbs
  go_enter Tryd.func19, Tryd.ntmps19
  go_wp2
  clear c0 c1 c2 c3 c4
  go_loopw [5, 17] (fun lv iv wr => ∃ (k : Nat) (lf : Int), k ≤ L.length ∧ (-9223372036854775808 ≤ lf ∧ lf < 9223372036854775808) ∧ lv = .int .i64 lf ∧ iv = .int .i64 (k : Int) ∧ (∀ j, j ≤ k → smallB L j → fitsB t nn l (L.take j) = true) ∧ (smallB L k → lf = (remB t nn l (L.take k) : Int)) ∧ Turn (fun _ => False) w wr) (fun _ iv _ => L.length - (intOf iv).toNat)
  case atStart => exact ⟨0, l, by omega, by omega, rfl, rfl, fun j hj _ => by rw [show j = 0 by omega, List.take_zero]; rfl, fun _ => by rw [List.take_zero]; rfl, Turn.refl _ _⟩
  case round =>
    obtain ⟨k, lf, hk, hlf, rfl, rfl, he, hlx, htt⟩ := hrel
    have HE := Lib.hid he
    have HLX := Lib.hid hlx
    have TT := Lib.hid htt
    have BXr := Lib.hid (BX.out.turn htt (fun h => h))
    have HLr := HL.out.below (turn_stp' htt)
    clear he htt hlx
    by_cases hlt : k < L.length
    · have hLk : L[k]? = some L[k] := List.getElem?_eq_getElem hlt
      obtain ⟨ad, Ai, ci, rfl, hcl, hci, hai, hbt⟩ := HLr k L[k] hLk
      have hbl := HBS.out L[k] (List.getElem_mem hlt)
      obtain ⟨b, hbd⟩ : ∃ b, b = L[k] := ⟨_, rfl⟩
      rw [← hbd] at hcl hci hbl hLk
      obtain ⟨q, hq⟩ : ∃ q, q = nn + k := ⟨_, rfl⟩
      have hqi : (nn : Int) + (k : Int) = (q : Int) := by omega
      have hwq : IntKind.i64.wrap ((nn : Int) + (k : Int)) = (q : Int) := by rw [IntWalk.i64_in _ (by omega)]; omega
      have hwq2 : IntKind.i64.wrap (q : Int) = (q : Int) := IntWalk.i64_in _ (by omega)
      obtain ⟨m, hm⟩ : ∃ m, m = b.length := ⟨_, rfl⟩
      rw [← hm] at hcl hci hbl
      have hq40 : q ≤ 1099511627776 := by omega
      have RS := Lib.hid (show Calls Tryd.prog 45 #[.int .i64 (t : Int), .int .i64 (q : Int), .int .i64 (m : Int)] wr.drew fun r w' => ∃ z, r = .returned (.int .i64 z) ∧ (-9223372036854775808 ≤ z ∧ z < 9223372036854775808) ∧ (m ≤ 900000 → z = (secB t q m : Int)) ∧ Turn (fun _ => False) wr.drew w' from by
        by_cases hm9 : m ≤ 900000
        · refine (sectorsOf_any t q m ht hq40 (by omega) wr.drew).mono ?_
          rintro r w' ⟨rfl, t⟩
          refine ⟨_, rfl, ?_, fun _ => rfl, t⟩
          have a1 := numB_small ht
          have a2 := numB_small hq40
          have a3 := numB_small (n := m) (by omega)
          omega
        · refine (sectorsOf_wild t q m ht hq40 (by unfold maxLen at hbl; omega) wr.drew).mono ?_
          rintro r w' ⟨⟨z, rfl, h1, h2⟩, t⟩
          exact ⟨z, rfl, ⟨h1, h2⟩, fun h => absurd h hm9, t⟩)
      obtain ⟨c0, c1, c2, c3, c4⟩ := BXr.out.cells
      have td : Turn (fun _ => False) wr wr.drew := (Turn.refl _ _).drew
      have HM := Lib.hid hm
      have HQQ := Lib.hid hq
      have HLK := Lib.hid hLk
      clear hbt hbd hq hm HLr hLk hbl
      go_upto_region 7 with fail
      go_region_held3 (fun w' => w'.cell? ⟨s, 1, none⟩ = some (.int .i64 (t : Int)) ∧ w'.cell? ⟨s, 2, none⟩ = some (.int .i64 (nn : Int)))
        (first | exact ⟨c1, c2⟩ | exact ⟨k1, k2⟩)
        (first
          | (go_at_call 45; refine RS.out.mono ?_; clear RS; rintro r w3 ⟨z, rfl, hz, hzx, t3⟩; have HZ := Lib.hid hz; have HZX := Lib.hid hzx; have T3 := Lib.hid t3; have k1 := t3.cell (show wr.drew.cell? _ = _ from c1) (fun h => h); have k2 := t3.cell (show wr.drew.cell? _ = _ from c2) (fun h => h); clear t3 hz hzx))
      have T4 := Lib.hid ((TT.out.trans td (fun _ _ h => h)).trans T3.out (fun _ _ h => h))
      clear c0 c1 c2 c3 c4 k1 k2 hcl
      obtain ⟨hz1, hz2⟩ := HZ.out
      by_cases h1 : 1024 < z
      · have d1 : decide ((1024 : Int) < z) = true := decide_eq_true h1
        have NO := Lib.hid (show FitsP t nn l L false from fitsP_no HLK.out (fun hs => by
          by_cases h9 : 900000 < b.length
          · exact .inr (.inr h9)
          · have := HZX.out (by have := HM.out; omega)
            rw [HQQ.out, HM.out] at this
            exact .inl (by omega)))
        clear h1
        go_wp2
        go_ret
        exact ⟨_, rfl, NO.out, T4.out⟩
      have d1 : decide ((1024 : Int) < z) = false := decide_eq_false h1
      by_cases h2 : lf < z
      · have d2 : decide (lf < z) = true := decide_eq_true h2
        have NO := Lib.hid (show FitsP t nn l L false from fitsP_no HLK.out (fun hs => by
          by_cases h9 : 900000 < b.length
          · exact .inr (.inr h9)
          · have h3 := HZX.out (by have := HM.out; omega)
            rw [HQQ.out, HM.out] at h3
            have h4 := HLX.out hs
            exact .inr (.inl (by omega))))
        clear h2
        go_wp2
        go_ret
        exact ⟨_, rfl, NO.out, T4.out⟩
      have d2 : decide (lf < z) = false := decide_eq_false h2
      obtain ⟨lf', hlf'⟩ : ∃ x, x = IntKind.i64.wrap (lf - z) := ⟨_, rfl⟩
      have hwl := wrap_low (lf - z)
      rw [← hlf'] at hwl
      have hws := hlf'.symm
      have NX := Lib.hid (show (∀ j, j ≤ k + 1 → smallB L j → fitsB t nn l (L.take j) = true) ∧ (smallB L (k + 1) → lf' = (remB t nn l (L.take (k + 1)) : Int)) from by
        have htk : L.take (k + 1) = L.take k ++ [b] := by rw [List.take_add_one, HLK.out]; rfl
        have hlk : (L.take k).length = k := by rw [List.length_take]; omega
        have hbs : smallB L (k + 1) → b.length ≤ 900000 := fun hs => hs k (by omega) b HLK.out
        have hsk : smallB L (k + 1) → smallB L k := fun hs i hi => hs i (by omega)
        have hz : smallB L (k + 1) → z = (secB t (nn + k) b.length : Int) := fun hs => by
          have h3 := HZX.out (by have := HM.out; have := hbs hs; omega)
          rwa [HQQ.out, HM.out] at h3
        refine ⟨fun j hj hs => ?_, fun hs => ?_⟩
        · by_cases hjk : j ≤ k
          · exact HE.out j hjk hs
          · obtain rfl : j = k + 1 := by omega
            rw [htk, fits_app, HE.out k (Nat.le_refl _) (hsk hs), hlk, fitsB]
            have h3 := hz hs
            have h4 := HLX.out (hsk hs)
            rw [if_neg (by omega)]
            rfl
        · rw [htk, rem_app, hlk, hlf']
          have h3 := hz hs
          have h4 := HLX.out (hsk hs)
          have h5 := remB_le t (L.take k) nn l
          rw [IntWalk.i64_in _ (by omega)]
          omega)
      have HWL := Lib.hid hwl
      have hk40 : k < 1099511627776 := by omega
      have hwk : IntKind.i64.wrap ((k : Int) + 1) = (k : Int) + 1 := IntWalk.i64_in _ (by omega)
      clear hlf' hwl
      go_wp2
      go_roundw
      case rel => exact ⟨k + 1, lf', by omega, HWL.out, by go_num, by go_num, NX.out.1, NX.out.2, T4.out⟩
      case measure => simp [intOf]; omega
    · have hkl : k = L.length := by omega
      have HE2 := Lib.hid (show FitsP t nn l L true from by
        refine ⟨fun j hs hf => ?_, fun hs => ?_⟩
        · by_cases hj : j ≤ k
          · rw [HE.out j hj hs] at hf; cases hf
          · have h1 := HE.out k (Nat.le_refl _) (fun i hi => hs i (by omega))
            rw [List.take_of_length_le (by omega)] at hf h1
            rw [h1] at hf; cases hf
        · have h1 := HE.out k (Nat.le_refl _) (fun i hi x hx => hs x (List.mem_of_getElem? hx))
          rw [List.take_of_length_le (by omega)] at h1
          exact h1.symm)
      clear HLr
      go_wp2
      go_ret
      exact ⟨_, rfl, HE2.out, TT.out⟩
end
end Go.Proofs.YtfiopkehpcipdaaDoor
