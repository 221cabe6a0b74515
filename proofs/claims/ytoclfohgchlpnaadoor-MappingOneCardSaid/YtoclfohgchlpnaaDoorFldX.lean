/- Merged: The contracts of what is below the pen and the eye: a number's bits, bytes as a number, bytes copied, bytes compared. The contracts of bytes compared (the document's) and of bytes copied (the library's). The contracts of the eye's small methods: an error told, an error there, what is left, bytes taken. The contract of the eye's 'number'. The contracts of the eye's 'Num' and 'Text'. The contract of the eye's 'Id'. The contracts of the pen. The contracts of the pen's 'Text', 'Id' and 'Bytes'. The contracts of 'look' and 'Read': what is done with an eye, and how its panic is caught. The contract of 'Read'. The contracts of the statements' own small reader 'one', and of the document's example. -/
import Derived.Test.YtoclfohgchlpnaaDoorByt2
import Derived.Deep.Cut
import Derived.Lib.Strings
import Derived.Lib.Slices
import Derived.Lib.Small
import Derived.Lib.Walk
import Derived.Lib.BitFns
import Derived.Deep.RegionLaw
import Derived.Laws.CopyOwn
import Derived.Maps.AppendAt
import Derived.Deep.AppendLies
import Derived.Defers
import Derived.Recover
import Derived.LaidEqlPtr
namespace Go.Proofs.YtoclfohgchlpnaaDoor
section

open Go.RowKit
set_option maxRecDepth 100000 in
theorem klen_bitLen (n : Nat) (h : n < 18446744073709551616) : (Lib.bitLen n + 7) / 8 = klen n := by
  induction n using Nat.strongRecOn with
  | _ n ih =>
    by_cases h0 : n = 0
    · subst h0; rw [klen_zero]; decide
    · rw [klen_pos h0]
      by_cases h1 : n < 256
      · have a := Lib.bitLen_le8 ⟨n, h1⟩
        have b := Lib.bitLen_half n h0 (by omega)
        rw [show n / 256 = 0 by omega, klen_zero]
        simp only at a
        omega
      · rw [← ih (n / 256) (by omega) (by omega), Lib.bitLen_shift8 n (by omega) h]
        omega
set_option maxRecDepth 100000 in
theorem bitLen_le (n : Nat) (h : n < 18446744073709551616) : Lib.bitLen n ≤ 64 := by
  have := klen_bitLen n h; have := klen_eight h; omega
set_option maxRecDepth 100000 in
theorem tab_at (m : Nat) (hm : m < Lib.len8tab.size) : Lib.len8tab[m].toNat = Lib.bitLen m ∧ Lib.bitLen m ≤ 8 := by
  have h : ∀ i : Fin 256, ((Lib.len8tab[i.val]?).getD 0).toNat = Lib.bitLen i.val ∧ Lib.bitLen i.val ≤ 8 := by decide +kernel
  have := h ⟨m, by rw [Lib.len8tab_size] at hm; exact hm⟩
  rw [ByteArray.getElem?_lt' _ _ hm] at this
  exact this
set_option maxHeartbeats 4000000 in
set_option maxRecDepth 100000 in
theorem len64_int (x : Int) (w : World) (h0 : 0 ≤ x) (h1 : x ≤ 18446744073709551615) :
    Calls Tryd.prog 78 #[.int .u64 x] w fun e w' => e = .returned (.int .i64 (Lib.bitLen x.toNat)) ∧ w' = w := by
  have hsz : (Lib.len8tab.size : Int) = 256 := by rw [Lib.len8tab_size]; rfl
  go_enter Tryd.func78, Tryd.ntmps78
  go_wp2
  all_goals (go_ret; refine ⟨congrArg Ending.returned (congrArg (Value.int IntKind.i64) ?_), rfl⟩)
  · obtain ⟨e, l⟩ := tab_at (x / 4294967296 / 65536 / 256).toNat (by omega)
    have s := Lib.bitLen_shift56 x.toNat (by omega) (by omega)
    rw [e, show (x / 4294967296 / 65536 / 256).toNat = x.toNat / 72057594037927936 by omega] at *
    simp only [wrap64]; omega
  · obtain ⟨e, l⟩ := tab_at (x / 4294967296 / 65536).toNat (by omega)
    have s := Lib.bitLen_shift48 x.toNat (by omega) (by omega)
    rw [e, show (x / 4294967296 / 65536).toNat = x.toNat / 281474976710656 by omega] at *
    simp only [wrap64]; omega
  · obtain ⟨e, l⟩ := tab_at (x / 4294967296 / 256).toNat (by omega)
    have s := Lib.bitLen_shift40 x.toNat (by omega) (by omega)
    rw [e, show (x / 4294967296 / 256).toNat = x.toNat / 1099511627776 by omega] at *
    simp only [wrap64]; omega
  · obtain ⟨e, l⟩ := tab_at (x / 4294967296).toNat (by omega)
    have s := Lib.bitLen_shift32 x.toNat (by omega) (by omega)
    rw [e, show (x / 4294967296).toNat = x.toNat / 4294967296 by omega] at *
    simp only [wrap64]; omega
  · obtain ⟨e, l⟩ := tab_at (x / 65536 / 256).toNat (by omega)
    have s := Lib.bitLen_shift24 x.toNat (by omega) (by omega)
    rw [e, show (x / 65536 / 256).toNat = x.toNat / 16777216 by omega] at *
    simp only [wrap64]; omega
  · obtain ⟨e, l⟩ := tab_at (x / 65536).toNat (by omega)
    have s := Lib.bitLen_shift16 x.toNat (by omega) (by omega)
    rw [e, show (x / 65536).toNat = x.toNat / 65536 by omega] at *
    simp only [wrap64]; omega
  · obtain ⟨e, l⟩ := tab_at (x / 256).toNat (by omega)
    have s := Lib.bitLen_shift8 x.toNat (by omega) (by omega)
    rw [e, show (x / 256).toNat = x.toNat / 256 by omega] at *
    simp only [wrap64]; omega
  · obtain ⟨e, l⟩ := tab_at x.toNat (by omega)
    rw [e]
    simp only [wrap64]; omega
set_option maxRecDepth 100000 in
theorem len64_any (n : Nat) (w : World) (h : n < 18446744073709551616) : Calls Tryd.prog 78 #[.int .u64 n] w fun e w' => e = .returned (.int .i64 (Lib.bitLen n : Int)) ∧ w' = w := by
  have := len64_int n w (by omega) (by omega)
  rw [Int.toNat_natCast] at this; exact this

set_option maxRecDepth 100000 in
theorem or_low (n x : Nat) (hx : x < 256) (hn : n < 72057594037927936) : bits .or .u64 ((n : Int) * 256) (x : Int) = ((n * 256 + x : Nat) : Int) := by
  have h := bits_of .u64 (fun k h0 h1 => by rw [IntKind.wrap_u64]; simp [IntKind.bits] at h1; omega) (BitVec.ofNat IntKind.u64.bits (n * 256)) (BitVec.ofNat IntKind.u64.bits x)
  have h2 := h.2.1
  have e1 : (BitVec.ofNat IntKind.u64.bits (n * 256)).toNat = n * 256 := by rw [BitVec.toNat_ofNat]; exact Nat.mod_eq_of_lt (by simp [IntKind.bits]; omega)
  have e2 : (BitVec.ofNat IntKind.u64.bits x).toNat = x := by rw [BitVec.toNat_ofNat]; exact Nat.mod_eq_of_lt (by simp [IntKind.bits]; omega)
  have e3 : (BitVec.ofNat IntKind.u64.bits (n * 256) ||| BitVec.ofNat IntKind.u64.bits x).toNat = n * 256 + x := by
    rw [BitVec.toNat_or, e1, e2, Nat.mul_comm, show (256 : Nat) = 2 ^ 8 from rfl, ← Nat.two_pow_add_eq_or_of_lt (by simpa using hx)]
  rw [e1, e2, e3, show ((n * 256 : Nat) : Int) = (n : Int) * 256 by omega] at h2
  exact h2
end
section

open Go.RowKit
set_option maxRecDepth 100000 in
theorem drewN_add (w : World) (a b : Nat) : (w.drewN a).drewN b = w.drewN (a + b) := by simp [World.drewN, Nat.add_assoc]
set_option maxRecDepth 100000 in
theorem clone_any (A : Option Addr) (c B : Nat) (xs : List B8) (w : World) (hx : Sl w B A (xs.map bv)) (hA : A = none → c = 0) (hc : xs.length ≤ c) (hlen : xs.length ≤ 1099511627776) :
    Calls Tryd.prog 85 #[.slice A xs.length c] w fun e w' => ∃ v, e = .returned v ∧ w'.ownsRow w.heap.size 5 1 v xs.length (xs.map bv) ∧ Turn (fun _ => False) w w' := by
  obtain ⟨i0, hi, hz0, hz1, hz2⟩ := info_parts info_u8
  cases A with
  | none =>
    obtain rfl := hA rfl
    obtain rfl : xs = [] := List.eq_nil_of_length_eq_zero (by omega)
    have heq : ∀ w, (binOp BinOp.eql 52 (.slice none 0 0) (.slice none 0 0)).run Tryd.prog w = .ok (.bool true) w := fun w => by kernel_rfl
    change Calls _ _ #[.slice none 0 0] _ _
    go_enter Tryd.func85, Tryd.ntmps85
    go_wp2
    go_ret
    exact ⟨_, rfl, World.ownsRow_nil _ _ _ _, Turn.refl _ _⟩
  | some ad =>
    have HX := Lib.hid hx
    clear hx
    have heq : ∀ w, (binOp BinOp.eql 52 (.slice (some ad) xs.length c) (.slice none 0 0)).run Tryd.prog w = .ok (.bool false) w := fun w => by kernel_rfl
    go_enter Tryd.func85, Tryd.ntmps85
    go_upto_region 3 with fail
    go_step
    iterate 6 go_step
    have ho := own_new w w.heap.size 5 [] 0 rfl (Nat.le_refl _) (by unfold maxLen; omega)
    have hb1 : Below w.heap.size w (w.alloc (.cells ([] : List Value).toArray 5)) := (Below.refl _ _).alloc (Nat.le_refl _) _
    refine wpList_append_any (o := ⟨some 7, _, _, _, _, _⟩) rfl _ _ 52 rfl w.heap.size 5 i0 (.int .u8 0) 1 Tryd.underlying52 hi hz0 hz1 hz2 rfl _ 0 _ rfl ho (some ad) xs.length c (xs.map bv) rfl hA (List.length_map ..) ?_ (bv_one xs) ?_ ?_ ?_ ?_
    · intro j u hu
      obtain ⟨ad', e, hb, hc⟩ := HX.out j u hu
      exact ⟨ad', e, (hb1.cell (World.block_lt_of_cell? w _ hc)).trans hc⟩
    · unfold maxLen; omega
    · omega
    · simp
    intro v' w' hown hgr
    go_wp2
    go_ret
    refine ⟨_, rfl, by simpa using hown, ((Turn.refl _ _).alloc _).grown hgr (fun i hi e => ?_)⟩
    injection e with e; simp at e; omega

end
section
set_option linter.unusedVariables false
set_option linter.unusedSimpArgs false

open Go.RowKit
section
variable {w w' : World} {e E n c y : Nat} {A : Option Addr}
end
set_option maxRecDepth 100000 in
theorem slice_hi64 (A : Option Addr) (len cap n : Nat) (h : n ≤ len) (hc : len ≤ cap) (w : World) : (Instr.slice 52 (.slice A len cap) none (some (.int .u64 (n : Int))) none).run Tryd.prog w = .ok (.slice A n cap) w := by
  rw [run_slice_h (P := Tryd.prog) w 52 A len cap (by kernel_rfl) .u64 (n : Int) (by omega) (by omega)]
  rw [show Tryd.prog.elem 52 = 5 by kernel_rfl, size_u8]
  simp [Result.andThen, sliced]
  cases A with
  | none => simp
  | some a => simp [Addr.add]
set_option maxRecDepth 100000 in
theorem slice_lo64 (A : Option Addr) (len cap n : Nat) (h : n ≤ len) (w : World) : (Instr.slice 52 (.slice A len cap) (some (.int .u64 (n : Int))) none none).run Tryd.prog w = .ok (.slice (cutA A cap n) (len - n) (cap - n)) w := by
  rw [run_slice_l (P := Tryd.prog) w 52 A len cap (by kernel_rfl) .u64 (n : Int) (by omega) (by omega)]
  rw [show Tryd.prog.elem 52 = 5 by kernel_rfl, size_u8]
  simp [Result.andThen, sliced, cutA]
end
section
set_option linter.unusedVariables false
set_option linter.unusedSimpArgs false

open Go.RowKit
/- A number read, by definition: the error, the number, what is left. -/
def numE : List B8 → Nat
  | [] => 2
  | k :: r => if 8 < k.toNat then 3 else if r.length < k.toNat then 2 else if (r.take k.toNat).head? = some 0 then 3 else 0
def numV : List B8 → Nat
  | [] => 0
  | k :: r => valB (r.take k.toNat)
def numR : List B8 → List B8
  | [] => []
  | k :: r => r.drop k.toNat
set_option maxRecDepth 100000 in
theorem Turn.trans' {e E : Nat} {a b c : World} (h : Turn (fun i => i = e) a b) (k : Turn (fun i => i = E) b c) : Turn (fun i => i = e ∨ i = E) a c := (h.mono (fun _ _ h => .inl h)).trans k (fun _ _ h => .inr h)
set_option maxRecDepth 100000 in
theorem add_zero (a : Addr) : a.add 0 = a := by simp [Addr.add]
end
section
set_option linter.unusedVariables false

open Go.RowKit
def eNum (most : Nat) (l : List B8) : Nat := if numE l ≠ 0 then numE l else if most < numV l then 5 else 0
def eText (most : Int) (l : List B8) : Nat := if numE l ≠ 0 then numE l else if most < 0 ∨ most < (numV l : Int) then 5 else if (numR l).length < numV l then 2 else 0
set_option maxRecDepth 100000 in
theorem numV_lt (l : List B8) (h : numE l = 0) : numV l < 18446744073709551616 := by
  cases l with
  | nil => simp [numV]
  | cons k r =>
    have h8 : ¬ 8 < k.toNat := by intro h1; simp [numE, h1] at h
    have h1 := valB_lt (r.take k.toNat)
    have h2 : 256 ^ (r.take k.toNat).length ≤ 256 ^ 8 := Nat.pow_le_pow_right (by decide) (by simp; omega)
    simp only [numV]
    have h3 : (256 : Nat) ^ 8 = 18446744073709551616 := by decide
    omega
set_option maxRecDepth 100000 in
theorem clone_at (A : Option Addr) (c n : Nat) (N : Nat → Prop) (xs : List B8) (w : World) (hx : SlN w N A (xs.map bv)) (hn : xs.length = n) (hA : A = none → c = 0) (hc : n ≤ c) (hlen : n ≤ 1099511627776) :
    Calls Tryd.prog 85 #[.slice A n c] w fun e w' => ∃ v, e = .returned v ∧ w'.ownsRow w.heap.size 5 1 v n (xs.map bv) ∧ Turn (fun _ => False) w w' := by
  subst hn; exact clone_any A c _ xs w hx.sl hA hc hlen
end
section
set_option linter.unusedVariables false

open Go.RowKit
set_option maxRecDepth 100000 in
theorem step_enter {P : Program} {ops : Array Oper} {o : Oper} {a : Act} {w : World} {K : Act → World → Prop} {Q : Exit → Act → World → Prop} {E : Prop} (hgd : o.guard = none) (f : FuncId) (vs : Array Value) (hrun : (execOp a.eval o).run P w = .ok (.enter f vs) w)
    (h : Calls P f vs w fun
      | .returned v, w'' => K (a.put o.dst v) w''
      | .panicked chain, w'' => Q (.panic chain) a w''
      | .outgrown, _ => LetsOut Q) :
    if Region.wanted o (yielded ops a.tmps) = true then Oper.wp P o a w K Q else E := by
  have hw : Region.wanted o (yielded ops a.tmps) = true := by simp [Region.wanted, hgd]
  rw [if_pos hw]
  unfold Oper.wp
  rw [hrun]
  exact h
set_option maxRecDepth 100000 in
theorem slice_idz (b : Nat) (w : World) : (Instr.sliceAt 23 (.pointer (some ⟨b, 0, none⟩)) none none none).run Tryd.prog w = .ok (.slice (some ⟨b, 0, none⟩) 32 32) w := by
  have e : Tryd.prog.arrayLen 23 = 32 := by kernel_rfl
  rw [run_sliceAt_array_all (P := Tryd.prog) w 23 ⟨b, 0, none⟩ (by kernel_rfl)]
  rw [show Tryd.prog.elem 23 = 5 by kernel_rfl, size_u8, e]
  simp [Result.andThen, slicedAt, Addr.add]
def zero32 : Array Value := ((zeros 32).map bv).toArray
set_option maxRecDepth 100000 in
theorem id_cells (l : List B8) (w : World) (b : Nat) (h : Hid (w.heap[b]? = some (.cells (splice ((zeros 32).map bv) 0 ((l.take 32).map bv)).toArray 23 (0, 0)))) (hl : 32 ≤ l.length) : w.heap[b]? = some (.cells ((l.take 32).map bv).toArray 23 (0, 0)) := by
  rw [h.out]
  congr 3
  unfold splice
  have : (((l.take 32).map bv)).length = 32 := by simp; omega
  simp [zeros]; omega
end
section
set_option linter.unusedVariables false

open Go.RowKit
set_option maxRecDepth 100000 in
theorem wpList_append_any_at {P : Program} {w : World} {ops : Array Oper} {rest : List Oper} {o : Oper} {a : Act} {Q : Exit → Act → World → Prop} (hgd : o.guard = none) (s x : Operand) (t : TypeId)
    (ho : o.op = .call { callee := .builtin .append, args := #[s, x], argTypes := #[t, t] })
    (base : Nat) (e : TypeId) (i : TypeInfo) (z : Value) (bytes : Nat) (ht : P.underlying t = some (.slice e)) (hi : P.info? e = some i) (hz : i.zero = some z)
    (hsize : i.size = 1) (hby : i.bytes = bytes) (hzs : z.cells.size = 1)
    (v : Value) (n : Nat) (xs : List Value) (hs : a.eval s = v) (hown : w.ownsRow base e 1 v n xs)
    (A : Option Addr) (m c : Nat) (news : List Value) (hx : a.eval x = .slice A m c) (hA : A = none → c = 0) (hl : news.length = m) (hnews : ∀ (j : Nat) (u : Value), news[j]? = some u → ∃ ad, A = some ad ∧ w.cell? (ad.add j) = some u) (h1 : ∀ u ∈ news, u.oneCell' = true)
    (h63 : n + m ≤ maxLen) (hbytes : (n + m) * bytes ≤ 140737488355328) (hbase : base ≤ w.heap.size)
    (h : ∀ v' w', w'.ownsRow base e 1 v' (n + m) (xs ++ news) → w.grownBy w' v.ownBlock → (v'.ownBlock = v.ownBlock ∨ v'.ownBlock = some w.heap.size) → wpList P ops Q rest (a.put o.dst v') w') : wpList P ops Q (o :: rest) a w := by
  cases A with
  | none =>
    obtain rfl := hA rfl
    have hn : news = [] := by
      cases news with
      | nil => rfl
      | cons u l => obtain ⟨ad, e, _⟩ := hnews 0 u rfl; cases e
    subst hn
    obtain rfl : m = 0 := by simpa using hl.symm
    refine wpList_append_own_none hgd s x t ho base e i 1 ht hi v n xs hs hown hx ?_
    exact h v w (by simpa using hown) ⟨rfl, rfl, rfl, Nat.le_refl _, fun _ _ _ => rfl⟩ (.inl rfl)
  | some ad =>
    refine wpList_append_own_at w hgd s x t ho base e i z 1 bytes ht hi hz hsize hby hzs (by decide) v n xs hs hown ad m c news hx (by omega) (fun j u hu => ?_) h1 h63 hbytes hbase (fun v' w' h2 h3 _ h5 => h v' w' h2 h3 h5)
    obtain ⟨ad', e, hc⟩ := hnews j u hu
    injection e with e; subst e; exact hc
/-- A pen in block p that has written xs: they lie in a row of its own, v, from block B on. -/
def PenAt (w : World) (p B : Nat) (v : Value) (xs : List B8) : Prop := w.heap[p]? = some (.cells #[v] 109 (0, 0)) ∧ w.ownsRow B 5 1 v xs.length (xs.map bv) ∧ p < B ∧ B ≤ w.heap.size
/-- What a pen's writing turns: the pen, and its row; its new row is the old one, or a new one. -/
def PenStep (w w' : World) (p : Nat) (v v' : Value) : Prop := Turn (fun i => i = p ∨ some i = v.ownBlock) w w' ∧ (v'.ownBlock = v.ownBlock ∨ ∃ g, v'.ownBlock = some g ∧ w.heap.size ≤ g)
set_option maxRecDepth 100000 in
theorem PenStep.refl (w : World) (p : Nat) (v : Value) : PenStep w w p v v := ⟨Turn.refl _ _, .inl rfl⟩
set_option maxRecDepth 100000 in
theorem PenStep.trans {a b c : World} {p : Nat} {v v' v'' : Value} (h : PenStep a b p v v') (k : PenStep b c p v' v'') : PenStep a c p v v'' := by
  refine ⟨h.1.trans k.1 (fun i hi hs => ?_), ?_⟩
  · rcases hs with hs | hs
    · exact .inl hs
    · rcases h.2 with e | ⟨g, e, hg⟩
      · rw [e] at hs; exact .inr hs
      · rw [e] at hs; injection hs with hs; omega
  · rcases k.2 with e | ⟨g, e, hg⟩
    · rw [e]; exact h.2
    · exact .inr ⟨g, e, by have := h.1.size; omega⟩
set_option maxRecDepth 100000 in
theorem PenAt.cell {w : World} {p B : Nat} {v : Value} {xs : List B8} (h : PenAt w p B v xs) : w.cell? ⟨p, 0, none⟩ = some v ∧ w.frozen? ⟨p, 0, none⟩ = false := ⟨by rw [cell_of_row w p 0 _ _ _ h.1]; rfl, frozen_of_row w p 0 _ _ h.1⟩
set_option maxRecDepth 100000 in
theorem PenAt.ne {w : World} {p B : Nat} {v : Value} {xs : List B8} (h : PenAt w p B v xs) : ¬ some p = v.ownBlock := by
  intro e
  have := (h.2.1.lt p e.symm).1
  have := h.2.2.1
  omega
set_option maxRecDepth 100000 in
theorem PenAt.turn {S : Nat → Prop} {w w' : World} {p B : Nat} {v : Value} {xs : List B8} (h : PenAt w p B v xs) (t : Turn S w w') (h1 : ¬ S p) (h2 : ∀ g, v.ownBlock = some g → ¬ S g) : PenAt w' p B v xs :=
  ⟨t.heap h.1 h1, t.own h.2.1 h2, h.2.2.1, Nat.le_trans h.2.2.2 t.size⟩
set_option maxRecDepth 100000 in
theorem pen_store {w wa w1 : World} {p B : Nat} {v v1 : Value} {xs ys : List B8} (h : PenAt w p B v xs) (ta : Turn (fun _ => False) w wa) (own1 : w1.ownsRow B 5 1 v1 (xs.length + ys.length) (xs.map bv ++ ys.map bv))
    (gr : wa.grownBy w1 v.ownBlock) (at1 : v1.ownBlock = v.ownBlock ∨ ∃ g, v1.ownBlock = some g ∧ w.heap.size ≤ g) : PenAt (w1.setCell ⟨p, 0, none⟩ v1) p B v1 (xs ++ ys) ∧ PenStep w (w1.setCell ⟨p, 0, none⟩ v1) p v v1 := by
  have hp1 : w1.heap[p]? = some (.cells #[v] 109 (0, 0)) := (gr.block p (Nat.lt_of_lt_of_le (lt_of_block h.1) ta.size) h.ne).trans (ta.heap h.1 (fun h => h))
  refine ⟨⟨by rw [heap_setCell_same _ p 0 _ _ _ hp1]; rfl, ?_, h.2.2.1, ?_⟩, ?_, at1⟩
  · rw [List.length_append, List.map_append]
    exact ownsRow_setCell_below own1 (by exact h.2.2.1) _
  · have := gr.size; have := ta.size; have := h.2.2.2; simp [World.setCell]; omega
  · exact ((ta.mono (S := fun i => i = p ∨ some i = v.ownBlock) (fun _ _ h => h.elim)).grown gr (fun i _ e => .inr e)).setCell _ _ (fun _ => .inl rfl)
set_option maxRecDepth 100000 in
theorem pen_cell {w wa w1 : World} {p B : Nat} {v : Value} {xs : List B8} (h : PenAt w p B v xs) (ta : Turn (fun _ => False) w wa) (gr : wa.grownBy w1 v.ownBlock) : w1.cell? ⟨p, 0, none⟩ = some v ∧ w1.frozen? ⟨p, 0, none⟩ = false := by
  have hp1 : w1.heap[p]? = some (.cells #[v] 109 (0, 0)) := (gr.block p (Nat.lt_of_lt_of_le (lt_of_block h.1) ta.size) h.ne).trans (ta.heap h.1 (fun h => h))
  exact ⟨by rw [cell_of_row w1 p 0 _ _ _ hp1]; rfl, frozen_of_row w1 p 0 _ _ hp1⟩
set_option maxRecDepth 100000 in
set_option maxHeartbeats 1000000 in
theorem pnum_any (p B : Nat) (v : Value) (xs : List B8) (n : Nat) (w : World) (h : PenAt w p B v xs) (hn : n < 18446744073709551616) (hlen : xs.length + 9 ≤ 1099511627776) :
    Calls Tryd.prog 66 #[.pointer (some ⟨p, 0, none⟩), .int .u64 (n : Int)] w fun r w' => r = .returned (.tuple #[]) ∧ ∃ v', PenAt w' p B v' (xs ++ numB n) ∧ PenStep w w' p v v' := by
  obtain ⟨i0, hi, hz0, hz1, hz2⟩ := info_parts info_u8
  have c0 : w.cell? ⟨p, 0, none⟩ = some v := by rw [cell_of_row w p 0 _ _ _ h.1]; rfl
  have z0 := frozen_of_row w p 0 _ _ h.1
  obtain ⟨L, hL, hL64⟩ : ∃ L, L = Lib.bitLen n ∧ L ≤ 64 := ⟨_, rfl, bitLen_le n hn⟩
  have hk := klen_bitLen n hn
  have e1 := fun w => len64_any n w hn
  rw [← hL] at hk e1
  have E1 := Lib.hid e1
  obtain ⟨k, hkk⟩ : ∃ k, k = klen n := ⟨_, rfl⟩
  have hk8 : k ≤ 8 := by rw [hkk]; exact klen_eight hn
  have hq : ((L : Int) + 7).tdiv 8 = (k : Int) := by rw [Int.tdiv_eq_ediv_of_nonneg (by omega)]; omega
  have HK := Lib.hid hkk
  have HH := Lib.hid h
  clear h hL hk e1 hkk
  go_enter Tryd.func66, Tryd.ntmps66
  go_upto_region 1 with (go_at_call 78; refine (E1.out _).mono ?_; rintro r w' ⟨rfl, rfl⟩)
  go_step
  iterate 24 go_step
  have hkb : Value.int IntKind.u8 (k : Int) = bv (BitVec.ofNat 8 k) := by unfold bv; rw [BitVec.toNat_ofNat, Nat.mod_eq_of_lt (by omega)]
  have ta : Turn (fun _ => False) w' (w'.alloc (.cells #[Value.int IntKind.u8 (k : Int)] 5)) := (Turn.refl _ _).alloc _
  refine wpList_append_any_at (o := ⟨some 18, _, _, _, _, _⟩) rfl _ _ 52 rfl B 5 i0 (.int .u8 0) 1 Tryd.underlying52 hi hz0 hz1 hz2 rfl v xs.length (xs.map bv) rfl (HH.out.2.1.alloc _) (some ⟨w'.heap.size, 0, none⟩) 1 1 [bv (BitVec.ofNat 8 k)] rfl (fun h => by cases h) rfl ?_ (bv_one [BitVec.ofNat 8 k]) ?_ ?_ ?_ ?_
  · intro j u hu
    rw [← hkb] at hu
    exact ⟨_, rfl, World.news_of_block (heap_alloc_new w' (.cells #[Value.int IntKind.u8 (k : Int)] 5)) j u hu⟩
  · unfold maxLen; omega
  · omega
  · have := HH.out.2.2.2; simp; omega
  intro v1 w1 own1 gr1 at1
  have hps := pen_store (ys := [BitVec.ofNat 8 k]) HH.out ta own1 gr1 (at1.imp id (fun e => ⟨_, e, by simp⟩))
  have hg1 : w1.heap[p]? = some (.cells #[v] 109 (0, 0)) := (gr1.block p (by have := lt_of_block HH.out.1; simp; omega) HH.out.ne).trans (ta.heap HH.out.1 (fun h => h))
  have c1 : w1.cell? ⟨p, 0, none⟩ = some v := by rw [cell_of_row w1 p 0 _ _ _ hg1]; rfl
  have z1 := frozen_of_row w1 p 0 _ _ hg1
  have HPS := Lib.hid hps
  obtain ⟨A1, n1, rfl, -⟩ := own_sl own1
  clear own1 gr1 at1 ta hg1 c0 z0 hps hkb
  go_wp2
  obtain ⟨w2, hw2⟩ : ∃ w2, w2 = w1.setCell ⟨p, 0, none⟩ (.slice A1 (xs.length + 1) n1) := ⟨_, rfl⟩
  change PenAt (w1.setCell ⟨p, 0, none⟩ (.slice A1 (xs.length + 1) n1)) _ _ _ _ ∧ PenStep _ (w1.setCell ⟨p, 0, none⟩ (.slice A1 (xs.length + 1) n1)) _ _ _ at HPS
  rw [← hw2] at HPS ⊢
  clear hw2 c1 z1
  have HN := Lib.hid (show numB n = BitVec.ofNat 8 k :: beN k n by rw [HK.out]; rfl)
  go_loopw [5] (fun i wr => ∃ (m : Nat) (z : Int) (u : Value) (W : List B8), i = .int .i64 z ∧ z ≤ (m : Int) - 1 ∧ (m : Int) - 1 ≤ z ∧ m ≤ k ∧ W ++ beN m n = xs ++ numB n ∧ PenAt wr p B u W ∧ PenStep w' wr p v u) (fun i _ => (intOf i + 1).toNat)
  case atStart => exact ⟨k, _, _, xs ++ [BitVec.ofNat 8 k], rfl, by omega, by omega, Nat.le_refl _, by rw [HN.out]; simp, HPS.1, HPS.2⟩
  case round =>
    clear HPS
    obtain ⟨m, z, u, W, rfl, hz1', hz2', hmk, hW, hP, hS⟩ := hrel
    have hWl : W.length + m = xs.length + 1 + k := by
      have := congrArg List.length hW
      rw [HN.out] at this
      simp [beN_len] at this; omega
    have HW := Lib.hid hW
    have HP := Lib.hid hP
    have HS := Lib.hid hS
    clear hW hP hS
    by_cases h0 : m = 0
    · subst h0
      obtain rfl : z = -1 := by omega
      have hW := HW.out
      rw [beN, List.append_nil] at hW
      subst hW
      go_wp2
      first | go_end0 | refine bodyPost_ret (results_none rfl _ _ _) rfl ?_
      exact ⟨rfl, _, HP.out, HS.out⟩
    · obtain ⟨q, rfl⟩ : ∃ q, m = q + 1 := ⟨m - 1, by omega⟩
      obtain rfl : z = (q : Int) := by omega
      have hq8 : (8 * (q : Int)).toNat = 8 * q := by omega
      obtain ⟨c0, z0⟩ := HP.out.cell
      have hwr : IntKind.i64.wrap (8 * (q : Int)) = 8 * (q : Int) := IntWalk.i64_in _ (by omega)
      obtain ⟨y, hyy⟩ : ∃ y, y = BitVec.ofNat 8 (n / 256 ^ q) := ⟨_, rfl⟩
      have hy : IntKind.u8.wrap ((n : Int) / 2 ^ (8 * q)) = (y.toNat : Int) := by
        rw [IntKind.wrap_u8, hyy, BitVec.toNat_ofNat, show (2 : Int) ^ (8 * q) = ((256 ^ q : Nat) : Int) by rw [Int.natCast_pow, Int.pow_mul]; rfl]
        omega
      have HY := Lib.hid hyy
      have hl9 : B ≤ wr.heap.size + 1 := by have := HP.out.2.2.2; omega
      have hn9 : W.length + 1 ≤ maxLen := by unfold maxLen; omega
      have HN9 := Lib.hid hn9
      have HO := Lib.hid HP.out.2.1
      have c6 : ∀ o, (wr.alloc o).cell? ⟨p, 0, none⟩ = some u := fun o => (World.cell?_of_block (w := wr) (Below.heap_alloc wr o p (lt_of_block HP.out.1))).trans c0
      clear hyy hn9
      go_wp2
      go_region_law ((refine step_append_lies _ (by rfl) _ _ _ (by rfl) B 5 i0 _ 1 1 Tryd.underlying52 hi hz0 hz1 hz2 rfl (by omega) u W.length (W.map bv) (by rfl) ((HO.out.alloc _).drew) ⟨wr.heap.size, 0, none⟩ 1 1 [bv y] (by rfl) (by rfl) (World.news_of_block (cs := #[bv y]) (t := 5) (fr := (0, 0)) (heap_alloc_new wr _)) (bv_one [y]) (by omega) HN9.out (by omega) (by simpa using hl9) (wr.heap.size + 1) (by simp) ?_; intro gg cap w5 hown5 hgrow5 hat5 hlt5; have HPS5 := Lib.hid (pen_store (ys := [y]) HP.out (((Turn.refl _ wr).alloc (.cells #[bv y] 5)).drew) hown5 hgrow5 (hat5.imp (fun e => e.symm) (fun e => ⟨gg, rfl, by omega⟩))); have c5 := pen_cell HP.out (((Turn.refl _ wr).alloc (.cells #[bv y] 5)).drew) hgrow5; obtain ⟨c5, z5⟩ := c5; clear hown5 hgrow5 hat5))
      all_goals
        go_wp2
        go_roundw
        case rel =>
          refine ⟨q, _, _, W ++ [y], rfl, by omega, by omega, by omega, ?_, HPS5.out.1, HS.out.trans HPS5.out.2⟩
          rw [← HW.out, HY.out]; simp [beN]
        case measure => simp [intOf]

end
section
set_option linter.unusedVariables false

open Go.RowKit
set_option maxRecDepth 100000 in
set_option maxHeartbeats 1000000 in
theorem ptext_any (p B : Nat) (v : Value) (xs b : List B8) (A : Option Addr) (c : Nat) (w : World) (h : PenAt w p B v xs) (hs : SlN w (fun i => i = p ∨ some i = v.ownBlock) A (b.map bv)) (hA : A = none → c = 0) (hc : b.length ≤ c) (hlen : xs.length + 9 + b.length ≤ 1099511627776) :
    Calls Tryd.prog 84 #[.pointer (some ⟨p, 0, none⟩), .slice A b.length c] w fun r w' => r = .returned (.tuple #[]) ∧ ∃ v', PenAt w' p B v' (xs ++ (numB b.length ++ b)) ∧ PenStep w w' p v v' := by
  obtain ⟨i0, hi, hz0, hz1, hz2⟩ := info_parts info_u8
  have T := Lib.hid (pnum_any p B v xs b.length w h (by omega) (by omega))
  have hb64 : b.length < 9223372036854775808 := by omega
  have hnl := numB_le (n := b.length) (by omega)
  have HH := Lib.hid h
  have HS := Lib.hid hs
  clear h hs
  go_enter Tryd.func84, Tryd.ntmps84
  go_upto_region 1 with (go_at_call 66; refine T.out.mono ?_; rintro r w1 ⟨rfl, v1, hp1, hst1⟩; have HP1 := Lib.hid hp1; have HS1 := Lib.hid hst1; obtain ⟨c1, z1⟩ := hp1.cell; clear hp1 hst1)
  go_step
  iterate 18 go_step
  refine wpList_append_any_at (o := ⟨some 15, _, _, _, _, _⟩) rfl _ _ 52 rfl B 5 i0 (.int .u8 0) 1 Tryd.underlying52 hi hz0 hz1 hz2 rfl v1 (xs ++ numB b.length).length ((xs ++ numB b.length).map bv) rfl HP1.out.2.1 A b.length c (b.map bv) rfl hA (by simp) ?_ (bv_one b) ?_ ?_ ?_ ?_
  · intro j u hu
    have hs1 := HS.out.turn HS1.out.1 (N' := fun _ => False) (fun _ h => h) (fun _ _ h => h.elim)
    obtain ⟨ad, e, -, hc⟩ := hs1 j u hu
    exact ⟨ad, e, hc⟩
  · unfold maxLen; simp; omega
  · simp; omega
  · exact HP1.out.2.2.2
  intro v2 w2 own2 gr2 at2
  have hps := pen_store (ys := b) HP1.out (Turn.refl _ _) own2 gr2 (at2.imp id (fun e => ⟨_, e, Nat.le_refl _⟩))
  obtain ⟨c2, z2⟩ := pen_cell HP1.out (Turn.refl _ _) gr2
  obtain ⟨A2, n2, rfl, -⟩ := own_sl own2
  rw [List.length_append] at hps
  have HPS := Lib.hid hps
  clear own2 gr2 at2 hps c1 z1
  go_wp2
  first | go_end0 | refine bodyPost_ret (results_none rfl _ _ _) rfl ?_
  exact ⟨rfl, _, by rw [← List.append_assoc]; exact HPS.out.1, HS1.out.trans HPS.out.2⟩
set_option maxRecDepth 100000 in
theorem pbytes_any (p B : Nat) (v : Value) (xs : List B8) (w : World) (h : PenAt w p B v xs) (hlen : xs.length ≤ 1099511627776) :
    Calls Tryd.prog 67 #[.pointer (some ⟨p, 0, none⟩)] w fun r w' => ∃ u, r = .returned u ∧ w'.ownsRow w.heap.size 5 1 u xs.length (xs.map bv) ∧ Turn (fun _ => False) w w' := by
  obtain ⟨c0, z0⟩ := h.cell
  obtain ⟨A, c, rfl, hs, -, hc, hA⟩ := own_sl h.2.1
  have T := Lib.hid (clone_any A c _ xs w hs hA hc hlen)
  clear h hs
  go_enter Tryd.func67, Tryd.ntmps67
  go_wp2_with (go_at_call 85; refine T.out.mono ?_; rintro r w1 ⟨u1, rfl, ho1, ht1⟩; have HO1 := Lib.hid ho1; have HT1 := Lib.hid ht1; clear ho1 ht1)
  go_ret
  exact ⟨u1, rfl, HO1.out, HT1.out⟩
set_option maxRecDepth 100000 in
theorem slice_idn (b : Nat) (w : World) : (Instr.sliceAt 23 (.pointer (some ⟨b, 0, none⟩)) none none none).run Tryd.prog w = .ok (.slice (some ⟨b, 0, none⟩) 32 32) w := by
  have e : Tryd.prog.arrayLen 23 = 32 := by kernel_rfl
  rw [run_sliceAt_array_all (P := Tryd.prog) w 23 ⟨b, 0, none⟩ (by kernel_rfl)]
  rw [show Tryd.prog.elem 23 = 5 by kernel_rfl, size_u8, e]
  simp [Result.andThen, slicedAt, Addr.add]
set_option maxRecDepth 100000 in
set_option maxHeartbeats 1000000 in
theorem pid_any (p B : Nat) (v : Value) (xs d : List B8) (w : World) (h : PenAt w p B v xs) (hd : d.length = 32) (hlen : xs.length + 32 ≤ 1099511627776) :
    Calls Tryd.prog 83 #[.pointer (some ⟨p, 0, none⟩), .agg (d.map bv).toArray] w fun r w' => r = .returned (.tuple #[]) ∧ ∃ v', PenAt w' p B v' (xs ++ d) ∧ PenStep w w' p v v' := by
  obtain ⟨i0, hi, hz0, hz1, hz2⟩ := info_parts info_u8
  obtain ⟨C, hC⟩ : ∃ C, C = (d.map bv).toArray := ⟨_, rfl⟩
  rw [← hC]
  have HC := Lib.hid hC
  have HH := Lib.hid h
  obtain ⟨c0, z0⟩ := h.cell
  have r1 := slice_idn
  have c6 : ∀ o, (w.alloc o).cell? ⟨p, 0, none⟩ = some v := fun o => (World.cell?_of_block (w := w) (Below.heap_alloc w o p (lt_of_block h.1))).trans c0
  have hl9 : B ≤ w.heap.size + 1 := by have := h.2.2.2; omega
  have hn9 : xs.length + 32 ≤ maxLen := by unfold maxLen; omega
  have HN9 := Lib.hid hn9
  have HO := Lib.hid h.2.1
  have HD := Lib.hid hd
  have HNW := Lib.hid (show ∀ j u, (d.map bv)[j]? = some u → ((w.alloc (.cells C 23)).drew).cell? ((⟨w.heap.size, 0, none⟩ : Addr).add j) = some u from fun j u hu => World.news_of_block (cs := C) (t := 23) (fr := (0, 0)) (heap_alloc_new w _) j u (by rw [hC]; exact hu))
  have HDL := Lib.hid (show (d.map bv).length = 32 * 1 by simp [hd])
  have HOW := Lib.hid (fun (v1 : Value) (w1 : World) (h1 : w1.ownsRow B 5 1 v1 (xs.length + 32) (xs.map bv ++ d.map bv)) => show w1.ownsRow B 5 1 v1 (xs.length + d.length) (xs.map bv ++ d.map bv) by rw [hd]; exact h1)
  clear h hC hn9 hd
  go_enter Tryd.func83, Tryd.ntmps83
  go_wp2
  go_region_law ((refine step_append_lies _ (by rfl) _ _ _ (by rfl) B 5 i0 _ 1 1 Tryd.underlying52 hi hz0 hz1 hz2 rfl (by omega) v xs.length (xs.map bv) (by rfl) ((HO.out.alloc _).drew) ⟨w.heap.size, 0, none⟩ 32 32 (d.map bv) (by rfl) HDL.out HNW.out (bv_one d) (by omega) HN9.out (by omega) (by simpa using hl9) (w.heap.size + 1) (by simp) ?_; intro gg cap w5 hown5 hgrow5 hat5 hlt5; have HPS5 := Lib.hid (pen_store (ys := d) HH.out (((Turn.refl _ w).alloc (.cells C 23)).drew) (HOW.out _ _ hown5) hgrow5 (hat5.imp (fun e => e.symm) (fun e => ⟨gg, rfl, by omega⟩))); have c5 := pen_cell HH.out (((Turn.refl _ w).alloc (.cells C 23)).drew) hgrow5; obtain ⟨c5, z5⟩ := c5; clear hown5 hgrow5 hat5))
  all_goals
    go_wp2
    first | go_end0 | refine bodyPost_ret (results_none rfl _ _ _) rfl ?_
    exact ⟨rfl, _, HPS5.out.1, HPS5.out.2⟩

end
section
set_option linter.unusedVariables false

open Go.RowKit
end
section
set_option linter.unusedVariables false

open Go.RowKit
end
section
set_option linter.unusedVariables false

open Go.RowKit
set_option maxRecDepth 100000 in
theorem eNum_top (l : List B8) : eNum 18446744073709551615 l = numE l := by
  unfold eNum
  by_cases h : numE l ≠ 0
  · rw [if_pos h]
  · rw [if_neg h, if_neg (by have := numV_lt l (by omega); omega)]; omega
set_option maxRecDepth 100000 in
theorem numB_300 : numB 300 = [2, 1, 44] := numB_valB [1, 44] (by rintro x r ⟨⟩; decide) (by decide)
set_option maxRecDepth 100000 in
theorem numB_0 : numB 0 = [0] := by simp [numB, klen_zero, beN]
set_option maxRecDepth 100000 in
theorem sl_block {w : World} {b : Nat} {cs : List Value} {t : TypeId} (h : w.heap[b]? = some (.cells cs.toArray t (0, 0))) : Sl w w.heap.size (some ⟨b, 0, none⟩) cs := fun j u hu => by
  refine ⟨_, rfl, lt_of_block h, ?_⟩
  rw [show (⟨b, 0, none⟩ : Addr).add j = ⟨b, j, none⟩ by unfold Addr.add; by_cases hj : j = 0 <;> simp [hj], cell_of_row w b j _ _ _ h, List.getElem?_toArray]; exact hu

end
end Go.Proofs.YtoclfohgchlpnaaDoor
