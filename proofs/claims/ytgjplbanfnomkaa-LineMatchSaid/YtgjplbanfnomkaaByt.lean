/- Bytes and memory: what turns but some blocks; bytes that lie in a slice below a block; a slice cut; a row appended to; a number's bytes as plain functions. No function of the program is named here, but for the type of bytes. -/
import Derived.Test.YtgjplbanfnomkaaRows
import Derived.Test.YtgjplbanfnomkaaShaPure
import Derived.Test.YtgjplbanfnomkaaKit
import Derived.Laws.AppendOwnNone
import Derived.WalkKit
import Derived.WalkLawsBesides
import Derived.Lib.Hide
import Derived.LoopTactic
import Derived.Outline
import Derived.Deep.QuietTactic
import Derived.BigQuiet
import Derived.OpenShut
import Derived.OneCell
namespace Go.Proofs.Ytgjplbanfnomkaa
open Go.RowKit

/-- All but the blocks in S is as it was. -/
structure Turn (S : Nat → Prop) (w w' : World) : Prop where
  os : w'.os = w.os
  tape : w'.tape = w.tape
  output : w'.output = w.output
  size : w.heap.size ≤ w'.heap.size
  block : ∀ k, k < w.heap.size → ¬ S k → w'.heap[k]? = w.heap[k]?
section
variable {S S' : Nat → Prop} {a b c w w' : World}
set_option maxRecDepth 100000 in
theorem Turn.refl (S : Nat → Prop) (w : World) : Turn S w w := ⟨rfl, rfl, rfl, Nat.le_refl _, fun _ _ _ => rfl⟩
set_option maxRecDepth 100000 in
theorem Turn.trans (h : Turn S a b) (k : Turn S' b c) (hS : ∀ i, i < a.heap.size → S' i → S i) : Turn S a c :=
  ⟨k.os.trans h.os, k.tape.trans h.tape, k.output.trans h.output, Nat.le_trans h.size k.size, fun i hi hn => (k.block i (Nat.lt_of_lt_of_le hi h.size) (fun h' => hn (hS i hi h'))).trans (h.block i hi hn)⟩
set_option maxRecDepth 100000 in
theorem Turn.mono (h : Turn S' a b) (hS : ∀ i, i < a.heap.size → S' i → S i) : Turn S a b := (Turn.refl S a).trans h hS
set_option maxRecDepth 100000 in
theorem Turn.of_grown {r : Option Nat} (h : a.grownBy b r) : Turn (fun i => some i = r) a b := ⟨h.os, h.tape, h.output, h.size, h.block⟩
set_option maxRecDepth 100000 in
theorem Turn.grown {r : Option Nat} (h : Turn S a b) (k : b.grownBy c r) (hS : ∀ i, i < a.heap.size → some i = r → S i) : Turn S a c := h.trans (Turn.of_grown k) hS
set_option maxRecDepth 100000 in
theorem Turn.alloc (h : Turn S a b) (o : Obj) : Turn S a (b.alloc o) :=
  h.trans (S' := fun _ => False) ⟨rfl, rfl, rfl, by simp, fun k hk _ => Below.heap_alloc _ _ _ hk⟩ (fun _ _ h => h.elim)
set_option maxRecDepth 100000 in
theorem Turn.setCell (h : Turn S a b) (p : Addr) (v : Value) (hS : p.block < a.heap.size → S p.block) : Turn S a (b.setCell p v) :=
  h.trans (S' := fun i => i = p.block) ⟨rfl, rfl, rfl, by simp [World.setCell], fun k _ hn => Below.heap_setCell _ _ _ _ hn⟩ (fun i hi e => by subst e; exact hS hi)
set_option maxRecDepth 100000 in
theorem Turn.setRow (h : Turn S a b) (g : Nat) (cs : Array Value) (hS : g < a.heap.size → S g) : Turn S a (b.setRow g cs) :=
  h.trans (S' := fun i => i = g) ⟨rfl, rfl, rfl, by simp [World.setRow], fun k _ hn => setRow_other _ _ _ _ hn⟩ (fun i hi e => by subst e; exact hS hi)
set_option maxRecDepth 100000 in
theorem Turn.drewN (h : Turn S a b) (n : Nat) : Turn S a (b.drewN n) := ⟨h.os, h.tape, h.output, h.size, h.block⟩
set_option maxRecDepth 100000 in
theorem Turn.drew (h : Turn S a b) : Turn S a b.drew := ⟨h.os, h.tape, h.output, h.size, h.block⟩
set_option maxRecDepth 100000 in
theorem Turn.of_below (h : Below a.heap.size a b) : Turn (fun _ => False) a b := ⟨h.os, h.tape, h.output, h.size, fun i hi _ => h.block i hi⟩
set_option maxRecDepth 100000 in
theorem Turn.below {B : Nat} (h : Turn S a b) (hS : ∀ i, i < a.heap.size → S i → B ≤ i) (hB : B ≤ a.heap.size) : Below B a b :=
  ⟨h.os, h.tape, h.output, h.size, fun i hi => h.block i (by omega) (fun hs => by have := hS i (by omega) hs; omega)⟩
set_option maxRecDepth 100000 in
theorem Turn.cell (h : Turn S a b) {p : Addr} {v : Value} (hc : a.cell? p = some v) (hn : ¬ S p.block) : b.cell? p = some v :=
  (World.cell?_of_block (h.block p.block (World.block_lt_of_cell? a _ hc) hn)).trans hc
set_option maxRecDepth 100000 in
theorem Turn.heap (h : Turn S a b) {g : Nat} {o : Obj} (hg : a.heap[g]? = some o) (hn : ¬ S g) : b.heap[g]? = some o := (h.block g (lt_of_block hg) hn).trans hg
set_option maxRecDepth 100000 in
theorem Turn.sl (h : Turn S a b) {B : Nat} {A : Option Addr} {xs : List Value} (hs : Sl a B A xs) (hn : ∀ i, i < B → ¬ S i) : Sl b B A xs := fun j u hu => by
  obtain ⟨ad, e, hb, hc⟩ := hs j u hu
  exact ⟨ad, e, hb, h.cell hc (by rw [add_block]; exact hn _ hb)⟩
set_option maxRecDepth 100000 in
theorem Turn.own (h : Turn S a b) {base n : Nat} {e : TypeId} {v : Value} {xs : List Value} (ho : a.ownsRow base e 1 v n xs) (hn : ∀ g, v.ownBlock = some g → ¬ S g) : b.ownsRow base e 1 v n xs := by
  obtain ⟨h1, h2⟩ := ho
  refine ⟨h1, ?_⟩
  rcases h2 with h2 | ⟨g, cap, cur, rfl, hg, hh, r⟩
  · exact .inl h2
  · exact .inr ⟨g, cap, cur, rfl, hg, h.heap hh (hn g rfl), r⟩
end
set_option maxRecDepth 100000 in
theorem own_more {w : World} {base base' n : Nat} {e : TypeId} {v : Value} {xs : List Value} (ho : w.ownsRow base e 1 v n xs) (hb : base' ≤ base) : w.ownsRow base' e 1 v n xs := by
  obtain ⟨h1, h2⟩ := ho
  refine ⟨h1, ?_⟩
  rcases h2 with h2 | ⟨g, cap, cur, rfl, hg, hh, r⟩
  · exact .inl h2
  · exact .inr ⟨g, cap, cur, rfl, by omega, hh, r⟩
set_option maxRecDepth 100000 in
theorem own_new (w : World) (B : Nat) (e : TypeId) (cs : List Value) (n : Nat) (hn : cs.length = n) (hB : B ≤ w.heap.size) (hm : n ≤ maxLen) : (w.alloc (.cells cs.toArray e)).ownsRow B e 1 (.slice (some ⟨w.heap.size, 0, none⟩) n n) n cs := by
  refine ⟨by omega, .inr ⟨w.heap.size, n, cs.toArray, rfl, hB, heap_alloc_new _ _, Nat.le_refl _, hm, by simp [hn], ?_⟩⟩
  rw [List.take_of_length_le (by simp; omega)]
set_option maxRecDepth 100000 in
/-- A row of one's own, as a slice that is read. -/
theorem own_sl {w : World} {base n : Nat} {e : TypeId} {v : Value} {xs : List Value} (h : w.ownsRow base e 1 v n xs) : ∃ A c, v = .slice A n c ∧ Sl w w.heap.size A xs ∧ xs.length = n ∧ n ≤ c ∧ (A = none → c = 0) := by
  obtain ⟨A, c, rfl, hs, hl⟩ := Sl.of_own h
  refine ⟨A, c, rfl, hs, hl, ?_⟩
  rcases h.2 with ⟨e, h0⟩ | ⟨g, cap, cur, e, _, _, hc, _⟩
  · injection e with e1 e2 e3; subst e1; subst e3; exact ⟨by omega, fun _ => rfl⟩
  · injection e with e1 e2 e3; subst e1; subst e3; exact ⟨hc, fun h => by cases h⟩
set_option maxRecDepth 100000 in
theorem Sl.cut {w : World} {B : Nat} {A : Option Addr} {xs : List Value} (h : Sl w B A xs) (cap n : Nat) (hc : xs.length ≤ cap) : Sl w B (if cap = n then A else A.map (·.add n)) (xs.drop n) := fun j u hu => by
  rw [List.getElem?_drop] at hu
  obtain ⟨ad, rfl, hb, hcl⟩ := h (n + j) u hu
  have hlt := (List.getElem?_eq_some_iff.1 hu).1
  refine ⟨ad.add n, ?_, by rw [add_block]; exact hb, by rw [add_add]; exact hcl⟩
  rw [if_neg (by omega)]; rfl
set_option maxRecDepth 100000 in
theorem Sl.take {w : World} {B : Nat} {A : Option Addr} {xs : List Value} (h : Sl w B A xs) (n : Nat) : Sl w B A (xs.take n) := fun j u hu => by
  rw [List.getElem?_take] at hu
  split at hu
  · exact h j u hu
  · cases hu
/-- Cells that are read, in no block of N. -/
def SlN (w : World) (N : Nat → Prop) (A : Option Addr) (xs : List Value) : Prop := ∀ j u, xs[j]? = some u → ∃ ad, A = some ad ∧ ¬ N ad.block ∧ w.cell? (ad.add j) = some u
set_option maxRecDepth 100000 in
theorem SlN.of {w : World} {B : Nat} {A : Option Addr} {xs : List Value} {N : Nat → Prop} (h : Sl w B A xs) (hN : ∀ i, i < B → ¬ N i) : SlN w N A xs := fun j u hu => by
  obtain ⟨ad, e, hb, hc⟩ := h j u hu
  exact ⟨ad, e, hN _ hb, hc⟩
set_option maxRecDepth 100000 in
theorem SlN.turn {S N N' : Nat → Prop} {w w' : World} {A : Option Addr} {xs : List Value} (h : SlN w N A xs) (t : Turn S w w') (hS : ∀ i, S i → N i) (hN : ∀ i, i < w.heap.size → N' i → N i) : SlN w' N' A xs := fun j u hu => by
  obtain ⟨ad, e, hb, hc⟩ := h j u hu
  have hlt := World.block_lt_of_cell? w _ hc
  rw [add_block] at hlt
  exact ⟨ad, e, fun hn => hb (hN _ hlt hn), t.cell hc (by rw [add_block]; exact fun hs => hb (hS _ hs))⟩
set_option maxRecDepth 100000 in
theorem SlN.sl {w : World} {N : Nat → Prop} {A : Option Addr} {xs : List Value} (h : SlN w N A xs) : Sl w w.heap.size A xs := fun j u hu => by
  obtain ⟨ad, e, hb, hc⟩ := h j u hu
  have hlt := World.block_lt_of_cell? w _ hc
  rw [add_block] at hlt
  exact ⟨ad, e, hlt, hc⟩
set_option maxRecDepth 100000 in
theorem SlN.cut {w : World} {N : Nat → Prop} {A : Option Addr} {xs : List Value} (h : SlN w N A xs) (cap n : Nat) (hc : xs.length ≤ cap) : SlN w N (if cap = n then A else A.map (·.add n)) (xs.drop n) := fun j u hu => by
  rw [List.getElem?_drop] at hu
  obtain ⟨ad, rfl, hb, hcl⟩ := h (n + j) u hu
  have hlt := (List.getElem?_eq_some_iff.1 hu).1
  refine ⟨ad.add n, ?_, by rw [add_block]; exact hb, by rw [add_add]; exact hcl⟩
  rw [if_neg (by omega)]; rfl
set_option maxRecDepth 100000 in
theorem SlN.take {w : World} {N : Nat → Prop} {A : Option Addr} {xs : List Value} (h : SlN w N A xs) (n : Nat) : SlN w N A (xs.take n) := fun j u hu => by
  rw [List.getElem?_take] at hu
  split at hu
  · exact h j u hu
  · cases hu
set_option maxRecDepth 100000 in
theorem SlN.at {w : World} {N : Nat → Prop} {A : Option Addr} {xs : List Value} (h : SlN w N A xs) {k : Nat} {u : Value} (hk : xs[k]? = some u) : ∃ ad, A = some ad ∧ ¬ N ad.block ∧ w.cell? (ad.add k) = some u := h k u hk
set_option maxRecDepth 100000 in
theorem bv_one (l : List B8) : ∀ u ∈ l.map bv, u.oneCell' = true := by
  intro u hu; simp only [List.mem_map] at hu; obtain ⟨q, _, rfl⟩ := hu; rfl
set_option maxRecDepth 100000 in
theorem bvs_at (l : List B8) (k : Nat) (h : k < l.length) : (l.map bv)[k]? = some (bv l[k]) := by simp [h]
set_option maxRecDepth 100000 in
theorem bv_inj {a b : B8} : ((a.toNat : Int) = (b.toNat : Int)) ↔ a = b := by
  constructor
  · intro h; exact BitVec.eq_of_toNat_eq (by omega)
  · rintro rfl; rfl

set_option maxRecDepth 100000 in
theorem wpList_append_any {P : Program} {w : World} {ops : Array Oper} {rest : List Oper} {o : Oper} {a : Act} {Q : Exit → Act → World → Prop} (hgd : o.guard = none) (s x : Operand) (t : TypeId)
    (ho : o.op = .call { callee := .builtin .append, args := #[s, x], argTypes := #[t, t] })
    (base : Nat) (e : TypeId) (i : TypeInfo) (z : Value) (bytes : Nat) (ht : P.underlying t = some (.slice e)) (hi : P.info? e = some i) (hz : i.zero = some z)
    (hsize : i.size = 1) (hby : i.bytes = bytes) (hzs : z.cells.size = 1)
    (v : Value) (n : Nat) (xs : List Value) (hs : a.eval s = v) (hown : w.ownsRow base e 1 v n xs)
    (A : Option Addr) (m c : Nat) (news : List Value) (hx : a.eval x = .slice A m c) (hA : A = none → c = 0) (hl : news.length = m) (hnews : ∀ (j : Nat) (u : Value), news[j]? = some u → ∃ ad, A = some ad ∧ w.cell? (ad.add j) = some u) (h1 : ∀ u ∈ news, u.oneCell' = true)
    (h63 : n + m ≤ maxLen) (hbytes : (n + m) * bytes ≤ 140737488355328) (hbase : base ≤ w.heap.size)
    (h : ∀ v' w', w'.ownsRow base e 1 v' (n + m) (xs ++ news) → w.grownBy w' v.ownBlock → wpList P ops Q rest (a.put o.dst v') w') : wpList P ops Q (o :: rest) a w := by
  cases A with
  | none =>
    obtain rfl := hA rfl
    have hn : news = [] := by
      cases news with
      | nil => rfl
      | cons u l => obtain ⟨ad, e, _⟩ := hnews 0 u rfl; cases e
    subst hn
    obtain rfl : m = 0 := by simpa using hl.symm
    refine wpList_append_own_none hgd s x t ho base e i 1 ht hi v n xs hs hown hx ?_
    exact h v w (by simpa using hown) ⟨rfl, rfl, rfl, Nat.le_refl _, fun _ _ _ => rfl⟩
  | some ad =>
    refine wpList_append_own w hgd s x t ho base e i z 1 bytes ht hi hz hsize hby hzs (by decide) v n xs hs hown ad m c news hx (by omega) (fun j u hu => ?_) h1 h63 hbytes hbase (fun v' w' h2 h3 _ => h v' w' h2 h3)
    obtain ⟨ad', e, hc⟩ := hnews j u hu
    injection e with e; subst e; exact hc
set_option maxRecDepth 100000 in
theorem info_u8 : (Try.prog.info? 5).map (fun i => (i.zero, i.size, i.bytes)) = some (some (.int .u8 0), 1, 1) := by kernel_rfl
set_option maxRecDepth 100000 in
theorem size_u8 (w : World) : (sizeOf 5).run Try.prog w = .ok 1 w := by kernel_rfl
set_option maxRecDepth 100000 in
theorem info_parts {P : Program} {t : TypeId} {z : Value} {s b : Nat} (h : (P.info? t).map (fun i => (i.zero, i.size, i.bytes)) = some (some z, s, b)) : ∃ i, P.info? t = some i ∧ i.zero = some z ∧ i.size = s ∧ i.bytes = b := by
  cases hi : P.info? t with
  | none => rw [hi] at h; cases h
  | some i => rw [hi] at h; simp at h; exact ⟨i, rfl, h.1, h.2.1, h.2.2⟩
def cutA (A : Option Addr) (cap n : Nat) : Option Addr := if cap = n then A else A.map (·.add n)
set_option maxRecDepth 100000 in
theorem slice_lo (A : Option Addr) (len cap n : Nat) (h : n ≤ len) (w : World) : (Instr.slice 34 (.slice A len cap) (some (.int .i64 (n : Int))) none none).run Try.prog w = .ok (.slice (cutA A cap n) (len - n) (cap - n)) w := by
  rw [run_slice_l (P := Try.prog) w 34 A len cap (by kernel_rfl) .i64 (n : Int) (by omega) (by omega)]
  rw [show Try.prog.elem 34 = 5 by kernel_rfl, size_u8]
  simp [Result.andThen, sliced, cutA]

/- A number's bytes. -/
def klen (n : Nat) : Nat := if h : n = 0 then 0 else klen (n / 256) + 1
decreasing_by omega
def beN : Nat → Nat → List B8
  | 0, _ => []
  | k + 1, n => BitVec.ofNat 8 (n / 256 ^ k) :: beN k n
def numB (n : Nat) : List B8 := BitVec.ofNat 8 (klen n) :: beN (klen n) n
def valB (l : List B8) : Nat := l.foldl (fun n x => n * 256 + x.toNat) 0
set_option maxRecDepth 100000 in
theorem klen_zero : klen 0 = 0 := by rw [klen]; rfl
set_option maxRecDepth 100000 in
theorem klen_pos {n : Nat} (h : n ≠ 0) : klen n = klen (n / 256) + 1 := by rw [klen, dif_neg h]
set_option maxRecDepth 100000 in
theorem klen_lt (n : Nat) : n < 256 ^ klen n := by
  induction n using Nat.strongRecOn with
  | _ n ih =>
    by_cases h : n = 0
    · subst h; simp [klen_zero]
    · rw [klen_pos h, Nat.pow_succ]
      have := ih (n / 256) (by omega)
      omega
set_option maxRecDepth 100000 in
theorem klen_le {n k : Nat} (h : n < 256 ^ k) : klen n ≤ k := by
  induction k generalizing n with
  | zero => have : n = 0 := by simpa using h
            subst this; simp [klen_zero]
  | succ k ih =>
    by_cases h0 : n = 0
    · subst h0; simp [klen_zero]
    · rw [klen_pos h0]
      have := ih (n := n / 256) (by rw [Nat.pow_succ] at h; omega)
      omega
set_option maxRecDepth 100000 in
theorem klen_ge {n : Nat} (h : n ≠ 0) : 256 ^ (klen n - 1) ≤ n := by
  induction n using Nat.strongRecOn with
  | _ n ih =>
    rw [klen_pos h]
    by_cases h0 : n / 256 = 0
    · rw [h0, klen_zero]; simp; omega
    · have := ih (n / 256) (by omega) h0
      rw [klen_pos h0] at this ⊢
      simp only [Nat.add_sub_cancel] at this ⊢
      rw [Nat.pow_succ]
      omega
set_option maxRecDepth 100000 in
theorem klen_eight {n : Nat} (h : n < 18446744073709551616) : klen n ≤ 8 := klen_le (k := 8) (by simpa using h)
set_option maxRecDepth 100000 in
theorem klen_eq {n k : Nat} (h1 : n < 256 ^ k) (h2 : k = 0 ∨ 256 ^ (k - 1) ≤ n) : klen n = k := by
  have ha := klen_le h1
  rcases h2 with rfl | h2
  · omega
  · rcases Nat.lt_or_ge (klen n) k with hlt | hge
    · have h3 := klen_lt n
      have h4 : 256 ^ klen n ≤ 256 ^ (k - 1) := Nat.pow_le_pow_right (by decide) (by omega)
      omega
    · omega
set_option maxRecDepth 100000 in
theorem beN_len (k n : Nat) : (beN k n).length = k := by induction k with | zero => rfl | succ k ih => simp [beN, ih]
set_option maxRecDepth 100000 in
theorem numB_len (n : Nat) : (numB n).length = klen n + 1 := by simp [numB, beN_len]
set_option maxRecDepth 100000 in
theorem numB_le {n : Nat} (h : n < 18446744073709551616) : (numB n).length ≤ 9 := by rw [numB_len]; have := klen_eight h; omega
set_option maxRecDepth 100000 in
theorem foldl_acc (l : List B8) (a : Nat) : l.foldl (fun n x => n * 256 + x.toNat) a = a * 256 ^ l.length + valB l := by
  induction l generalizing a with
  | nil => simp [valB]
  | cons x l ih =>
    unfold valB
    rw [List.foldl_cons, List.foldl_cons, ih, ih (0 * 256 + x.toNat), List.length_cons, Nat.pow_succ, Nat.add_mul, Nat.add_mul, Nat.mul_assoc, Nat.mul_comm 256 (256 ^ _)]
    simp [Nat.add_assoc]
set_option maxRecDepth 100000 in
theorem valB_cons (x : B8) (l : List B8) : valB (x :: l) = x.toNat * 256 ^ l.length + valB l := by
  unfold valB; rw [List.foldl_cons, foldl_acc]; simp [valB]
set_option maxRecDepth 100000 in
theorem valB_lt (l : List B8) : valB l < 256 ^ l.length := by
  induction l with
  | nil => simp [valB]
  | cons x l ih =>
    rw [valB_cons, List.length_cons, Nat.pow_succ]
    have := x.isLt
    have h : x.toNat * 256 ^ l.length + 256 ^ l.length ≤ 256 * 256 ^ l.length := by
      rw [← Nat.succ_mul]; exact Nat.mul_le_mul_right _ (by omega)
    omega
set_option maxRecDepth 100000 in
theorem valB_take (l : List B8) (k : Nat) (h : k < l.length) : valB (l.take (k + 1)) = valB (l.take k) * 256 + l[k].toNat := by
  rw [List.take_succ_eq_append_getElem h]; unfold valB; rw [List.foldl_append]; rfl
set_option maxRecDepth 100000 in
theorem valB_beN (k n : Nat) : valB (beN k n) = n % 256 ^ k := by
  induction k with
  | zero => simp [beN, valB, Nat.mod_one]
  | succ k ih =>
    rw [beN, valB_cons, ih, beN_len, BitVec.toNat_ofNat, show (2 : Nat) ^ 8 = 256 from rfl, show 256 ^ (k + 1) = 256 ^ k * 256 from rfl, @Nat.mod_mul (256 ^ k) 256 n, Nat.add_comm, Nat.mul_comm (n / 256 ^ k % 256)]
set_option maxRecDepth 100000 in
theorem beN_valB (l : List B8) : beN l.length (valB l) = l := by
  induction l with
  | nil => rfl
  | cons x l ih =>
    have h := valB_lt l
    have hm : valB (x :: l) % 256 ^ l.length = valB l := by rw [valB_cons, Nat.mul_comm, Nat.mul_add_mod]; exact Nat.mod_eq_of_lt h
    have hd : valB (x :: l) / 256 ^ l.length = x.toNat := by
      rw [valB_cons, Nat.mul_comm, Nat.mul_add_div (Nat.pow_pos (by decide)), Nat.div_eq_of_lt h, Nat.add_zero]
    have hc : ∀ (k a b : Nat), a % 256 ^ k = b % 256 ^ k → beN k a = beN k b := by
      intro k
      induction k with
      | zero => intros; rfl
      | succ k ihk =>
        intro a b hab
        have h1 : a % 256 ^ k = b % 256 ^ k := by
          have := congrArg (· % 256 ^ k) hab
          simpa [Nat.pow_succ, Nat.mod_mul_right_mod] using this
        have h2 : a / 256 ^ k % 256 = b / 256 ^ k % 256 := by
          have := congrArg (· / 256 ^ k) hab
          simpa [Nat.pow_succ, Nat.mod_mul_right_div_self] using this
        rw [beN, beN, ihk a b h1]
        congr 1
        apply BitVec.eq_of_toNat_eq
        simp [h2]
    rw [List.length_cons, beN, hd]
    congr 1
    · simp
    · rw [hc l.length _ (valB l) (by rw [hm, Nat.mod_eq_of_lt h]), ih]
set_option maxRecDepth 100000 in
/-- What is read, and has no 0 ahead, is the number's own bytes. -/
theorem klen_valB (x : B8) (l : List B8) (h : x ≠ 0) : klen (valB (x :: l)) = l.length + 1 := by
  refine klen_eq (valB_lt _) (.inr ?_)
  have h0 : 1 ≤ x.toNat := by
    rcases Nat.eq_zero_or_pos x.toNat with h0 | h0
    · exact absurd (BitVec.eq_of_toNat_eq (by simpa using h0)) h
    · exact h0
  rw [valB_cons, Nat.add_sub_cancel]
  exact Nat.le_trans (Nat.le_mul_of_pos_left _ h0) (Nat.le_add_right _ _)
set_option maxRecDepth 100000 in
theorem numB_valB (l : List B8) (h : ∀ x r, l = x :: r → x ≠ 0) (hl : l.length < 256) : numB (valB l) = BitVec.ofNat 8 l.length :: l := by
  cases l with
  | nil => simp [valB, numB, klen_zero, beN]
  | cons x r =>
    rw [numB, klen_valB x r (h x r rfl), show r.length + 1 = (x :: r).length from rfl, beN_valB]
set_option maxRecDepth 100000 in
theorem valB_numB {n : Nat} : valB (beN (klen n) n) = n := by rw [valB_beN, Nat.mod_eq_of_lt (klen_lt n)]
set_option maxRecDepth 100000 in
theorem beN_head {n : Nat} (h : n ≠ 0) : ∃ x r, beN (klen n) n = x :: r ∧ x ≠ 0 := by
  rw [klen_pos h]
  refine ⟨_, _, rfl, ?_⟩
  have h1 := klen_lt n
  have h2 := klen_ge h
  rw [klen_pos h] at h1 h2
  simp only [Nat.add_sub_cancel] at h2
  intro he
  have h3 := congrArg BitVec.toNat he
  rw [BitVec.toNat_ofNat] at h3
  have h4 : n / 256 ^ klen (n / 256) < 256 := by rw [Nat.div_lt_iff_lt_mul (Nat.pow_pos (by decide))]; rw [Nat.pow_succ] at h1; omega
  have h5 : 1 ≤ n / 256 ^ klen (n / 256) := (Nat.le_div_iff_mul_le (Nat.pow_pos (by decide))).2 (by omega)
  simp at h3; omega
end Go.Proofs.Ytgjplbanfnomkaa
