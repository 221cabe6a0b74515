/- Merged: Letters as plain records, and how they lie in memory. The document's number; the library's comparison of bytes. -/
import Derived.Test.YtgjplbanfnomkaaFldX
import Derived.Test.YtgjplbanfnomkaaFwX
import Derived.Test.YtgjplbanfnomkaaRel
import Derived.Test.YtgjplbanfnomkaaTail
import Derived.Test.YtgjplbanfnomkaaCls
import Derived.Test.YtgjplbanfnomkaaFrE
import Derived.Test.YtgjplbanfnomkaaFrO
import Derived.Test.YtgjplbanfnomkaaTxE1
import Derived.Test.YtgjplbanfnomkaaTxN
import Derived.Test.YtgjplbanfnomkaaIdEq
import Derived.Test.YtgjplbanfnomkaaRowLoad
import Derived.IntWalk
import Derived.Laws.IdiomStrings
import Derived.Laws.BytesArg
namespace Go.Proofs.Ytgjplbanfnomkaa
section
set_option linter.unusedVariables false
set_option linter.unusedSimpArgs false

open Go.RowKit
/-- An item, plain: its term, its bytes. -/
structure Itm where
  t : Int
  b : List B8
/-- A letter, plain: kind, term, two numbers and a third, yes or no, items, bytes. -/
structure Ltr where
  k : Int
  t : Int
  x : Int
  y : Int
  z : Int
  s : Bool
  its : List Itm
  b : List B8
instance : DecidableEq Itm := fun a b => decidable_of_iff (a.t = b.t ∧ a.b = b.b) (by cases a; cases b; simp)
instance : DecidableEq Ltr := fun a b => decidable_of_iff (a.k = b.k ∧ a.t = b.t ∧ a.x = b.x ∧ a.y = b.y ∧ a.z = b.z ∧ a.s = b.s ∧ a.its = b.its ∧ a.b = b.b) (by cases a; cases b; simp)
def i64R (n : Int) : Prop := -9223372036854775808 ≤ n ∧ n < 9223372036854775808
structure Itm.ok (p : Itm) : Prop where
  t : i64R p.t
  m : p.b.length ≤ maxLen
/-- Bytes in no block of N. -/
structure BtN (w : World) (N : Nat → Prop) (S : Option Addr) (c : Nat) (b : List B8) : Prop where
  s : SlN w N S (b.map bv)
  a : S = none → c = 0
  c : b.length ≤ c
/-- Items in no block of N. -/
def ItN (w : World) (N : Nat → Prop) (A : Option Addr) (l : List Itm) : Prop := ∀ i p, l[i]? = some p → p.ok ∧ ∃ b o S c, A = some ⟨b, o, none⟩ ∧ ¬ N b ∧ BtN w N S c p.b ∧ w.cell? ⟨b, o + i * 2, none⟩ = some (.int .i64 p.t) ∧ w.cell? ⟨b, o + i * 2 + 1, none⟩ = some (.slice S p.b.length c)
/-- A letter's value. -/
abbrev ltC (A : Option Addr) (cA : Nat) (S : Option Addr) (cS : Nat) (l : Ltr) : Array Value := #[.int .i64 l.k, .int .i64 l.t, .int .i64 l.x, .int .i64 l.y, .int .i64 l.z, .bool l.s, .slice A l.its.length cA, .slice S l.b.length cS]
abbrev ltV (A : Option Addr) (cA : Nat) (S : Option Addr) (cS : Nat) (l : Ltr) : Value := .agg (ltC A cA S cS l)
structure LtN (w : World) (N : Nat → Prop) (A : Option Addr) (cA : Nat) (S : Option Addr) (cS : Nat) (l : Ltr) : Prop where
  its : ItN w N A l.its
  ia : A = none → cA = 0
  ic : l.its.length ≤ cA
  im : l.its.length ≤ maxLen
  b : BtN w N S cS l.b
  bm : l.b.length ≤ maxLen
  k : i64R l.k
  t : i64R l.t
  x : i64R l.x
  y : i64R l.y
  z : i64R l.z
section
variable {w w' : World} {N N' T : Nat → Prop} {A S : Option Addr} {c cA cS : Nat} {b : List B8} {its : List Itm} {l : Ltr}
set_option maxRecDepth 100000 in
theorem BtN.turn (h : BtN w N S c b) (t : Turn T w w') (hT : ∀ i, T i → N i) (hN : ∀ i, i < w.heap.size → N' i → N i) : BtN w' N' S c b := ⟨h.s.turn t hT hN, h.a, h.c⟩
set_option maxRecDepth 100000 in
theorem ItN.turn (h : ItN w N A its) (t : Turn T w w') (hT : ∀ i, T i → N i) (hN : ∀ i, i < w.heap.size → N' i → N i) : ItN w' N' A its := fun i p hi => by
  obtain ⟨hok, b, o, S, c, e, hb, hs, h1, h2⟩ := h i p hi
  have hlt := World.block_lt_of_cell? w _ h1
  exact ⟨hok, b, o, S, c, e, fun h => hb (hN _ hlt h), hs.turn t hT hN, t.cell h1 (fun h => hb (hT _ h)), t.cell h2 (fun h => hb (hT _ h))⟩
set_option maxRecDepth 100000 in
theorem LtN.turn (h : LtN w N A cA S cS l) (t : Turn T w w') (hT : ∀ i, T i → N i) (hN : ∀ i, i < w.heap.size → N' i → N i) : LtN w' N' A cA S cS l :=
  ⟨h.its.turn t hT hN, h.ia, h.ic, h.im, h.b.turn t hT hN, h.bm, h.k, h.t, h.x, h.y, h.z⟩
set_option maxRecDepth 100000 in
theorem BtN.quiet (h : BtN w N S c b) (t : Turn (fun _ => False) w w') : BtN w' N S c b := h.turn t (fun _ h => h.elim) (fun _ _ h => h)
set_option maxRecDepth 100000 in
theorem ItN.quiet (h : ItN w N A its) (t : Turn (fun _ => False) w w') : ItN w' N A its := h.turn t (fun _ h => h.elim) (fun _ _ h => h)
set_option maxRecDepth 100000 in
theorem LtN.quiet (h : LtN w N A cA S cS l) (t : Turn (fun _ => False) w w') : LtN w' N A cA S cS l := h.turn t (fun _ h => h.elim) (fun _ _ h => h)
end
set_option maxRecDepth 100000 in
theorem Itm.ext {p q : Itm} (h1 : p.t = q.t) (h2 : p.b = q.b) : p = q := by cases p; cases q; simp_all
set_option maxRecDepth 100000 in
theorem Ltr.ext {p q : Ltr} (h : p.k = q.k ∧ p.t = q.t ∧ p.x = q.x ∧ p.y = q.y ∧ p.z = q.z ∧ p.s = q.s ∧ p.its = q.its ∧ p.b = q.b) : p = q := by cases p; cases q; simp_all
set_option maxRecDepth 100000 in
theorem take_next {α : Type} {a b : List α} {k : Nat} (ha : k < a.length) (hb : k < b.length) (h : a.take k = b.take k) (hk : a[k] = b[k]) : a.take (k + 1) = b.take (k + 1) := by
  rw [List.take_succ_eq_append_getElem ha, List.take_succ_eq_append_getElem hb, h, hk]
set_option maxRecDepth 100000 in
theorem row8 {w : World} {x : Nat} {a b c d e f g h : Value} {t : TypeId} (H : w.heap[x]? = some (.cells #[a, b, c, d, e, f, g, h] t (0, 0))) :
    (w.cell? ⟨x, 0, none⟩ = some a ∧ w.cell? ⟨x, 1, none⟩ = some b ∧ w.cell? ⟨x, 2, none⟩ = some c ∧ w.cell? ⟨x, 3, none⟩ = some d ∧ w.cell? ⟨x, 4, none⟩ = some e ∧ w.cell? ⟨x, 5, none⟩ = some f ∧ w.cell? ⟨x, 6, none⟩ = some g ∧ w.cell? ⟨x, 7, none⟩ = some h) ∧
    (w.frozen? ⟨x, 0, none⟩ = false ∧ w.frozen? ⟨x, 1, none⟩ = false ∧ w.frozen? ⟨x, 2, none⟩ = false ∧ w.frozen? ⟨x, 3, none⟩ = false ∧ w.frozen? ⟨x, 4, none⟩ = false ∧ w.frozen? ⟨x, 5, none⟩ = false ∧ w.frozen? ⟨x, 6, none⟩ = false ∧ w.frozen? ⟨x, 7, none⟩ = false) := by
  refine ⟨⟨?_, ?_, ?_, ?_, ?_, ?_, ?_, ?_⟩, ⟨?_, ?_, ?_, ?_, ?_, ?_, ?_, ?_⟩⟩
  all_goals first | exact frozen_of_row w x _ _ _ H | (rw [cell_of_row _ _ _ _ _ _ H]; rfl)
set_option maxRecDepth 100000 in
theorem set_turn (w : World) (x o : Nat) (v : Value) : Turn (fun i => i = x) w (w.setCell ⟨x, o, none⟩ v) := (Turn.refl _ _).setCell _ _ (fun _ => rfl)
set_option maxRecDepth 100000 in
theorem it_info : (Try.prog.info? 36).map (fun i => (i.zero, i.size, i.bytes)) = some (some (.agg #[.int .i64 0, .slice none 0 0]), 2, 32) := by kernel_rfl
set_option maxRecDepth 100000 in
theorem own_sln {w : World} {B n c : Nat} {e : TypeId} {A : Option Addr} {xs : List Value} (h : w.ownsRow B e 1 (.slice A n c) n xs) : SlN w (fun i => i < B) A xs := fun j u hu => by
  rcases h.2 with ⟨e, h0⟩ | ⟨g, cap, cur, e, hB, hg, hc, hm, hcs, ht⟩
  · have hl := h.1
    injection e with e1 e2 e3
    subst e2
    have : xs = [] := List.eq_nil_of_length_eq_zero (by omega)
    subst this; simp at hu
  · injection e with e1 e2 e3
    subst e1
    exact ⟨_, rfl, by show ¬ g < B; omega, h.cells (g := g) rfl j u hu⟩
set_option maxRecDepth 100000 in
theorem lt_maxM {n : Nat} (h : n ≤ 1099511627776) : n ≤ maxLen := by unfold maxLen; omega

end
section
set_option linter.unusedVariables false
set_option linter.unusedSimpArgs false

open Go.RowKit
set_option maxRecDepth 100000 in
set_option maxHeartbeats 1000000 in
theorem rnum_any (n : Nat) (w : World) (hn : n < 18446744073709551616) :
    Calls Try.prog 57 #[.int .u64 (n : Int)] w fun e w' => ∃ v, e = .returned v ∧ w'.ownsRow w.heap.size 5 1 v (numB n).length ((numB n).map bv) ∧ Turn (fun _ => False) w w' := by
  obtain ⟨i0, hi, hz0, hz1, hz2⟩ := info_parts info_u8
  have hk8 := klen_eight hn
  have HK8 := Lib.hid hk8
  go_enter Try.func57, Try.ntmps57
  go_wp2
  go_loop [3, 4] (fun k v => ∃ j q : Nat, k = .int .i64 j ∧ v = .int .u64 q ∧ j + klen q = klen n ∧ q < 18446744073709551616) (fun _ v => (intOf v).toNat)
  case atStart => exact ⟨0, n, rfl, rfl, by omega, hn⟩
  case round =>
    obtain ⟨j, q, rfl, rfl, hj, hq⟩ := hrel
    by_cases h0 : q = 0
    · subst h0
      rw [klen_zero] at hj
      obtain rfl : j = klen n := by omega
      obtain ⟨k, hkk⟩ : ∃ k, k = klen n := ⟨_, rfl⟩
      rw [← hkk] at hk8 ⊢
      have HN := Lib.hid (show numB n = BitVec.ofNat 8 k :: beN k n by rw [hkk]; rfl)
      clear hkk hj hq HK8
      have ho := own_new w w.heap.size 5 [bv (BitVec.ofNat 8 k)] 1 rfl (Nat.le_refl _) (by unfold maxLen; omega)
      have hkb : bv (BitVec.ofNat 8 k) = Value.int IntKind.u8 (k : Int) := by unfold bv; rw [BitVec.toNat_ofNat, Nat.mod_eq_of_lt (by omega)]
      rw [hkb] at ho
      have HO := Lib.hid ho
      have HT := Lib.hid ((Turn.refl (fun _ => False) w).alloc (.cells #[Value.int IntKind.u8 (k : Int)] 5))
      have HKB := Lib.hid hkb
      clear ho hkb
      go_wp2
      go_loopw [5, 6] (fun u i wr => ∃ (m : Nat) (z : Int) (W : List B8), i = .int .i64 z ∧ z ≤ (m : Int) - 1 ∧ (m : Int) - 1 ≤ z ∧ m ≤ k ∧ W ++ beN m n = numB n ∧ wr.ownsRow w.heap.size 5 1 u W.length (W.map bv) ∧ Turn (fun _ => False) w wr) (fun _ i _ => (intOf i + 1).toNat)
      case atStart => exact ⟨k, _, [BitVec.ofNat 8 k], rfl, by omega, by omega, Nat.le_refl _, by rw [HN.out]; rfl, by simp only [List.map_cons, List.map_nil, HKB.out]; exact HO.out, HT.out⟩
      case round =>
        clear HO HT
        obtain ⟨m, z, W, rfl, hz1', hz2', hmk, hW, hown, ht⟩ := hrel
        have hWl : W.length + m = 1 + k := by
          have := congrArg List.length hW
          rw [HN.out] at this
          simp [beN_len] at this; omega
        have HW := Lib.hid hW
        have HO := Lib.hid hown
        have HT := Lib.hid ht
        clear hW hown ht
        by_cases h0 : m = 0
        · subst h0
          obtain rfl : z = -1 := by omega
          have hW := HW.out
          rw [beN, List.append_nil] at hW
          subst hW
          go_wp2
          go_ret
          exact ⟨_, rfl, HO.out, HT.out⟩
        · obtain ⟨q, rfl⟩ : ∃ q, m = q + 1 := ⟨m - 1, by omega⟩
          obtain rfl : z = (q : Int) := by omega
          have hq8 : (8 * (q : Int)).toNat = 8 * q := by omega
          have hwr : IntKind.i64.wrap (8 * (q : Int)) = 8 * (q : Int) := IntWalk.i64_in _ (by omega)
          obtain ⟨y, hyy⟩ : ∃ y, y = BitVec.ofNat 8 (n / 256 ^ q) := ⟨_, rfl⟩
          have hy : IntKind.u8.wrap ((n : Int) / 2 ^ (8 * q)) = (y.toNat : Int) := by rw [hyy]; exact byte_int n q
          have HY := Lib.hid hyy
          clear hyy
          go_upto_region 10 with fail
          go_step
          iterate 21 go_step
          refine wpList_append_any_at (o := ⟨some 30, _, _, _, _, _⟩) rfl _ _ 34 rfl w.heap.size 5 i0 (.int .u8 0) 1 Try.underlying34 hi hz0 hz1 hz2 rfl u5 W.length _ rfl (HO.out.alloc _) (some ⟨wr.heap.size, 0, none⟩) 1 1 (([y] : List B8).map bv) rfl (fun h => by cases h) rfl ?_ (bv_one [y]) ?_ ?_ ?_ ?_
          · intro j u hu
            exact ⟨_, rfl, World.news_of_block (heap_alloc_new wr (.cells #[.int .u8 (y.toNat : Int)] 5)) j u hu⟩
          · unfold maxLen; omega
          · omega
          · have := HT.out.size; simp; omega
          intro v1 w1 own1 gr1 at1
          have HO1 := Lib.hid own1
          have HT1 := Lib.hid ((HT.out.alloc (.cells #[.int .u8 (y.toNat : Int)] 5)).grown gr1 (fun i hi e => by have := (HO.out.lt i e.symm).1; omega))
          clear own1 gr1 at1
          go_wp2
          go_roundw
          case rel => exact ⟨q, _, W ++ [y], rfl, by omega, by omega, by omega, by rw [← HW.out, HY.out, beN_cons]; simp, by rw [List.length_append, List.map_append]; exact HO1.out, HT1.out⟩
          case measure => simp [intOf]
    · have hd : klen q = klen (q / 256) + 1 := klen_pos h0
      have hp : (0 : Int) < (q : Int) := by omega
      have hj8 : j ≤ 8 := by omega
      have HD := Lib.hid (show (j + 1) + klen (q / 256) = klen n by omega)
      clear hd hj
      go_wp2
      go_round
      case rel => exact ⟨j + 1, q / 256, by go_num, by go_num, HD.out, by omega⟩
      case measure => simp [intOf]; omega
set_option maxRecDepth 100000 in
theorem u8s_len (b : List B8) : (u8s b).length = b.length := by simp [u8s]
set_option maxRecDepth 100000 in
theorem str_any (A : Option Addr) (c B : Nat) (b : List B8) (w : World) (hs : Sl w B A (b.map bv)) (hA : A = none → c = 0) (hc : b.length ≤ c) :
    (convert 34 9 (.slice A b.length c)).run Try.prog w = .ok (.string ⟨(u8s b).toArray⟩) w := by
  cases A with
  | none =>
    have hb : b = [] := by
      have := hA rfl
      exact List.eq_nil_of_length_eq_zero (by omega)
    subst hb
    exact run_convert_bytes_nil w 34 5 Try.underlying34 Try.underlying5 _ _ _ Try.underlying9
  | some ad =>
    have h := run_convert_bytes_back (P := Try.prog) w 34 9 5 ad c (u8s b) Try.underlying34 Try.underlying5 Try.underlying9 (fun j hj => by
      rw [u8s_len] at hj
      obtain ⟨ad', e, -, hcell⟩ := hs j _ (bvs_at b j hj)
      injection e with e; subst e
      rw [hcell]
      simp [u8s, bv])
    rw [u8s_len] at h
    exact h

end
end Go.Proofs.Ytgjplbanfnomkaa
