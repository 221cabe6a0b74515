/- Merged: What the walks over transactions build on. Transactions as plain records, and how they lie in memory. The contracts of 'outside' and of the searches over inputs. Records of a digest and a number, compared by the language's own ==. The contracts of 'within' and 'twice'. The contract of 'within'. The contract of 'twice'. The contracts of the amounts' lists. The contracts of the search for an amount, and of 'balance'. The contract of 'Check'. The form of a transaction, and the contracts of 'putIns' and 'putOuts'. The contracts of 'putOuts', of 'Put' and of 'Size'. The contract of 'Put'. The contract of 'Size', and of the document's example. -/
import Derived.Test.YtoclfohgchlpnaaDoorFldX
import Derived.Test.YtoclfohgchlpnaaDoorAllWalks
import Derived.Test.YtoclfohgchlpnaaDoorIdEq2
import Derived.Test.YtoclfohgchlpnaaDoorRowLoad2
import Derived.Test.YtoclfohgchlpnaaDoorFwA
import Derived.Test.YtoclfohgchlpnaaDoorTail
import Derived.Test.YtoclfohgchlpnaaDoorShaT2
import Derived.Test.YtoclfohgchlpnaaDoorTgD
import Derived.Deep.MidRow
import Derived.Deep.WholeRow
import Derived.LoopTactic
import Derived.Outline
import Derived.Laws.StructEq
import Derived.OwnWalk
namespace Go.Proofs.YtoclfohgchlpnaaDoor
section


end
section
set_option linter.unusedVariables false

open Go.RowKit
/-- An input, plain: its digest, its index, its amount, its secret. -/
structure Pin where
  d : List B8
  x : Int
  n : Nat
  b : List B8
/-- An output, plain. -/
structure Pout where
  d : List B8
  n : Nat
/-- A transaction, plain. -/
structure Ptx where
  ins : List Pin
  outs : List Pout
  fee : Nat
  exp : Int
instance : DecidableEq Pin := fun a b => decidable_of_iff (a.d = b.d ∧ a.x = b.x ∧ a.n = b.n ∧ a.b = b.b) (by cases a; cases b; simp)
instance : DecidableEq Pout := fun a b => decidable_of_iff (a.d = b.d ∧ a.n = b.n) (by cases a; cases b; simp)
instance : DecidableEq Ptx := fun a b => decidable_of_iff (a.ins = b.ins ∧ a.outs = b.outs ∧ a.fee = b.fee ∧ a.exp = b.exp) (by cases a; cases b; simp)
structure Pin.ok (p : Pin) : Prop where
  d : p.d.length = 32
  x0 : -9223372036854775808 ≤ p.x
  x1 : p.x < 9223372036854775808
  n : p.n < 18446744073709551616
  m : p.b.length ≤ maxLen
structure Pout.ok (p : Pout) : Prop where
  d : p.d.length = 32
  n : p.n < 18446744073709551616
def Pin.cells (p : Pin) (S : Option Addr) (c : Nat) : List Value := p.d.map bv ++ [.int .i64 p.x, .int .u64 (p.n : Int), .slice S p.b.length c]
def Pout.cells (p : Pout) : List Value := p.d.map bv ++ [.int .u64 (p.n : Int)]
theorem Pin.len (p : Pin) (S : Option Addr) (c : Nat) (h : p.d.length = 32) : (p.cells S c).length = 35 := by simp [Pin.cells, h]
theorem Pout.len (p : Pout) (h : p.d.length = 32) : p.cells.length = 33 := by simp [Pout.cells, h]
theorem Pin.one (p : Pin) (S : Option Addr) (c : Nat) : (p.cells S c).toArray.all (·.oneCell') = true := by
  rw [Array.all_eq_true_iff_forall_mem]
  intro u hu
  simp only [Pin.cells, List.mem_toArray, List.mem_append, List.mem_cons, List.not_mem_nil, or_false, List.mem_map] at hu
  rcases hu with ⟨x, -, rfl⟩ | (rfl | rfl | rfl) <;> rfl
theorem Pout.one (p : Pout) : p.cells.toArray.all (·.oneCell') = true := by
  rw [Array.all_eq_true_iff_forall_mem]
  intro u hu
  simp only [Pout.cells, List.mem_toArray, List.mem_append, List.mem_cons, List.not_mem_nil, or_false, List.mem_map] at hu
  rcases hu with ⟨x, -, rfl⟩ | rfl <;> rfl
theorem Pin.at (p : Pin) (S : Option Addr) (c : Nat) (h : p.d.length = 32) : (p.cells S c)[32]? = some (.int .i64 p.x) ∧ (p.cells S c)[33]? = some (.int .u64 (p.n : Int)) ∧ (p.cells S c)[34]? = some (.slice S p.b.length c) := by
  unfold Pin.cells
  refine ⟨?_, ?_, ?_⟩ <;> rw [List.getElem?_append_right (by simp [h])] <;> simp [h]
theorem Pout.at (p : Pout) (h : p.d.length = 32) : p.cells[32]? = some (.int .u64 (p.n : Int)) := by
  unfold Pout.cells
  rw [List.getElem?_append_right (by simp [h])]; simp [h]
/-- Bytes in a slice below block B. -/
structure BAt (w : World) (B : Nat) (S : Option Addr) (c : Nat) (b : List B8) : Prop where
  s : Sl w B S (b.map bv)
  a : S = none → c = 0
  c : b.length ≤ c
/-- Inputs, and outputs, in a slice below block B. -/
def InsAt (w : World) (B : Nat) (A : Option Addr) (l : List Pin) : Prop := ∀ i p, l[i]? = some p → p.ok ∧ ∃ b o S c, A = some ⟨b, o, none⟩ ∧ b < B ∧ BAt w B S c p.b ∧ w.rangeAt b (o + i * 35) (p.cells S c)
def OutsAt (w : World) (B : Nat) (A : Option Addr) (l : List Pout) : Prop := ∀ i p, l[i]? = some p → p.ok ∧ ∃ b o, A = some ⟨b, o, none⟩ ∧ b < B ∧ w.rangeAt b (o + i * 33) p.cells
theorem Turn.range {S : Nat → Prop} {w w' : World} {b o : Nat} {cs : List Value} (t : Turn S w w') (h : w.rangeAt b o cs) (hb : ¬ S b) : w'.rangeAt b o cs := fun j v hj => t.cell (h j v hj) hb
section
variable {w w' : World} {B B' c : Nat} {A S : Option Addr} {b : List B8} {l : List Pin} {k : List Pout}
theorem BAt.turn {T : Nat → Prop} (h : BAt w B S c b) (t : Turn T w w') (hT : ∀ i, i < B → ¬ T i) : BAt w' B S c b := ⟨t.sl h.s hT, h.a, h.c⟩
theorem BAt.more (h : BAt w B S c b) (hB : B ≤ B') : BAt w B' S c b := ⟨h.s.more hB, h.a, h.c⟩
theorem InsAt.turn {T : Nat → Prop} (h : InsAt w B A l) (t : Turn T w w') (hT : ∀ i, i < B → ¬ T i) : InsAt w' B A l := fun i p hi => by
  obtain ⟨hok, b, o, S, c, e, hb, hs, hr⟩ := h i p hi
  exact ⟨hok, b, o, S, c, e, hb, hs.turn t hT, t.range hr (hT b hb)⟩
theorem OutsAt.turn {T : Nat → Prop} (h : OutsAt w B A k) (t : Turn T w w') (hT : ∀ i, i < B → ¬ T i) : OutsAt w' B A k := fun i p hi => by
  obtain ⟨hok, b, o, e, hb, hr⟩ := h i p hi
  exact ⟨hok, b, o, e, hb, t.range hr (hT b hb)⟩
theorem InsAt.more (h : InsAt w B A l) (hB : B ≤ B') : InsAt w B' A l := fun i p hi => by
  obtain ⟨hok, b, o, S, c, e, hb, hs, hr⟩ := h i p hi
  exact ⟨hok, b, o, S, c, e, by omega, hs.more hB, hr⟩
theorem OutsAt.more (h : OutsAt w B A k) (hB : B ≤ B') : OutsAt w B' A k := fun i p hi => by
  obtain ⟨hok, b, o, e, hb, hr⟩ := h i p hi
  exact ⟨hok, b, o, e, by omega, hr⟩
theorem InsAt.take (h : InsAt w B A l) (n : Nat) : InsAt w B A (l.take n) := fun i p hi => by
  rw [List.getElem?_take] at hi
  split at hi
  · exact h i p hi
  · cases hi
end
/-- A transaction's value. -/
def txV (Ai : Option Addr) (ci : Nat) (Ao : Option Addr) (co : Nat) (t : Ptx) : Value := .agg #[.slice Ai t.ins.length ci, .slice Ao t.outs.length co, .int .u64 (t.fee : Int), .int .i64 t.exp]
structure TxAt (w : World) (B : Nat) (Ai : Option Addr) (ci : Nat) (Ao : Option Addr) (co : Nat) (t : Ptx) : Prop where
  ins : InsAt w B Ai t.ins
  ia : Ai = none → ci = 0
  ic : t.ins.length ≤ ci
  im : t.ins.length ≤ maxLen
  outs : OutsAt w B Ao t.outs
  oa : Ao = none → co = 0
  oc : t.outs.length ≤ co
  om : t.outs.length ≤ maxLen
  fee : t.fee < 18446744073709551616
  x0 : -9223372036854775808 ≤ t.exp
  x1 : t.exp < 9223372036854775808
section
variable {w w' : World} {B B' ci co : Nat} {Ai Ao : Option Addr} {t : Ptx}
theorem TxAt.turn {T : Nat → Prop} (h : TxAt w B Ai ci Ao co t) (k : Turn T w w') (hT : ∀ i, i < B → ¬ T i) : TxAt w' B Ai ci Ao co t :=
  ⟨h.ins.turn k hT, h.ia, h.ic, h.im, h.outs.turn k hT, h.oa, h.oc, h.om, h.fee, h.x0, h.x1⟩
theorem TxAt.more (h : TxAt w B Ai ci Ao co t) (hB : B ≤ B') : TxAt w B' Ai ci Ao co t :=
  ⟨h.ins.more hB, h.ia, h.ic, h.im, h.outs.more hB, h.oa, h.oc, h.om, h.fee, h.x0, h.x1⟩
end
/- The promises' words, as plain functions. -/
def outB (p : Pin) : Bool := decide (64 < p.b.length ∨ p.x < 0 ∨ 15 < p.x)
def withinB (t : Ptx) : Bool := decide (1 ≤ t.ins.length ∧ t.ins.length ≤ 16 ∧ 1 ≤ t.outs.length ∧ t.outs.length ≤ 16 ∧ 0 ≤ t.exp ∧ t.exp ≤ 1099511627776) && !(t.ins.any outB)
def samePt (p q : Pin) : Bool := decide (p.d = q.d ∧ p.x = q.x)
def twiceB (l : List Pin) : Bool := (List.range l.length).any fun i => match l[i]? with | some p => (l.take i).any fun q => samePt q p | none => false
def insN (l : List Pin) : List Nat := l.map (·.n)
def outsN (l : List Pout) : List Nat := l.map (·.n)
def zeroB (l : List Nat) : Bool := l.any fun n => decide (n = 0)
def balE (a b : List Nat) : Nat := if (allV 0 a).2 ≠ 0 then (allV 0 a).2 else if (allV 0 b).2 ≠ 0 then (allV 0 b).2 else if (allV 0 a).1 ≠ (allV 0 b).1 then 9 else 0
def chk (t : Ptx) : Nat :=
  if withinB t = false then 4 else if twiceB t.ins = true then 7 else if zeroB (insN t.ins) = true ∨ zeroB (outsN t.outs) = true then 8 else balE (insN t.ins) (outsN t.outs ++ [t.fee])

end
section
set_option linter.unusedVariables false

open Go.RowKit
set_option maxRecDepth 100000 in
theorem outB_yes {p : Pin} (h : 64 < p.b.length ∨ p.x < 0 ∨ 15 < p.x) : outB p = true := decide_eq_true h
set_option maxRecDepth 100000 in
theorem outB_no {p : Pin} (h : ¬ (64 < p.b.length ∨ p.x < 0 ∨ 15 < p.x)) : outB p = false := decide_eq_false h
set_option maxRecDepth 100000 in
theorem outside_any (p : Pin) (S : Option Addr) (c : Nat) (w : World) (h : p.ok) :
    Calls Tryd.prog 60 #[.agg (p.cells S c).toArray] w fun e w' => e = .returned (.bool (outB p)) ∧ Turn (fun _ => False) w w' := by
  obtain ⟨C, hC⟩ : ∃ C, C = (p.cells S c).toArray := ⟨_, rfl⟩
  have g1 := heap_alloc_new w (.cells C 58)
  obtain ⟨a0, a1, a2⟩ := p.at S c h.d
  have c0 : (w.alloc (.cells C 58)).cell? ⟨w.heap.size, 32, none⟩ = some (.int .i64 p.x) := by rw [cell_of_row _ _ _ _ _ _ g1, hC, List.getElem?_toArray]; exact a0
  have c2 : (w.alloc (.cells C 58)).cell? ⟨w.heap.size, 34, none⟩ = some (.slice S p.b.length c) := by rw [cell_of_row _ _ _ _ _ _ g1, hC, List.getElem?_toArray]; exact a2
  rw [← hC]
  have T0 := Lib.hid ((Turn.refl (fun _ => False) w).alloc (.cells C 58))
  have HO := Lib.hid (show (decide (64 < (p.b.length : Int)) || decide (p.x < 0) || decide (15 < p.x)) = outB p by
    unfold outB; rw [Bool.eq_iff_iff]; simp; omega)
  have OY := Lib.hid (show (64 < p.b.length ∨ p.x < 0 ∨ 15 < p.x) → outB p = true from outB_yes)
  have hm := h.m
  have x0 := h.x0
  have x1 := h.x1
  unfold maxLen at hm
  generalize p.b.length = n at *
  generalize p.x = x at *
  clear hC g1 a0 a1 a2 h
  go_enter Tryd.func60, Tryd.ntmps60
  go_wp2
  all_goals
    go_ret
    refine ⟨ret_bool ?_, T0.out⟩
    first
      | exact HO.out
      | (rw [OY.out (by omega)])
def idxF (g : Pin → Bool) (l : List Pin) : Int := if l.any g = true then (l.findIdx g : Int) else -1
set_option maxRecDepth 100000 in
theorem idxF_hit {g : Pin → Bool} {l : List Pin} {k : Nat} (hk : k < l.length) (h0 : (l.take k).any g = false) (h1 : g l[k] = true) : (k : Int) = idxF g l := by
  have ha : l.any g = true := List.any_eq_true.2 ⟨l[k], List.getElem_mem hk, h1⟩
  unfold idxF
  rw [if_pos ha]
  congr 1
  refine ((List.findIdx_eq hk).2 ⟨h1, fun j hj => ?_⟩).symm
  have := List.any_eq_false.1 h0 (l[j]'(by omega)) (by rw [List.mem_take_iff_getElem]; exact ⟨j, by omega, rfl⟩)
  simpa using this
set_option maxRecDepth 100000 in
theorem idxF_none {g : Pin → Bool} {l : List Pin} (h : l.any g = false) : (-1 : Int) = idxF g l := by unfold idxF; rw [if_neg (by simp [h])]
set_option maxRecDepth 100000 in
theorem idxF_ge (g : Pin → Bool) (l : List Pin) : decide (0 ≤ idxF g l) = l.any g := by
  unfold idxF
  cases l.any g <;> simp
set_option maxRecDepth 100000 in
theorem any_take_succ (g : Pin → Bool) (l : List Pin) (k : Nat) (hk : k < l.length) (h0 : (l.take k).any g = false) (h1 : g l[k] = false) : (l.take (k + 1)).any g = false := by
  rw [List.take_succ_eq_append_getElem hk, List.any_append, h0]; simp [h1]
set_option maxRecDepth 100000 in
set_option maxHeartbeats 1000000 in
theorem indexFunc_any (G : FuncId) (cap : Array Value) (g : Pin → Bool) (B : Nat) (A : Option Addr) (c : Nat) (l : List Pin) (w : World) (hG : ∀ (args : Array Value) (w : World), (callFunc G args).run Tryd.prog w = .ok (.enter G args) w)
    (hI : InsAt w B A l) (hm : l.length ≤ maxLen)
    (hF : ∀ (wr : World) (k : Nat) (p : Pin) (S : Option Addr) (cp : Nat), l[k]? = some p → p.ok → Turn (fun _ => False) w wr → Calls Tryd.prog G (#[.agg (p.cells S cp).toArray] ++ cap) wr fun e w' => e = .returned (.bool (g p)) ∧ Turn (fun _ => False) wr w') :
    Calls Tryd.prog 81 #[.slice A l.length c, .func (.func G) #[] cap] w fun e w' => e = .returned (.int .i64 (idxF g l)) ∧ Turn (fun _ => False) w w' := by
  unfold maxLen at hm
  have HI := Lib.hid hI
  have HF := Lib.hid hF
  clear hI hF
  go_enter Tryd.func81, Tryd.ntmps81
  go_wp2
  go_loopw [8] (fun i wr => ∃ k : Nat, k ≤ l.length ∧ i = .int .i64 k ∧ (l.take k).any g = false ∧ Turn (fun _ => False) w wr) (fun i _ => l.length - (intOf i).toNat)
  case atStart => exact ⟨0, Nat.zero_le _, rfl, rfl, Turn.refl _ _⟩
  case round =>
    obtain ⟨k, hk, rfl, ha, ht⟩ := hrel
    by_cases hlt : k < l.length
    · have hlk := List.getElem?_eq_getElem hlt
      obtain ⟨hok, b, o, S, cp, rfl, hb, hs, hr⟩ := HI.out k l[k] hlk
      have hr1 := ht.range hr (fun h => h)
      obtain ⟨p, hp⟩ : ∃ p, p = l[k] := ⟨_, rfl⟩
      have HIT := Lib.hid (fun h1 : g l[k] = true => idxF_hit hlt ha h1)
      have HMS := Lib.hid (fun h1 : g l[k] = false => any_take_succ g l k hlt ha h1)
      rw [← hp] at hok hr1 hlk HIT HMS
      have HL := Lib.hid (show (Tryd.prog.info? 58).map (·.size) = some (p.cells S cp).length by rw [p.len S cp hok.d]; kernel_rfl)
      have HR := Lib.hid hr1
      have HC := Lib.hid (HF.out wr k p S cp hlk hok ht)
      have HT := Lib.hid ht
      clear hr hr1 hok hp hs ha hlk ht
      go_wp2_with (refine wpList_load_mid (op := ⟨some 15, _, _, _, _, _⟩) rfl _ _ rfl b (o + k * 35) rfl (p.cells S cp) _ HR.out Tryd.underlying58 rfl HL.out ?_)
      refine HC.out.mono ?_
      rintro r w2 ⟨rfl, ht2⟩
      have HT2 := Lib.hid (HT.out.trans ht2 (fun _ _ h => h))
      clear ht2
      cases hg : g p
      · have HM := Lib.hid (HMS.out hg)
        clear hg
        go_wp2
        go_roundw
        case rel => exact ⟨k + 1, by omega, by go_num, HM.out, HT2.out⟩
        case measure => simp [intOf]; omega
      · have HM := Lib.hid (HIT.out hg)
        clear hg
        go_wp2
        go_ret
        exact ⟨ret_int HM.out, HT2.out⟩
    · obtain rfl : k = l.length := by omega
      rw [List.take_length] at ha
      have HN := Lib.hid (idxF_none ha)
      clear ha
      go_wp2
      go_ret
      exact ⟨ret_int HN.out, ht⟩

end
section
set_option linter.unusedVariables false
set_option linter.unusedSimpArgs false

open Go.RowKit
/-- A digest with a value behind it. -/
def recV (d : List B8) (v : Value) : List Value := d.map bv ++ [v]
theorem part_id (d : List B8) (r : List Value) (hd : d.length = 32) (w : World) : (part 23 (d.map bv ++ r).toArray 0).run Tryd.prog w = .ok (.agg (d.map bv).toArray) w := by
  have hs : ∀ w, (sizeOf 23).run Tryd.prog w = .ok 32 w := fun w => by kernel_rfl
  have ha : ∀ w, (isAgg 23).run Tryd.prog w = .ok true w := fun w => by kernel_rfl
  unfold part
  simp only [Sem.run_bind, ha, Result.andThen_ok, if_true, hs, Sem.run_pure]
  congr 2
  rw [List.extract_toArray, List.extract_eq_take_drop]
  simp [hd]
theorem part_last (t : TypeId) (k : IntKind) (ht : Tryd.prog.underlying t = some (.int k)) (d : List B8) (v : Value) (hd : d.length = 32) (w : World) : (part t (d.map bv ++ [v]).toArray 32).run Tryd.prog w = .ok v w := by
  have h : (d.map bv ++ [v]).toArray[32]? = some v := by
    rw [List.getElem?_toArray, List.getElem?_append_right (by simp [hd])]; simp [hd]
  simp [part, isAgg, run_underlying ht, h]
theorem eq_rec (t ti : TypeId) (k : IntKind) (n0 n1 : String) (hf : (Tryd.prog.fieldsOf t).toList.map (fun f => (f.name, f.type, f.offset)) = [(n0, 23, 0), (n1, ti, 32)]) (h0 : n0 ≠ "_") (h1 : n1 ≠ "_")
    (ht : Tryd.prog.underlying t = some (.struct (Tryd.prog.fieldsOf t))) (hp : Tryd.prog.stoodInHeld t = false) (hi : Tryd.prog.underlying ti = some (.int k)) (a b : List B8) (x y : Int) (ha : a.length = 32) (hb : b.length = 32) (w : World) :
    (binOp .eql t (.agg (recV a (.int k x)).toArray) (.agg (recV b (.int k y)).toArray)).run Tryd.prog w = .ok (.bool (decide (a = b ∧ x = y))) w := by
  unfold recV
  rw [run_eql_struct, run_equalIn_struct w 9999 t _ _ ht hp]
  obtain ⟨f0, l1, e1⟩ : ∃ f l, (Tryd.prog.fieldsOf t).toList = f :: l := by
    cases h : (Tryd.prog.fieldsOf t).toList with
    | nil => rw [h] at hf; cases hf
    | cons f l => exact ⟨f, l, rfl⟩
  rw [e1] at hf ⊢
  obtain ⟨f1, l2, rfl⟩ : ∃ f l, l1 = f :: l := by
    cases l1 with
    | nil => simp at hf
    | cons f l => exact ⟨f, l, rfl⟩
  simp only [List.map_cons, List.cons.injEq, Prod.mk.injEq, List.map_eq_nil_iff] at hf
  obtain ⟨⟨a0, a1, a2⟩, ⟨b0, b1, b2⟩, rfl⟩ := hf
  have hq : (Op.equalIn 9999 23 (.agg (a.map bv).toArray) (.agg (b.map bv).toArray)).run Tryd.prog w = .ok (decide (a = b)) w := by
    have h := run_equalIn_bytes (P := Tryd.prog) w 9997 23 5 32 Tryd.underlying23 Tryd.underlying5 size_u8 (u8s a) (u8s b) (by simp [u8s, ha]) (by simp [u8s, hb])
    rw [u8s_cell, u8s_cell, u8s_inj] at h
    exact h
  have hr := run_equalIn_int (P := Tryd.prog) w 9998 ti k k x y hi
  simp only [Op.eqFields, a0, a1, a2, b0, b1, b2, ne_eq, h0, h1, not_false_eq_true, if_true, Sem.run_bind, part_id a _ ha, part_id b _ hb, Result.andThen_ok, hq]
  have qa := part_last ti k hi a (.int k x) ha
  have qb := part_last ti k hi b (.int k y) hb
  by_cases hab : a = b
  · by_cases hxy : x = y
    · subst hab hxy; simp [qa, hr]
    · subst hab; simp [hxy, qa, qb, hr]
  · simp [hab]
theorem eql_point (p q : Pin) (hp : p.d.length = 32) (hq : q.d.length = 32) (w : World) :
    (binOp .eql 25 (.agg (recV p.d (.int .i64 p.x)).toArray) (.agg (recV q.d (.int .i64 q.x)).toArray)).run Tryd.prog w = .ok (.bool (samePt p q)) w :=
  eq_rec 25 3 .i64 "Tx" "Index" (by kernel_rfl) (by decide) (by decide) (by kernel_rfl) (by kernel_rfl) Tryd.underlying3 _ _ _ _ hp hq w

end
section
set_option linter.unusedVariables false

open Go.RowKit
set_option maxRecDepth 100000 in
theorem Pin.point {w : World} {g : Nat} {p : Pin} {S : Option Addr} {c : Nat} {t : TypeId} {fr : Nat × Nat} (h : w.heap[g]? = some (.cells (p.cells S c).toArray t fr)) : w.rangeAt g 0 (recV p.d (.int .i64 p.x)) := fun j v hj => by
  rw [cell_of_row w g _ _ _ _ h, List.getElem?_toArray, Nat.zero_add]
  have e : p.cells S c = recV p.d (.int .i64 p.x) ++ [.int .u64 (p.n : Int), .slice S p.b.length c] := by simp [Pin.cells, recV]
  rw [e, List.getElem?_append_left (List.getElem?_eq_some_iff.1 hj).1]; exact hj
set_option maxRecDepth 100000 in
theorem recV_len (d : List B8) (v : Value) (h : d.length = 32) : (recV d v).length = 33 := by simp [recV, h]
set_option maxRecDepth 100000 in
theorem twice1_any (q p : Pin) (S S' : Option Addr) (c c' b : Nat) (w : World) (hq : q.ok) (hp : p.ok) (hb : w.heap[b]? = some (.cells (q.cells S' c').toArray 58 (0, 0))) :
    Calls Tryd.prog 61 #[.agg (p.cells S c).toArray, .pointer (some ⟨b, 0, none⟩)] w fun e w' => e = .returned (.bool (samePt p q)) ∧ Turn (fun _ => False) w w' := by
  have g1 := heap_alloc_new w (.cells (p.cells S c).toArray 58)
  have T0 := (Turn.refl (fun _ => False) w).alloc (.cells (p.cells S c).toArray 58)
  have R1 := Lib.hid (Pin.point g1)
  have R2 := Lib.hid (Pin.point (T0.heap hb (fun h => h)))
  have L1 := Lib.hid (show (Tryd.prog.info? 25).map (·.size) = some (recV p.d (.int .i64 p.x)).length by rw [recV_len _ _ hp.d]; kernel_rfl)
  have L2 := Lib.hid (show (Tryd.prog.info? 25).map (·.size) = some (recV q.d (.int .i64 q.x)).length by rw [recV_len _ _ hq.d]; kernel_rfl)
  have he := eql_point p q hp.d hq.d
  have HT := Lib.hid T0
  generalize samePt p q = s at *
  generalize (p.cells S c).toArray = C at *
  generalize recV p.d (.int .i64 p.x) = P1 at *
  generalize recV q.d (.int .i64 q.x) = P2 at *
  obtain ⟨A1, hA1⟩ : ∃ A1, A1 = P1.toArray := ⟨_, rfl⟩
  obtain ⟨A2, hA2⟩ : ∃ A2, A2 = P2.toArray := ⟨_, rfl⟩
  rw [← hA1, ← hA2] at he
  have HA1 := Lib.hid hA1
  have HA2 := Lib.hid hA2
  clear g1 T0 hb hp hq hA1 hA2
  go_enter Tryd.func61, Tryd.ntmps61
  go_wp2_with (first
    | (refine wpList_load_mid (op := ⟨some 5, _, _, _, _, _⟩) rfl _ _ rfl w.heap.size 0 rfl P1 _ R1.out Tryd.underlying25 rfl L1.out ?_; rw [← HA1.out])
    | (refine wpList_load_mid (op := ⟨some 7, _, _, _, _, _⟩) rfl _ _ rfl b 0 rfl P2 _ R2.out Tryd.underlying25 rfl L2.out ?_; rw [← HA2.out]))
  go_ret
  exact ⟨rfl, HT.out⟩
set_option maxRecDepth 100000 in
theorem containsFunc_any (G : FuncId) (cap : Array Value) (g : Pin → Bool) (B : Nat) (A : Option Addr) (c : Nat) (l : List Pin) (w : World) (hG : ∀ (args : Array Value) (w : World), (callFunc G args).run Tryd.prog w = .ok (.enter G args) w)
    (hI : InsAt w B A l) (hm : l.length ≤ maxLen)
    (hF : ∀ (wr : World) (k : Nat) (p : Pin) (S : Option Addr) (cp : Nat), l[k]? = some p → p.ok → Turn (fun _ => False) w wr → Calls Tryd.prog G (#[.agg (p.cells S cp).toArray] ++ cap) wr fun e w' => e = .returned (.bool (g p)) ∧ Turn (fun _ => False) wr w') :
    Calls Tryd.prog 59 #[.slice A l.length c, .func (.func G) #[] cap] w fun e w' => e = .returned (.bool (l.any g)) ∧ Turn (fun _ => False) w w' := by
  have C := Lib.hid (indexFunc_any G cap g B A c l w hG hI hm hF)
  have HG := Lib.hid (idxF_ge g l)
  clear hI hF
  generalize idxF g l = z at *
  go_enter Tryd.func59, Tryd.ntmps59
  go_wp2_with (go_at_call 81; refine C.out.mono ?_; rintro r w1 ⟨rfl, ht⟩)
  go_ret
  exact ⟨ret_bool HG.out, ht⟩
set_option maxRecDepth 100000 in
theorem outsides_any (B : Nat) (A : Option Addr) (c : Nat) (l : List Pin) (w : World) (hI : InsAt w B A l) (hm : l.length ≤ maxLen) :
    Calls Tryd.prog 59 #[.slice A l.length c, .func (.func 60) #[] #[]] w fun e w' => e = .returned (.bool (l.any outB)) ∧ Turn (fun _ => False) w w' :=
  containsFunc_any 60 #[] outB B A c l w (fun _ _ => by kernel_rfl) hI hm (fun wr k p S cp _ hok _ => outside_any p S cp wr hok)
set_option maxRecDepth 100000 in
theorem aheads_any (q : Pin) (S' : Option Addr) (c' b : Nat) (B : Nat) (A : Option Addr) (c : Nat) (l : List Pin) (w : World) (hq : q.ok) (hb : w.heap[b]? = some (.cells (q.cells S' c').toArray 58 (0, 0))) (hI : InsAt w B A l) (hm : l.length ≤ maxLen) :
    Calls Tryd.prog 59 #[.slice A l.length c, .func (.func 61) #[] #[.pointer (some ⟨b, 0, none⟩)]] w fun e w' => e = .returned (.bool (l.any fun p => samePt p q)) ∧ Turn (fun _ => False) w w' :=
  containsFunc_any 61 #[.pointer (some ⟨b, 0, none⟩)] (fun p => samePt p q) B A c l w (fun _ _ => by kernel_rfl) hI hm (fun wr k p S cp _ hok ht => twice1_any q p S S' cp c' b wr hq hok (ht.heap hb (fun h => h)))

end
section
set_option linter.unusedVariables false
set_option linter.unusedSimpArgs false

open Go.RowKit
def cntB (t : Ptx) : Prop := 1 ≤ t.ins.length ∧ t.ins.length ≤ 16 ∧ 1 ≤ t.outs.length ∧ t.outs.length ≤ 16
set_option maxRecDepth 100000 in
theorem withinB_no1 {t : Ptx} (h : ¬ (1 ≤ t.ins.length ∧ t.ins.length ≤ 16 ∧ 1 ≤ t.outs.length ∧ t.outs.length ≤ 16 ∧ 0 ≤ t.exp ∧ t.exp ≤ 1099511627776)) : withinB t = false := by
  unfold withinB; rw [decide_eq_false h]; rfl
set_option maxRecDepth 100000 in
theorem withinB_yes1 {t : Ptx} (h : 1 ≤ t.ins.length ∧ t.ins.length ≤ 16 ∧ 1 ≤ t.outs.length ∧ t.outs.length ≤ 16 ∧ 0 ≤ t.exp ∧ t.exp ≤ 1099511627776) : withinB t = !(t.ins.any outB) := by
  unfold withinB; rw [decide_eq_true h]; rfl
set_option maxRecDepth 100000 in
theorem within_any (Ai Ao : Option Addr) (ci co B : Nat) (t : Ptx) (w : World) (h : TxAt w B Ai ci Ao co t) :
    Calls Tryd.prog 48 #[txV Ai ci Ao co t] w fun e w' => e = .returned (.bool (withinB t)) ∧ Turn (fun _ => False) w w' := by
  have im := h.im
  have om := h.om
  unfold maxLen at im om
  have x0 := h.x0
  have x1 := h.x1
  have HC := Lib.hid (fun w' (k : Turn (fun _ => False) w w') => outsides_any B Ai ci t.ins w' (h.ins.turn k (fun _ _ h => h)) h.im)
  by_cases hc : 1 ≤ t.ins.length ∧ t.ins.length ≤ 16 ∧ 1 ≤ t.outs.length ∧ t.outs.length ≤ 16
  · by_cases hx : 0 ≤ t.exp ∧ t.exp ≤ 1099511627776
    · have HW := Lib.hid (withinB_yes1 (t := t) ⟨hc.1, hc.2.1, hc.2.2.1, hc.2.2.2, hx.1, hx.2⟩)
      obtain ⟨h1, h2, h3, h4⟩ := hc
      obtain ⟨h5, h6⟩ := hx
      unfold txV
      generalize t.ins.length = n at *
      generalize t.outs.length = m at *
      generalize t.exp = x at *
      generalize t.fee = f at *
      generalize t.ins.any outB = ab at *
      have e1 : ¬ (n : Int) < 1 := by omega
      have e2 : ¬ (16 : Int) < (n : Int) := by omega
      have e3 : ¬ (m : Int) < 1 := by omega
      have e4 : ¬ (16 : Int) < (m : Int) := by omega
      clear h
      go_enter Tryd.func48, Tryd.ntmps48
      go_wp2_with (go_at_call 59; refine (HC.out _ ((Turn.refl _ w).alloc _)).mono ?_; rintro r w1 ⟨rfl, ht⟩; have HT := Lib.hid ht; clear ht)
      go_ret
      exact ⟨ret_bool HW.out.symm, ((Turn.refl _ w).alloc _).trans HT.out (fun _ _ h => h)⟩
    · have HW := Lib.hid (withinB_no1 (t := t) (fun k => hx ⟨k.2.2.2.2.1, k.2.2.2.2.2⟩))
      obtain ⟨h1, h2, h3, h4⟩ := hc
      have HX := Lib.hid hx
      unfold txV
      generalize t.ins.length = n at *
      generalize t.outs.length = m at *
      generalize t.exp = x at *
      generalize t.fee = f at *
      have e1 : ¬ (n : Int) < 1 := by omega
      have e2 : ¬ (16 : Int) < (n : Int) := by omega
      have e3 : ¬ (m : Int) < 1 := by omega
      have e4 : ¬ (16 : Int) < (m : Int) := by omega
      by_cases h5 : 0 ≤ x
      · have h6 : ¬ x ≤ 1099511627776 := fun k => hx ⟨h5, k⟩
        clear h hx
        go_enter Tryd.func48, Tryd.ntmps48
        go_wp2
        go_ret
        exact ⟨ret_bool HW.out.symm, ((Turn.refl _ w).alloc _)⟩
      · clear h hx
        go_enter Tryd.func48, Tryd.ntmps48
        go_wp2
        go_ret
        exact ⟨ret_bool HW.out.symm, ((Turn.refl _ w).alloc _)⟩
  · have HW := Lib.hid (withinB_no1 (t := t) (fun k => hc ⟨k.1, k.2.1, k.2.2.1, k.2.2.2.1⟩))
    have HX := Lib.hid hc
    unfold txV
    generalize t.ins.length = n at *
    generalize t.outs.length = m at *
    generalize t.exp = x at *
    generalize t.fee = f at *
    have hT : (decide ((n : Int) < 1) || decide ((16 : Int) < n) || decide ((m : Int) < 1) || decide ((16 : Int) < m)) = true := by simp; omega
    clear h hc
    go_enter Tryd.func48, Tryd.ntmps48
    go_wp2
    all_goals
      first
        | (go_ret; exact ⟨ret_bool HW.out.symm, ((Turn.refl _ w).alloc _)⟩)
        | (exfalso; have := HX.out; omega)

end
section
set_option linter.unusedVariables false
set_option linter.unusedSimpArgs false

open Go.RowKit
def twAt (l : List Pin) (i : Nat) : Bool := match l[i]? with | some p => (l.take i).any fun q => samePt q p | none => false
set_option maxRecDepth 100000 in
theorem twiceB_eq (l : List Pin) : twiceB l = (List.range l.length).any (twAt l) := rfl
set_option maxRecDepth 100000 in
theorem twAt_at {l : List Pin} {k : Nat} (h : k < l.length) : twAt l k = (l.take k).any fun q => samePt q l[k] := by
  unfold twAt; rw [List.getElem?_eq_getElem h]
set_option maxRecDepth 100000 in
theorem twiceB_hit {l : List Pin} {k : Nat} (h : k < l.length) (h1 : twAt l k = true) : twiceB l = true := by
  rw [twiceB_eq, List.any_eq_true]; exact ⟨k, by simpa using h, h1⟩
set_option maxRecDepth 100000 in
theorem range_any_succ (g : Nat → Bool) (k : Nat) (h : (List.range k).any g = false) (h1 : g k = false) : (List.range (k + 1)).any g = false := by
  rw [List.range_succ, List.any_append, h]; simp [h1]
set_option maxRecDepth 100000 in
theorem zero_in (w : World) : (zeroValue 58).run Tryd.prog w = .ok (.agg (Pin.cells ⟨zeros 32, 0, 0, []⟩ none 0).toArray) w := by kernel_rfl
def ZIn : Array Value := (Pin.cells ⟨zeros 32, 0, 0, []⟩ none 0).toArray
set_option maxRecDepth 100000 in
theorem slice_ins (A : Option Addr) (len cap n : Nat) (h : n ≤ len) (hc : len ≤ cap) (w : World) : (Instr.slice 31 (.slice A len cap) none (some (.int .i64 (n : Int))) none).run Tryd.prog w = .ok (.slice A n cap) w := by
  rw [run_slice_h (P := Tryd.prog) w 31 A len cap (by kernel_rfl) .i64 (n : Int) (by omega) (by omega)]
  rw [show Tryd.prog.elem 31 = 58 by kernel_rfl, show (sizeOf 58).run Tryd.prog w = .ok 35 w by kernel_rfl]
  simp [Result.andThen, sliced]
  cases A with
  | none => simp
  | some a => simp [Addr.add]
set_option maxRecDepth 100000 in
set_option maxHeartbeats 1000000 in
theorem twice_any (B : Nat) (A : Option Addr) (c : Nat) (l : List Pin) (w : World) (hI : InsAt w B A l) (hc : l.length ≤ c) (hm : l.length ≤ maxLen) :
    Calls Tryd.prog 49 #[.slice A l.length c] w fun e w' => e = .returned (.bool (twiceB l)) ∧ Turn (fun _ => False) w w' := by
  have hmm := hm
  unfold maxLen at hmm
  have hmf : ∀ (fn : Fn) (first cap : Array Value) (w : World), (Instr.makeFunc fn first cap).run Tryd.prog w = .ok (.func fn first cap) w := fun _ _ _ _ => rfl
  have HI := Lib.hid hI
  have HM := Lib.hid hm
  have HC := Lib.hid hc
  have HE := Lib.hid (twiceB_eq l)
  have hzd := zero_in
  change ∀ w, _ = Result.ok (Value.agg ZIn) w at hzd
  clear hI hm hc
  go_enter Tryd.func49, Tryd.ntmps49
  go_wp2
  go_loopw [7] (fun i wr => ∃ k : Nat, k ≤ l.length ∧ i = .int .i64 k ∧ (List.range k).any (twAt l) = false ∧ Turn (fun _ => False) w wr) (fun i _ => l.length - (intOf i).toNat)
  case atStart => exact ⟨0, Nat.zero_le _, rfl, rfl, Turn.refl _ _⟩
  case round =>
    obtain ⟨k, hk, rfl, ha, ht⟩ := hrel
    by_cases hlt : k < l.length
    · have hlk := List.getElem?_eq_getElem hlt
      obtain ⟨hok, b, o, S, cp, rfl, hb, hs, hr⟩ := HI.out k l[k] hlk
      have hr1 := ht.range hr (fun h => h)
      have HTA := Lib.hid (twAt_at hlt)
      have HHIT := Lib.hid (fun h1 => twiceB_hit hlt h1)
      have HNX := Lib.hid (fun h1 => range_any_succ (twAt l) k ha h1)
      obtain ⟨p, hp⟩ : ∃ p, p = l[k] := ⟨_, rfl⟩
      rw [← hp] at hok hr1 hlk HTA
      have HL := Lib.hid (show (Tryd.prog.info? 58).map (·.size) = some (p.cells S cp).length by rw [p.len S cp hok.d]; kernel_rfl)
      obtain ⟨D, hD⟩ : ∃ D, D = (p.cells S cp).toArray := ⟨_, rfl⟩
      have sD : D.size = 35 := by rw [hD, List.size_toArray, p.len S cp hok.d]
      have H1 := Lib.hid (show (Tryd.prog.info? 58).map (·.size) = some D.size by rw [sD]; kernel_rfl)
      have H2 := Lib.hid (show ZIn.size = D.size by rw [sD]; rfl)
      have H3 := Lib.hid (show D.all (·.oneCell') = true by rw [hD]; exact p.one S cp)
      have HR := Lib.hid hr1
      have HT := Lib.hid (ht.alloc (.cells D 58))
      have HA := Lib.hid (show Calls Tryd.prog 59 #[.slice (some ⟨b, o, none⟩) k c, .func (.func 61) #[] #[.pointer (some ⟨wr.heap.size, 0, none⟩)]] (wr.alloc (.cells D 58)) fun e w' => e = .returned (.bool (twAt l k)) ∧ Turn (fun _ => False) (wr.alloc (.cells D 58)) w' by
        have h := aheads_any p S cp wr.heap.size B (some ⟨b, o, none⟩) c (l.take k) (wr.alloc (.cells D 58)) hok (by rw [hD]; exact heap_alloc_new wr _) ((HI.out.turn (ht.alloc _) (fun _ _ h => h)).take k) (by rw [List.length_take]; have := HM.out; omega)
        rw [List.length_take, Nat.min_eq_left (by omega), ← HTA.out] at h
        exact h)
      have r1 := slice_ins (some ⟨b, o, none⟩) l.length c k hk HC.out
      have HDD := Lib.hid hD
      clear hr hr1 hok hp hs ha hlk ht hD sD
      go_wp2_with (first
        | (refine wpList_load_mid (op := ⟨some 11, _, _, _, _, _⟩) rfl _ _ rfl b (o + k * 35) rfl (p.cells S cp) _ HR.out Tryd.underlying58 rfl HL.out ?_; rw [← HDD.out])
        | (refine wpList_store_row rfl _ _ _ rfl wr.heap.size D rfl rfl 58 _ (heap_alloc_new wr _) H1.out H2.out H3.out ?_; rw [World.setRow_alloc_new]))
      refine HA.out.mono ?_
      rintro r w2 ⟨rfl, ht2⟩
      have HT2 := Lib.hid (HT.out.trans ht2 (fun _ _ h => h))
      clear ht2 r1
      cases hg : twAt l k
      · have HM := Lib.hid (HNX.out hg)
        clear hg
        go_wp2
        go_roundw
        case rel => exact ⟨k + 1, by omega, by go_num, HM.out, HT2.out⟩
        case measure => simp [intOf]; omega
      · have HM := Lib.hid (HHIT.out hg)
        clear hg
        go_wp2
        go_ret
        exact ⟨ret_bool HM.out.symm, HT2.out⟩
    · obtain rfl : k = l.length := by omega
      have HN := Lib.hid ha
      clear ha
      go_wp2
      go_ret
      exact ⟨ret_bool (by rw [HE.out, HN.out]), ht⟩

end
section
set_option linter.unusedVariables false
set_option linter.unusedSimpArgs false

open Go.RowKit
set_option maxRecDepth 100000 in
theorem info_u64 : (Tryd.prog.info? 33).map (fun i => (i.zero, i.size, i.bytes)) = some (some (.int .u64 0), 1, 8) := by kernel_rfl
def rowI (ns : List Nat) (k : Nat) : List Value := u64s (ns.take k) ++ List.replicate (ns.length - k) (.int .u64 0)
set_option maxRecDepth 100000 in
theorem rowI_zero (ns : List Nat) : rowI ns 0 = List.replicate ns.length (.int .u64 0) := by simp [rowI, u64s]
set_option maxRecDepth 100000 in
theorem rowI_end (ns : List Nat) : rowI ns ns.length = u64s ns := by simp [rowI]
set_option maxRecDepth 100000 in
theorem rowI_set (ns : List Nat) (k : Nat) (h : k < ns.length) : (rowI ns k).set k (.int .u64 ((ns[k] : Nat) : Int)) = rowI ns (k + 1) := by
  unfold rowI
  have e : ns.length - k = (ns.length - (k + 1)) + 1 := by omega
  have hl : (u64s (ns.take k)).length = k := by simp [u64s]; omega
  rw [e, List.replicate_succ, List.set_append_right _ _ (by rw [hl]; omega), hl, Nat.sub_self, List.set_cons_zero, List.take_succ_eq_append_getElem h]
  unfold u64s
  simp only [List.map_append, List.map_cons, List.map_nil, List.append_assoc, List.cons_append, List.nil_append]
set_option maxRecDepth 100000 in
theorem rowI_at (ns : List Nat) (k : Nat) (h : k < ns.length) : (rowI ns k)[k]? = some (.int .u64 0) := by
  unfold rowI
  have hl : (u64s (ns.take k)).length = k := by simp [u64s]; omega
  rw [List.getElem?_append_right (by rw [hl]; omega), hl, Nat.sub_self, List.getElem?_replicate, if_pos (by omega)]
set_option maxRecDepth 100000 in
set_option maxHeartbeats 1000000 in
theorem insAmounts_any (B : Nat) (A : Option Addr) (c : Nat) (l : List Pin) (w : World) (hI : InsAt w B A l) (hm : l.length ≤ 1099511627776) :
    Calls Tryd.prog 50 #[.slice A l.length c] w fun e w' => e = .returned (.slice (some ⟨w.heap.size, 0, none⟩) l.length l.length) ∧ w'.ownsRow w.heap.size 33 1 (.slice (some ⟨w.heap.size, 0, none⟩) l.length l.length) l.length (u64s (insN l)) ∧ Turn (fun _ => False) w w' := by
  obtain ⟨i0, hi, hz0, hz1, hz2⟩ := info_parts info_u64
  have HI := Lib.hid hI
  have hzd := zero_in
  change ∀ w, _ = Result.ok (Value.agg ZIn) w at hzd
  have HN := Lib.hid (show (insN l).length = l.length by simp [insN])
  clear hI
  go_enter Tryd.func50, Tryd.ntmps50
  go_wp2_with (at_make; refine wpList_make_full _ rfl _ _ 64 rfl w.heap.size 33 i0 (.int .u64 0) 1 Tryd.underlying64 hi hz0 hz1 _ _ _ _ l.length rfl rfl rfl rfl ?b2 ?b3 ?b4 ?_)
  case b2 => rw [hz2]; omega
  case b3 => unfold maxLen; omega
  case b4 => simp
  intro w0 hown0 hgrow0
  have e0 : (madeCells #[.int .u64 0] l.length).toList = rowI (insN l) 0 := by
    rw [rowI_zero, HN.out]; exact toList_madeCells_one _ _
  rw [e0] at hown0
  clear e0
  have HO0 := Lib.hid hown0
  have HT0 := Lib.hid (show Turn (fun _ => False) w w0 from (Turn.refl _ w).grown hgrow0 (fun _ _ e => by cases e))
  clear hown0 hgrow0
  go_wp2
  go_loopw [11] (fun i wr => ∃ k : Nat, k ≤ l.length ∧ i = .int .i64 k ∧ wr.ownsRow w.heap.size 33 1 (.slice (some ⟨w.heap.size, 0, none⟩) l.length l.length) l.length (rowI (insN l) k) ∧ Turn (fun _ => False) w wr) (fun i _ => l.length - (intOf i).toNat)
  case atStart => exact ⟨0, Nat.zero_le _, rfl, by simpa using HO0.out, HT0.out⟩
  case round =>
    clear HO0 HT0
    obtain ⟨k, hk, rfl, hown, ht⟩ := hrel
    by_cases hlt : k < l.length
    · have hlk := List.getElem?_eq_getElem hlt
      obtain ⟨hok, b, o, S, cp, rfl, hb, hs, hr⟩ := HI.out k l[k] hlk
      have hr1 := ht.range hr (fun h => h)
      have hln : k < (insN l).length := by rw [HN.out]; exact hlt
      have hnk : (insN l)[k] = l[k].n := by simp [insN]
      obtain ⟨p, hp⟩ : ∃ p, p = l[k] := ⟨_, rfl⟩
      rw [← hp] at hok hr1 hlk hnk
      have HSET := Lib.hid (rowI_set (insN l) k hln)
      have HAT := Lib.hid (rowI_at (insN l) k hln)
      rw [hnk] at HSET
      have HL := Lib.hid (show (Tryd.prog.info? 58).map (·.size) = some (p.cells S cp).length by rw [p.len S cp hok.d]; kernel_rfl)
      obtain ⟨D, hD⟩ : ∃ D, D = (p.cells S cp).toArray := ⟨_, rfl⟩
      have sD : D.size = 35 := by rw [hD, List.size_toArray, p.len S cp hok.d]
      have H1 := Lib.hid (show (Tryd.prog.info? 58).map (·.size) = some D.size by rw [sD]; kernel_rfl)
      have H2 := Lib.hid (show ZIn.size = D.size by rw [sD]; rfl)
      have H3 := Lib.hid (show D.all (·.oneCell') = true by rw [hD]; exact p.one S cp)
      have HR := Lib.hid hr1
      have cn : (wr.alloc (.cells D 58)).cell? ⟨wr.heap.size, 33, none⟩ = some (.int .u64 (p.n : Int)) := by
        rw [cell_of_row _ _ _ _ _ _ (heap_alloc_new wr _), hD, List.getElem?_toArray]; exact (p.at S cp hok.d).2.1
      have hown2 := hown.alloc (.cells D 58)
      have ck : (wr.alloc (.cells D 58)).cell? ⟨w.heap.size, k, none⟩ = some (.int .u64 0) := by
        rw [hown2.cellAt k (by omega)]; exact HAT.out
      have fk := hown2.frozenAt k
      have HO2 := Lib.hid hown2
      have HT2 := Lib.hid (ht.alloc (.cells D 58))
      have HDD := Lib.hid hD
      have hn64 := hok.n
      generalize p.n = pn at *
      clear hr hr1 hok hp hs hlk ht hD sD hown hown2 hnk
      go_wp2_with (first
        | (refine wpList_load_mid (op := ⟨some 15, _, _, _, _, _⟩) rfl _ _ rfl b (o + k * 35) rfl (p.cells S cp) _ HR.out Tryd.underlying58 rfl HL.out ?_; rw [← HDD.out])
        | (refine wpList_store_row (o := ⟨none, .store 58 _ _, _, _, _, _⟩) rfl _ _ _ rfl wr.heap.size D rfl rfl 58 _ (heap_alloc_new wr _) H1.out H2.out H3.out ?_; rw [World.setRow_alloc_new]))
      go_roundw
      case rel => exact ⟨k + 1, by omega, by go_num, by
          have h := (HO2.out.stored k (.int .u64 (pn : Int))).1
          rw [HSET.out] at h
          exact h, HT2.out.setCell ⟨w.heap.size, k, none⟩ _ (fun h => by exact absurd h (Nat.lt_irrefl _))⟩
      case measure => simp [intOf]; omega
    · obtain rfl : k = l.length := by omega
      have HE := Lib.hid (show rowI (insN l) l.length = u64s (insN l) by rw [← HN.out]; exact rowI_end _)
      rw [HE.out] at hown
      have HO := Lib.hid hown
      clear hown
      go_wp2
      go_ret
      exact ⟨rfl, HO.out, ht⟩
set_option maxRecDepth 100000 in
theorem zero_out (w : World) : (zeroValue 60).run Tryd.prog w = .ok (.agg (Pout.cells ⟨zeros 32, 0⟩).toArray) w := by kernel_rfl
def ZOut : Array Value := (Pout.cells ⟨zeros 32, 0⟩).toArray
set_option maxRecDepth 100000 in
set_option maxHeartbeats 1000000 in
theorem outsAmounts_any (B : Nat) (A : Option Addr) (c : Nat) (l : List Pout) (w : World) (hI : OutsAt w B A l) (hm : l.length ≤ 1099511627776) :
    Calls Tryd.prog 51 #[.slice A l.length c] w fun e w' => e = .returned (.slice (some ⟨w.heap.size, 0, none⟩) l.length l.length) ∧ w'.ownsRow w.heap.size 33 1 (.slice (some ⟨w.heap.size, 0, none⟩) l.length l.length) l.length (u64s (outsN l)) ∧ Turn (fun _ => False) w w' := by
  obtain ⟨i0, hi, hz0, hz1, hz2⟩ := info_parts info_u64
  have HI := Lib.hid hI
  have hzd := zero_out
  change ∀ w, _ = Result.ok (Value.agg ZOut) w at hzd
  have HN := Lib.hid (show (outsN l).length = l.length by simp [outsN])
  clear hI
  go_enter Tryd.func51, Tryd.ntmps51
  go_wp2_with (at_make; refine wpList_make_full _ rfl _ _ 64 rfl w.heap.size 33 i0 (.int .u64 0) 1 Tryd.underlying64 hi hz0 hz1 _ _ _ _ l.length rfl rfl rfl rfl ?b2 ?b3 ?b4 ?_)
  case b2 => rw [hz2]; omega
  case b3 => unfold maxLen; omega
  case b4 => simp
  intro w0 hown0 hgrow0
  have e0 : (madeCells #[.int .u64 0] l.length).toList = rowI (outsN l) 0 := by
    rw [rowI_zero, HN.out]; exact toList_madeCells_one _ _
  rw [e0] at hown0
  clear e0
  have HO0 := Lib.hid hown0
  have HT0 := Lib.hid (show Turn (fun _ => False) w w0 from (Turn.refl _ w).grown hgrow0 (fun _ _ e => by cases e))
  clear hown0 hgrow0
  go_wp2
  go_loopw [11] (fun i wr => ∃ k : Nat, k ≤ l.length ∧ i = .int .i64 k ∧ wr.ownsRow w.heap.size 33 1 (.slice (some ⟨w.heap.size, 0, none⟩) l.length l.length) l.length (rowI (outsN l) k) ∧ Turn (fun _ => False) w wr) (fun i _ => l.length - (intOf i).toNat)
  case atStart => exact ⟨0, Nat.zero_le _, rfl, by simpa using HO0.out, HT0.out⟩
  case round =>
    clear HO0 HT0
    obtain ⟨k, hk, rfl, hown, ht⟩ := hrel
    by_cases hlt : k < l.length
    · have hlk := List.getElem?_eq_getElem hlt
      obtain ⟨hok, b, o, rfl, hb, hr⟩ := HI.out k l[k] hlk
      have hr1 := ht.range hr (fun h => h)
      have hln : k < (outsN l).length := by rw [HN.out]; exact hlt
      have hnk : (outsN l)[k] = l[k].n := by simp [outsN]
      obtain ⟨p, hp⟩ : ∃ p, p = l[k] := ⟨_, rfl⟩
      rw [← hp] at hok hr1 hlk hnk
      have HSET := Lib.hid (rowI_set (outsN l) k hln)
      have HAT := Lib.hid (rowI_at (outsN l) k hln)
      rw [hnk] at HSET
      have HL := Lib.hid (show (Tryd.prog.info? 60).map (·.size) = some (p.cells).length by rw [p.len hok.d]; kernel_rfl)
      obtain ⟨D, hD⟩ : ∃ D, D = (p.cells).toArray := ⟨_, rfl⟩
      have sD : D.size = 33 := by rw [hD, List.size_toArray, p.len hok.d]
      have H1 := Lib.hid (show (Tryd.prog.info? 60).map (·.size) = some D.size by rw [sD]; kernel_rfl)
      have H2 := Lib.hid (show ZOut.size = D.size by rw [sD]; rfl)
      have H3 := Lib.hid (show D.all (·.oneCell') = true by rw [hD]; exact p.one)
      have HR := Lib.hid hr1
      have cn : (wr.alloc (.cells D 60)).cell? ⟨wr.heap.size, 32, none⟩ = some (.int .u64 (p.n : Int)) := by
        rw [cell_of_row _ _ _ _ _ _ (heap_alloc_new wr _), hD, List.getElem?_toArray]; exact p.at hok.d
      have hown2 := hown.alloc (.cells D 60)
      have ck : (wr.alloc (.cells D 60)).cell? ⟨w.heap.size, k, none⟩ = some (.int .u64 0) := by
        rw [hown2.cellAt k (by omega)]; exact HAT.out
      have fk := hown2.frozenAt k
      have HO2 := Lib.hid hown2
      have HT2 := Lib.hid (ht.alloc (.cells D 60))
      have HDD := Lib.hid hD
      have hn64 := hok.n
      generalize p.n = pn at *
      clear hr hr1 hok hp hlk ht hD sD hown hown2 hnk
      go_wp2_with (first
        | (refine wpList_load_mid (op := ⟨some 15, _, _, _, _, _⟩) rfl _ _ rfl b (o + k * 33) rfl (p.cells) _ HR.out Tryd.underlying60 rfl HL.out ?_; rw [← HDD.out])
        | (refine wpList_store_row (o := ⟨none, .store 60 _ _, _, _, _, _⟩) rfl _ _ _ rfl wr.heap.size D rfl rfl 60 _ (heap_alloc_new wr _) H1.out H2.out H3.out ?_; rw [World.setRow_alloc_new]))
      go_roundw
      case rel => exact ⟨k + 1, by omega, by go_num, by
          have h := (HO2.out.stored k (.int .u64 (pn : Int))).1
          rw [HSET.out] at h
          exact h, HT2.out.setCell ⟨w.heap.size, k, none⟩ _ (fun h => by exact absurd h (Nat.lt_irrefl _))⟩
      case measure => simp [intOf]; omega
    · obtain rfl : k = l.length := by omega
      have HE := Lib.hid (show rowI (outsN l) l.length = u64s (outsN l) by rw [← HN.out]; exact rowI_end _)
      rw [HE.out] at hown
      have HO := Lib.hid hown
      clear hown
      go_wp2
      go_ret
      exact ⟨rfl, HO.out, ht⟩

end
section
set_option linter.unusedVariables false
set_option linter.unusedSimpArgs false

open Go.RowKit
def idxN (x : Nat) (l : List Nat) : Int := if x ∈ l then (l.findIdx (· == x) : Int) else -1
set_option maxRecDepth 100000 in
theorem idxN_hit {x : Nat} {l : List Nat} {k : Nat} (hk : k < l.length) (h0 : ¬ x ∈ l.take k) (h1 : l[k] = x) : (k : Int) = idxN x l := by
  have ha : x ∈ l := by rw [← h1]; exact List.getElem_mem hk
  unfold idxN
  rw [if_pos ha]
  congr 1
  refine ((List.findIdx_eq hk).2 ⟨by simp [h1], fun j hj => ?_⟩).symm
  by_cases he : l[j]'(by omega) = x
  · exact absurd (by rw [← he, List.mem_take_iff_getElem]; exact ⟨j, by omega, rfl⟩) h0
  · simp [he]
set_option maxRecDepth 100000 in
theorem idxN_none {x : Nat} {l : List Nat} (h : ¬ x ∈ l) : (-1 : Int) = idxN x l := by unfold idxN; rw [if_neg h]
set_option maxRecDepth 100000 in
theorem idxN_ge (x : Nat) (l : List Nat) : decide (0 ≤ idxN x l) = decide (x ∈ l) := by
  unfold idxN
  by_cases h : x ∈ l <;> simp [h]
set_option maxRecDepth 100000 in
theorem mem_take_succ {x : Nat} {l : List Nat} {k : Nat} (hk : k < l.length) (h0 : ¬ x ∈ l.take k) (h1 : ¬ l[k] = x) : ¬ x ∈ l.take (k + 1) := by
  rw [List.take_succ_eq_append_getElem hk, List.mem_append]
  rintro (h | h)
  · exact h0 h
  · simp at h; exact h1 h.symm
set_option maxRecDepth 100000 in
theorem index_any (x : Nat) (A : Option Addr) (c B : Nat) (l : List Nat) (w : World) (hs : Sl w B A (u64s l)) (hm : l.length ≤ maxLen) :
    Calls Tryd.prog 62 #[.slice A l.length c, .int .u64 (x : Int)] w fun e w' => e = .returned (.int .i64 (idxN x l)) ∧ w = w' := by
  unfold maxLen at hm
  have HS := Lib.hid hs
  clear hs
  go_enter Tryd.func62, Tryd.ntmps62
  go_wp2
  go_loop [8] (fun i => ∃ k : Nat, k ≤ l.length ∧ i = .int .i64 k ∧ ¬ x ∈ l.take k) (fun i => l.length - (intOf i).toNat)
  case atStart => exact ⟨0, Nat.zero_le _, rfl, by simp⟩
  case round =>
    obtain ⟨k, hk, rfl, ha⟩ := hrel
    by_cases hlt : k < l.length
    · obtain ⟨ad, rfl, _, hc⟩ := HS.out.at (u64s_at l k hlt)
      have HIT := Lib.hid (fun h1 => idxN_hit hlt ha h1)
      have HMS := Lib.hid (fun h1 => mem_take_succ hlt ha h1)
      clear ha
      by_cases hx : l[k] = x
      · have HM := Lib.hid (HIT.out hx)
        have ht : ((x : Int) == ((l[k] : Nat) : Int)) = true := by rw [hx]; simp
        generalize l[k] = z at *
        clear hx HIT HMS
        go_wp2
        go_ret
        exact ⟨ret_int HM.out, rfl⟩
      · have HM := Lib.hid (HMS.out hx)
        have ht : ((x : Int) == ((l[k] : Nat) : Int)) = false := by simp; omega
        generalize l[k] = z at *
        clear hx HIT HMS
        go_wp2
        go_round
        case rel => exact ⟨k + 1, by omega, by go_num, HM.out⟩
        case measure => simp [intOf]; omega
    · obtain rfl : k = l.length := by omega
      rw [List.take_length] at ha
      have HN := Lib.hid (idxN_none ha)
      clear ha
      go_wp2
      go_ret
      exact ⟨ret_int HN.out, rfl⟩
set_option maxRecDepth 100000 in
theorem contains_any (x : Nat) (A : Option Addr) (c B : Nat) (l : List Nat) (w : World) (hs : Sl w B A (u64s l)) (hm : l.length ≤ maxLen) :
    Calls Tryd.prog 52 #[.slice A l.length c, .int .u64 (x : Int)] w fun e w' => e = .returned (.bool (decide (x ∈ l))) ∧ w = w' := by
  have C := Lib.hid (index_any x A c B l w hs hm)
  have HG := Lib.hid (idxN_ge x l)
  clear hs
  generalize idxN x l = z at *
  go_enter Tryd.func52, Tryd.ntmps52
  go_wp2_with (go_at_call 62; refine C.out.mono ?_; rintro r w1 ⟨rfl, rfl⟩)
  go_ret
  exact ⟨ret_bool HG.out, rfl⟩
set_option maxRecDepth 100000 in
theorem balance_any (A A' : Option Addr) (c c' B B' : Nat) (a b : List Nat) (n m : Nat) (w : World) (hs : Sl w B A (u64s a)) (hs' : Sl w B' A' (u64s b)) (hm : a.length ≤ maxLen) (hm' : b.length ≤ maxLen) (hn : a.length = n) (hn' : b.length = m) (hw : ∀ x ∈ a, x < 18446744073709551616) (hw' : ∀ x ∈ b, x < 18446744073709551616) :
    Calls Tryd.prog 53 #[.slice A n c, .slice A' m c'] w fun e w' => e = .returned (.int .i64 ((balE a b : Nat) : Int)) ∧ w = w' := by
  subst hn hn'
  have C1 := all_any A c B a w hs hm hw
  have C2 := all_any A' c' B' b w hs' hm' hw'
  have hb : balE a b = if (allV 0 a).2 ≠ 0 then (allV 0 a).2 else if (allV 0 b).2 ≠ 0 then (allV 0 b).2 else if (allV 0 a).1 ≠ (allV 0 b).1 then 9 else 0 := rfl
  generalize balE a b = z at *
  generalize (allV 0 a).1 = a1 at *
  generalize (allV 0 a).2 = a2 at *
  generalize (allV 0 b).1 = b1 at *
  generalize (allV 0 b).2 = b2 at *
  have HB := Lib.hid hb
  have D1 := Lib.hid C1
  have D2 := Lib.hid C2
  clear hb C1 C2 hs hs' hw hw'
  by_cases h1 : a2 ≠ 0
  · have t1 : ((a2 : Int) != 0) = true := by simp; omega
    have HZ := Lib.hid (show ((a2 : Nat) : Int) = z by rw [HB.out, if_pos h1])
    clear h1
    go_enter Tryd.func53, Tryd.ntmps53
    go_wp2_with fail
    refine D1.out.mono ?_
    rintro r w1 ⟨rfl, rfl⟩
    go_wp2
    go_ret
    exact ⟨ret_int HZ.out, rfl⟩
  · have t1 : ((a2 : Int) != 0) = false := by simp; omega
    by_cases h2 : b2 ≠ 0
    · have t2 : ((b2 : Int) != 0) = true := by simp; omega
      have HZ := Lib.hid (show ((b2 : Nat) : Int) = z by rw [HB.out, if_neg h1, if_pos h2])
      clear h1 h2
      go_enter Tryd.func53, Tryd.ntmps53
      go_wp2_with fail
      refine D1.out.mono ?_
      rintro r w1 ⟨rfl, rfl⟩
      go_wp2_with fail
      refine D2.out.mono ?_
      rintro r w1 ⟨rfl, rfl⟩
      go_wp2
      go_ret
      exact ⟨ret_int HZ.out, rfl⟩
    · have t2 : ((b2 : Int) != 0) = false := by simp; omega
      by_cases h3 : a1 ≠ b1
      · have t3 : ((a1 : Int) != (b1 : Int)) = true := by simp; omega
        have HZ := Lib.hid (show (9 : Int) = z by rw [HB.out, if_neg h1, if_neg h2, if_pos h3]; rfl)
        clear h1 h2 h3
        go_enter Tryd.func53, Tryd.ntmps53
        go_wp2_with fail
        refine D1.out.mono ?_
        rintro r w1 ⟨rfl, rfl⟩
        go_wp2_with fail
        refine D2.out.mono ?_
        rintro r w1 ⟨rfl, rfl⟩
        go_wp2
        go_ret
        exact ⟨ret_int HZ.out, rfl⟩
      · have t3 : ((a1 : Int) != (b1 : Int)) = false := by simp; omega
        have HZ := Lib.hid (show (0 : Int) = z by rw [HB.out, if_neg h1, if_neg h2, if_neg h3]; rfl)
        clear h1 h2 h3
        go_enter Tryd.func53, Tryd.ntmps53
        go_wp2_with fail
        refine D1.out.mono ?_
        rintro r w1 ⟨rfl, rfl⟩
        go_wp2_with fail
        refine D2.out.mono ?_
        rintro r w1 ⟨rfl, rfl⟩
        go_wp2
        go_ret
        exact ⟨ret_int HZ.out, rfl⟩

end
section
set_option linter.unusedVariables false
set_option linter.unusedSimpArgs false

open Go.RowKit
set_option maxRecDepth 100000 in
theorem zeroB_eq (l : List Nat) : decide (0 ∈ l) = zeroB l := by
  unfold zeroB
  rw [Bool.eq_iff_iff]
  simp
section
variable {w : World}
set_option maxRecDepth 100000 in
/-- Where there is no room a new block is made, and nothing turns. -/
theorem append_full (ty : TypeId) (base g n : Nat) (xs : List Value) (ho : w.ownsRow base 33 1 (.slice (some ⟨g, 0, none⟩) n n) n xs) (ad : Addr) (m c : Nat) (news : List Value) (hl : news.length = m)
    (hn : ∀ j u, news[j]? = some u → w.cell? (ad.add j) = some u) (hm : 0 < m) (hsm : n + m ≤ 1000001) (hbase : base ≤ w.heap.size) :
    ∃ v w', (Builtin.append_ #[64, 64] ty #[.slice (some ⟨g, 0, none⟩) n n, .slice (some ad) m c]).run Tryd.prog w = .ok v w' ∧ w'.ownsRow base 33 1 v (n + m) (xs ++ news) ∧ Below w.heap.size w w' := by
  obtain ⟨i, hi, hz, hs, hby⟩ := info_parts info_u64
  have holds : ∀ j u, xs[j]? = some u → w.cell? ((⟨g, 0, none⟩ : Addr).add j) = some u := ho.cells (g := g) rfl
  have hr := run_append_grow (P := Tryd.prog) w 64 ty 33 i (.int .u64 0) Tryd.underlying64 hi hz ⟨g, 0, none⟩ n n xs (by rw [hs]; exact ho.1) holds ad m c news (by rw [hs]; omega) hn (by omega) (by omega) (growslice_fits (by omega) (by rw [hby]; omega))
  have hge := grownCap_ge w (n + m) n 33
  have hcm := grownCap_le_maxLen w (n + m) n 33 (by unfold maxLen; omega)
  have h1 := ho.1
  have hlen : (xs ++ news).length = n + m := by rw [List.length_append]; omega
  refine ⟨_, _, hr, ⟨by omega, .inr ⟨w.heap.size, _, _, rfl, hbase, heap_alloc_new w.drew _, hge, hcm, ?_, ?_⟩⟩, ((Below.refl w.heap.size w).drew).alloc (Nat.le_refl _) _⟩
  · have hz32 : (Value.int .u64 0).cells.size = 1 := rfl
    simp only [Array.size_append, List.size_toArray, size_zeroCells, hz32]
    rw [← List.length_append, hlen]
    omega
  · simp only [Array.toList_append, List.append_assoc]
    rw [← List.append_assoc, Nat.mul_one, ← hlen]
    exact List.take_left
set_option maxRecDepth 100000 in
theorem wpList_append_full {ops : Array Oper} {rest : List Oper} {o : Oper} {a : Act} {Q : Exit → Act → World → Prop} (hgd : o.guard = none) (s x : Operand)
    (ho : o.op = .call { callee := .builtin .append, args := #[s, x], argTypes := #[64, 64] }) (base g n : Nat) (xs : List Value) (hs : a.eval s = .slice (some ⟨g, 0, none⟩) n n)
    (hown : w.ownsRow base 33 1 (.slice (some ⟨g, 0, none⟩) n n) n xs) (ad : Addr) (m c : Nat) (news : List Value) (hx : a.eval x = .slice (some ad) m c) (hl : news.length = m)
    (hn : ∀ j u, news[j]? = some u → w.cell? (ad.add j) = some u) (hm : 0 < m) (hsm : n + m ≤ 1000001) (hbase : base ≤ w.heap.size)
    (h : ∀ v' w', w'.ownsRow base 33 1 v' (n + m) (xs ++ news) → Below w.heap.size w w' → wpList Tryd.prog ops Q rest (a.put o.dst v') w') : wpList Tryd.prog ops Q (o :: rest) a w := by
  obtain ⟨v', w', hr, h2, h3⟩ := append_full o.type base g n xs hown ad m c news hl hn hm hsm hbase
  refine wpList_plain hgd fun K hK => ?_
  unfold Oper.wp execOp
  simp only [ho, resolve, invoke, builtin, Sem.run_bind, Sem.run_pure, Result.andThen_ok, List.map_toArray, List.map_cons, List.map_nil, hs, hx, hr]
  exact hK _ _ (h v' w' h2 h3)
end
set_option maxRecDepth 100000 in
theorem cls_load_cell {P : Program} {C : World → Prop} {o : Oper} {a : Act} {K : Act → Prop} (ty : TypeId) (x : Operand) (ho : o.op = .load ty x) (ad : Addr) (hx : a.eval x = .pointer (some ad)) (v : Value) (hr : ∀ w, w.cell? ad = some v → (Instr.loadAt ty (.pointer (some ad))).run P w = .ok v w)
    (hS : ∀ w, C w → w.cell? ad = some v) (hK : K (a.put o.dst v)) : o.quiet P a C K :=
  ⟨_, fun w hw => by
    unfold Oper.quietAt execOp
    simp only [ho, hx, Sem.run_bind, hr w (hS w hw), Result.andThen_ok, Sem.run_pure, Oper.quietUpon, and_self], hK⟩
def RowF (B n : Nat) (xs : List Value) (v : Value) (w : World) : Prop := ∃ g, v = .slice (some ⟨g, 0, none⟩) n n ∧ w.ownsRow B 33 1 v n xs
set_option maxRecDepth 100000 in
theorem RowF.stable {B n : Nat} {xs : List Value} (v : Value) (w w' : World) (h : RowF B n xs v w) (hs : Stp w w') : RowF B n xs v w' := by
  obtain ⟨g, e, ho⟩ := h
  exact ⟨g, e, own_below ho hs⟩
set_option maxRecDepth 100000 in
theorem RowF.sl {B n : Nat} {xs : List Value} {v : Value} {w : World} (h : RowF B n xs v w) : ∃ g, v = .slice (some ⟨g, 0, none⟩) n n ∧ Sl w w.heap.size (some ⟨g, 0, none⟩) xs := by
  obtain ⟨g, rfl, ho⟩ := h
  obtain ⟨A, c, e, hs, -⟩ := own_sl ho
  injection e with e1 e2 e3; subst e1
  exact ⟨g, rfl, hs⟩
set_option maxRecDepth 100000 in
theorem turn_stp {w w' : World} (h : Turn (fun _ => False) w w') : Stp w w' := h.below (fun _ _ h => h.elim) (Nat.le_refl _)
set_option maxRecDepth 100000 in
theorem u64s_lt {l : List Pin} (h : ∀ p ∈ l, p.n < 18446744073709551616) : ∀ x ∈ insN l, x < 18446744073709551616 := by
  intro x hx
  simp only [insN, List.mem_map] at hx
  obtain ⟨p, hp, rfl⟩ := hx
  exact h p hp
set_option maxRecDepth 100000 in
theorem InsAt.oks {w : World} {B : Nat} {A : Option Addr} {l : List Pin} (h : InsAt w B A l) : ∀ p ∈ l, p.ok := fun p hp => by
  obtain ⟨i, hi⟩ := List.getElem?_of_mem hp
  exact (h i p hi).1
set_option maxRecDepth 100000 in
theorem OutsAt.oks {w : World} {B : Nat} {A : Option Addr} {l : List Pout} (h : OutsAt w B A l) : ∀ p ∈ l, p.ok := fun p hp => by
  obtain ⟨i, hi⟩ := List.getElem?_of_mem hp
  exact (h i p hi).1
set_option maxRecDepth 100000 in
theorem within_len {t : Ptx} (h : withinB t = true) : t.ins.length ≤ 16 ∧ t.outs.length ≤ 16 := by
  unfold withinB at h
  simp at h
  omega
set_option maxRecDepth 100000 in
theorem insN_len (l : List Pin) : (insN l).length = l.length := by simp [insN]
set_option maxRecDepth 100000 in
theorem outsN_len (l : List Pout) : (outsN l).length = l.length := by simp [outsN]
set_option maxRecDepth 100000 in
set_option maxHeartbeats 4000000 in
theorem check_any (Ai Ao : Option Addr) (ci co B : Nat) (t : Ptx) (w : World) (h : TxAt w B Ai ci Ao co t) :
    Calls Tryd.prog 39 #[txV Ai ci Ao co t] w fun e w' => e = .returned (.int .i64 ((chk t : Nat) : Int)) ∧ Turn (fun _ => False) w w' := by
  obtain ⟨i0, hi, hz0, hz1, hz2⟩ := info_parts info_u64
  obtain ⟨w0, hw0⟩ : ∃ w0, w0 = w.alloc (.cells #[.slice Ai t.ins.length ci, .slice Ao t.outs.length co, .int .u64 (t.fee : Int), .int .i64 t.exp] 35) := ⟨_, rfl⟩
  have hT0 : Turn (fun _ => False) w w0 := by rw [hw0]; exact (Turn.refl _ _).alloc _
  have hg0 : w0.heap[w.heap.size]? = some (.cells #[.slice Ai t.ins.length ci, .slice Ao t.outs.length co, .int .u64 (t.fee : Int), .int .i64 t.exp] 35 (0, 0)) := by rw [hw0]; exact heap_alloc_new _ _
  have CF := Lib.hid (show ∀ w', Turn (fun _ => False) w0 w' → w'.cell? ⟨w.heap.size, 0, none⟩ = some (.slice Ai t.ins.length ci) ∧ w'.cell? ⟨w.heap.size, 1, none⟩ = some (.slice Ao t.outs.length co) ∧ w'.cell? ⟨w.heap.size, 2, none⟩ = some (.int .u64 (t.fee : Int)) ∧ w'.cell? ⟨w.heap.size, 3, none⟩ = some (.int .i64 t.exp) from fun w' k => by
    have g := k.heap hg0 (fun h => h)
    refine ⟨?_, ?_, ?_, ?_⟩ <;> rw [cell_of_row _ _ _ _ _ _ g] <;> rfl)
  obtain ⟨c0, c1, c2, c3⟩ := CF.out _ (Turn.refl _ _)
  have HW := Lib.hid (fun w' k => within_any Ai Ao ci co B t w' (h.turn (hT0.trans k (fun _ _ h => h)) (fun _ _ h => h)))
  have HTW := Lib.hid (fun w' k => twice_any B Ai ci t.ins w' (h.ins.turn (hT0.trans k (fun _ _ h => h)) (fun _ _ h => h)) h.ic h.im)
  obtain ⟨z, hz⟩ : ∃ z, z = chk t := ⟨_, rfl⟩
  rw [← hz]
  unfold chk at hz
  have HX := Lib.hid hz
  clear hz
  have him := h.im
  have hom := h.om
  unfold maxLen at him hom
  have HT0 := Lib.hid hT0
  have HH := Lib.hid h
  have hfee := h.fee
  unfold txV at HW ⊢
  clear h hT0 hg0
  cases hwi : withinB t
  · rw [hwi] at HW HX
    have HZ := Lib.hid (show (4 : Int) = (z : Int) by rw [HX.out]; rfl)
    clear hwi HX
    go_enter Tryd.func39, Tryd.ntmps39
    go_upto_region 1 with fail
    change Code.wp _ _ _ _ (w.alloc (.cells #[.slice Ai t.ins.length ci, .slice Ao t.outs.length co, .int .u64 (t.fee : Int), .int .i64 t.exp] 35))
    rw [← hw0]
    clear hw0
    go_wp2_with (go_at_call 48; refine (HW.out _ (Turn.refl _ _)).mono ?_; rintro r w1 ⟨rfl, t1⟩)
    go_ret
    exact ⟨ret_int HZ.out, HT0.out.trans t1 (fun _ _ h => h)⟩
  · obtain ⟨hil, hol⟩ := within_len hwi
    rw [hwi] at HW HX
    clear hwi
    cases htw : twiceB t.ins
    · rw [htw] at HTW HX
      clear htw
      have HI := Lib.hid (fun w' k => insAmounts_any B Ai ci t.ins w' (HH.out.ins.turn (HT0.out.trans k (fun _ _ h => h)) (fun _ _ h => h)) (by omega))
      have HO := Lib.hid (fun w' k => outsAmounts_any B Ao co t.outs w' (HH.out.outs.turn (HT0.out.trans k (fun _ _ h => h)) (fun _ _ h => h)) (by omega))
      have HL1 := Lib.hid (u64s_lt fun p hp => (HH.out.ins.oks p hp).n)
      have HL2 := Lib.hid (show ∀ x ∈ outsN t.outs ++ [t.fee], x < 18446744073709551616 from fun x hx => by
        rcases List.mem_append.1 hx with hx | hx
        · simp only [outsN, List.mem_map] at hx
          obtain ⟨p, hp, rfl⟩ := hx
          exact (HH.out.outs.oks p hp).n
        · simp at hx; omega)
      have HN1 := Lib.hid (insN_len t.ins)
      have HN2 := Lib.hid (outsN_len t.outs)
      have Z1 := Lib.hid (zeroB_eq (insN t.ins))
      have Z2 := Lib.hid (zeroB_eq (outsN t.outs))
      go_enter Tryd.func39, Tryd.ntmps39
      go_upto_region 1 with fail
      change Code.wp _ _ _ _ (w.alloc (.cells #[.slice Ai t.ins.length ci, .slice Ao t.outs.length co, .int .u64 (t.fee : Int), .int .i64 t.exp] 35))
      rw [← hw0]
      clear hw0
      go_wp2_with (first
        | (go_at_call 48; refine (HW.out _ (Turn.refl _ _)).mono ?_; rintro r w1 ⟨rfl, t1⟩; have HT1 := Lib.hid t1; clear c0 c1 c2 c3; obtain ⟨c0, c1, c2, c3⟩ := CF.out _ t1; clear t1)
        | (go_at_call 49; refine (HTW.out _ HT1.out).mono ?_; rintro r w2 ⟨rfl, t2⟩; have HT2 := Lib.hid (HT1.out.trans t2 (fun _ _ h => h)); clear c0 c1 c2 c3; obtain ⟨c0, c1, c2, c3⟩ := CF.out _ HT2.out; clear t2))
      have HT3 := Lib.hid (show Turn (fun _ => False) w0 w2.drew from HT2.out.drew)
      have hcf : ∀ w', Stp w2.drew w' → w'.cell? ⟨w.heap.size, 0, none⟩ = some (.slice Ai t.ins.length ci) ∧ w'.cell? ⟨w.heap.size, 1, none⟩ = some (.slice Ao t.outs.length co) := fun w' k => ⟨(CF.out w' (HT3.out.trans (Turn.of_below k) (fun _ _ h => h))).1, (CF.out w' (HT3.out.trans (Turn.of_below k) (fun _ _ h => h))).2.1⟩
      have HCF := Lib.hid hcf
      clear hcf
      refine wp_region_rel_tail 6 30 (by kernel_rfl) (by kernel_rfl) Stp [.one ?_, .one ?_, .rel (RowF w2.heap.size t.ins.length (u64s (insN t.ins))), .one ?_, .one ?_, .rel (RowF w2.heap.size t.outs.length (u64s (outsN t.outs)))] (by kernel_rfl) rfl (by kernel_rfl) Stp.refl Stp.trans ⟨RowF.stable, RowF.stable, trivial⟩ ?main
      case main =>
      simp only [List.take_succ_cons, List.take_zero, List.drop_succ_cons, List.drop_zero]
      iterate 1
        refine wpR_one (A' := ?_) Stp.refl (by rfl) _ rfl 30 (by rfl) (by rfl) ?_ ?_ ?_
        rotate_left 1
        · simp only [Act.put, List.setIfInBounds_toArray, List.set_cons_zero, List.set_cons_succ]; rfl
        · intro w1 hs hf K hK
          go_big_quiet_op
          first
            | go_big_quiet_on
            | (refine ⟨_, fun _ _ => rfl, ?_⟩; go_big_quiet_on)
          rfl
      refine wpR_one (A' := ?_) Stp.refl (by rfl) _ rfl 30 (by rfl) (by rfl) ?_ ?_ ?_
      rotate_left 1
      · simp only [Act.put, List.setIfInBounds_toArray, List.set_cons_zero, List.set_cons_succ]; rfl
      · intro w1 hs hf K hK
        refine cls_load_cell 31 (.tmp 11) rfl ⟨w.heap.size, 0, none⟩ rfl (.slice Ai t.ins.length ci) (fun w h => by simp [go_sem, h]) (fun w2 h2 => (HCF.out w2 (Stp.trans _ _ _ hs h2)).1) ?_
        refine hK _ ?_
        simp only [Act.put, List.setIfInBounds_toArray, List.set_cons_zero, List.set_cons_succ]
        rfl
      refine wpR_rel (A' := ?_) (by rfl) ?_ ?_ ?_
      · intro w1 hs hf
        have k1 := HT3.out.trans (Turn.of_below hs) (fun _ _ h => h)
        refine does_call (w' := w1) (f := 50) (args := #[.slice Ai t.ins.length ci]) (by kernel_rfl) ((HI.out w1 k1).mono ?_)
        rintro e w3 ⟨rfl, ho, h3⟩
        exact ⟨_, rfl, ⟨_, rfl, own_more ho (show w2.drew.heap.size ≤ w1.heap.size from Below.size hs)⟩, turn_stp h3⟩
      rotate_left 1
      · intro x
        simp only [Act.put, List.setIfInBounds_toArray, List.set_cons_zero, List.set_cons_succ]; rfl
      intro x13
      iterate 1
        refine wpR_one (A' := ?_) Stp.refl (by rfl) _ rfl 30 (by rfl) (by rfl) ?_ ?_ ?_
        rotate_left 1
        · simp only [Act.put, List.setIfInBounds_toArray, List.set_cons_zero, List.set_cons_succ]; rfl
        · intro w1 hs hf K hK
          go_big_quiet_op
          first
            | go_big_quiet_on
            | (refine ⟨_, fun _ _ => rfl, ?_⟩; go_big_quiet_on)
          rfl
      refine wpR_one (A' := ?_) Stp.refl (by rfl) _ rfl 30 (by rfl) (by rfl) ?_ ?_ ?_
      rotate_left 1
      · simp only [Act.put, List.setIfInBounds_toArray, List.set_cons_zero, List.set_cons_succ]; rfl
      · intro w1 hs hf K hK
        refine cls_load_cell 32 (.tmp 14) rfl ⟨w.heap.size, 1, none⟩ rfl (.slice Ao t.outs.length co) (fun w h => by simp [go_sem, h]) (fun w2 h2 => (HCF.out w2 (Stp.trans _ _ _ hs h2)).2) ?_
        refine hK _ ?_
        simp only [Act.put, List.setIfInBounds_toArray, List.set_cons_zero, List.set_cons_succ]
        rfl
      refine wpR_rel (A' := ?_) (by rfl) ?_ ?_ ?_
      · intro w1 hs hf
        have k1 := HT3.out.trans (Turn.of_below hs) (fun _ _ h => h)
        refine does_call (w' := w1) (f := 51) (args := #[.slice Ao t.outs.length co]) (by kernel_rfl) ((HO.out w1 k1).mono ?_)
        rintro e w3 ⟨rfl, ho, h3⟩
        exact ⟨_, rfl, ⟨_, rfl, own_more ho (show w2.drew.heap.size ≤ w1.heap.size from Below.size hs)⟩, turn_stp h3⟩
      rotate_left 1
      · intro x
        simp only [Act.put, List.setIfInBounds_toArray, List.set_cons_zero, List.set_cons_succ]; rfl
      intro x16
      intro w9 hs hf
      obtain ⟨hr2, hr1, -⟩ := hf
      have HT9 := Lib.hid (HT3.out.trans (Turn.of_below hs) (fun _ _ h => h))
      clear c0 c1 c2 c3
      obtain ⟨c0, c1, c2, c3⟩ := CF.out _ HT9.out
      have hb9 : w2.heap.size ≤ w9.heap.size := (show w2.drew.heap.size ≤ w9.heap.size from Below.size hs)
      obtain ⟨g1, rfl, s1⟩ := hr1.sl
      obtain ⟨g2, rfl, s2⟩ := hr2.sl
      obtain ⟨g2', e2, ho2⟩ := hr2
      injection e2 with e2 e2' e2''
      injection e2 with e2
      injection e2 with e2
      subst e2
      have C1 := contains_any 0 (some ⟨g1, 0, none⟩) t.ins.length w9.heap.size (insN t.ins) w9 s1 (by rw [HN1.out]; unfold maxLen; omega)
      rw [HN1.out, Z1.out] at C1
      have C2 := contains_any 0 (some ⟨g2, 0, none⟩) t.outs.length w9.heap.size (outsN t.outs) w9 s2 (by rw [HN2.out]; unfold maxLen; omega)
      rw [HN2.out, Z2.out] at C2
      change Calls _ _ #[_, .int .u64 0] _ _ at C1
      change Calls _ _ #[_, .int .u64 0] _ _ at C2
      have HS1 := Lib.hid s1
      have HO2 := Lib.hid ho2
      clear hr1 s1 s2 ho2 hs e2' e2''
      cases hz1 : zeroB (insN t.ins)
      · rw [hz1] at C1 HX
        cases hz2 : zeroB (outsN t.outs)
        · rw [hz2] at C2 HX
          have HC1 := Lib.hid C1
          have HC2 := Lib.hid C2
          have HZ := Lib.hid (show ((balE (insN t.ins) (outsN t.outs ++ [t.fee]) : Nat) : Int) = (z : Int) by rw [HX.out]; rfl)
          clear hz1 hz2 C1 C2 HX
          go_wp2_with (first
            | (at_builtin; refine stop ?_)
            | (go_at_call 52; refine HC1.out.mono ?_; rintro r w' ⟨rfl, rfl⟩)
            | (go_at_call 52; refine HC2.out.mono ?_; rintro r w' ⟨rfl, rfl⟩))
          unfold Stop
          refine wpList_append_full (o := ⟨some 28, _, _, _, _, _⟩) rfl _ _ rfl w2.heap.size g2 t.outs.length (u64s (outsN t.outs)) rfl (HO2.out.alloc _) ⟨w9.heap.size, 0, none⟩ 1 1 [.int .u64 (t.fee : Int)] rfl rfl (World.news_of_block (heap_alloc_new w9 (.cells #[.int .u64 (t.fee : Int)] 33))) (by omega) (by omega) (by simp; omega) ?_
          intro v5 w5 own5 bl5
          obtain ⟨A5, c5, rfl, s5, -⟩ := own_sl own5
          have ha9 : Below w9.heap.size w9 (w9.alloc (.cells #[.int .u64 (t.fee : Int)] 33)) := (Below.refl _ _).alloc (Nat.le_refl _) _
          have hb5 := ha9.trans (bl5.mono ha9.size)
          have CB := Lib.hid (balance_any (some ⟨g1, 0, none⟩) A5 t.ins.length c5 w9.heap.size w5.heap.size (insN t.ins) (outsN t.outs ++ [t.fee]) t.ins.length (t.outs.length + 1) w5 (HS1.out.below hb5) (by unfold u64s; rw [List.map_append]; exact s5) (by rw [HN1.out]; unfold maxLen; omega) (by rw [List.length_append, HN2.out]; unfold maxLen; simp; omega) HN1.out (by rw [List.length_append, HN2.out]; rfl) HL1.out HL2.out)
          have HT5 := Lib.hid (HT0.out.trans (HT9.out.trans (Turn.of_below hb5) (fun _ _ h => h)) (fun _ _ h => h))
          clear own5 bl5 s5 ha9 hb5
          go_wp2_with fail
          refine CB.out.mono ?_
          rintro r w6 ⟨rfl, rfl⟩
          go_wp2
          go_ret
          exact ⟨ret_int HZ.out, HT5.out⟩
        · rw [hz2] at C2 HX
          have HC1 := Lib.hid C1
          have HC2 := Lib.hid C2
          have HZ := Lib.hid (show (8 : Int) = (z : Int) by rw [HX.out]; rfl)
          clear hz1 hz2 C1 C2 HX
          go_wp2_with (first
            | (go_at_call 52; refine HC1.out.mono ?_; rintro r w' ⟨rfl, rfl⟩)
            | (go_at_call 52; refine HC2.out.mono ?_; rintro r w' ⟨rfl, rfl⟩))
          go_ret
          exact ⟨ret_int HZ.out, HT0.out.trans HT9.out (fun _ _ h => h)⟩
      · rw [hz1] at C1 HX
        have HC1 := Lib.hid C1
        have HZ := Lib.hid (show (8 : Int) = (z : Int) by rw [HX.out]; rfl)
        clear hz1 C1 C2 HX
        go_wp2_with (first
          | (go_at_call 52; refine HC1.out.mono ?_; rintro r w' ⟨rfl, rfl⟩))
        go_ret
        exact ⟨ret_int HZ.out, HT0.out.trans HT9.out (fun _ _ h => h)⟩
    · rw [htw] at HTW HX
      have HZ := Lib.hid (show (7 : Int) = (z : Int) by rw [HX.out]; rfl)
      clear htw HX
      go_enter Tryd.func39, Tryd.ntmps39
      go_upto_region 1 with fail
      change Code.wp _ _ _ _ (w.alloc (.cells #[.slice Ai t.ins.length ci, .slice Ao t.outs.length co, .int .u64 (t.fee : Int), .int .i64 t.exp] 35))
      rw [← hw0]
      clear hw0
      go_wp2_with (first
        | (go_at_call 48; refine (HW.out _ (Turn.refl _ _)).mono ?_; rintro r w1 ⟨rfl, t1⟩; have HT1 := Lib.hid t1; clear c0 c1 c2 c3; obtain ⟨c0, c1, c2, c3⟩ := CF.out _ t1; clear t1)
        | (go_at_call 49; refine (HTW.out _ HT1.out).mono ?_; rintro r w2 ⟨rfl, t2⟩; have HT2 := Lib.hid (HT1.out.trans t2 (fun _ _ h => h)); clear t2))
      go_ret
      exact ⟨ret_int HZ.out, HT0.out.trans HT2.out (fun _ _ h => h)⟩

end
section
set_option linter.unusedVariables false
set_option linter.unusedSimpArgs false

open Go.RowKit
def inF (p : Pin) : List B8 := p.d ++ (numB p.x.toNat ++ (numB p.n ++ (numB p.b.length ++ p.b)))
def insF (l : List Pin) : List B8 := l.flatMap inF
def outF (p : Pout) : List B8 := p.d ++ numB p.n
def outsF (l : List Pout) : List B8 := l.flatMap outF
def formB (t : Ptx) : List B8 := (numB t.ins.length ++ insF t.ins) ++ ((numB t.outs.length ++ outsF t.outs) ++ (numB t.fee ++ numB t.exp.toNat))
set_option maxRecDepth 100000 in
theorem outB_false {p : Pin} (h : outB p = false) : p.b.length ≤ 64 ∧ 0 ≤ p.x ∧ p.x ≤ 15 := by
  unfold outB at h
  simp at h
  omega
set_option maxRecDepth 100000 in
theorem inF_le {p : Pin} (h : p.ok) (h2 : outB p = false) : (inF p).length ≤ 123 := by
  obtain ⟨a, b, c⟩ := outB_false h2
  have h1 := numB_le h.n
  have h2 := numB_le (n := p.x.toNat) (by omega)
  have h3 := numB_le (n := p.b.length) (by omega)
  have h4 := h.d
  simp [inF]; omega
set_option maxRecDepth 100000 in
theorem insF_le {l : List Pin} (h : ∀ p ∈ l, p.ok) (h2 : ∀ p ∈ l, outB p = false) : (insF l).length ≤ 123 * l.length := by
  induction l with
  | nil => simp [insF]
  | cons p l ih =>
    have h3 := ih (fun q hq => h q (by simp [hq])) (fun q hq => h2 q (by simp [hq]))
    have h4 := inF_le (h p (by simp)) (h2 p (by simp))
    have : insF (p :: l) = inF p ++ insF l := rfl
    rw [this]; simp; omega
set_option maxRecDepth 100000 in
theorem outsF_le {l : List Pout} (h : ∀ p ∈ l, p.ok) : (outsF l).length ≤ 41 * l.length := by
  induction l with
  | nil => simp [outsF]
  | cons p l ih =>
    have h3 := ih (fun q hq => h q (by simp [hq]))
    have h4 := numB_le (h p (by simp)).n
    have h5 := (h p (by simp)).d
    have : outsF (p :: l) = outF p ++ outsF l := rfl
    rw [this]; simp [outF]; omega
set_option maxRecDepth 100000 in
theorem insF_succ {l : List Pin} {k : Nat} (h : k < l.length) : insF (l.take (k + 1)) = insF (l.take k) ++ inF l[k] := by
  unfold insF; rw [List.take_succ_eq_append_getElem h, List.flatMap_append]; simp
set_option maxRecDepth 100000 in
theorem outsF_succ {l : List Pout} {k : Nat} (h : k < l.length) : outsF (l.take (k + 1)) = outsF (l.take k) ++ outF l[k] := by
  unfold outsF; rw [List.take_succ_eq_append_getElem h, List.flatMap_append]; simp
/-- A block that no writing of the pen turns. -/
def PenFree (w : World) (p : Nat) (v : Value) (g : Nat) : Prop := g ≠ p ∧ v.ownBlock ≠ some g ∧ g < w.heap.size
set_option maxRecDepth 100000 in
theorem PenFree.step {w w' : World} {p g : Nat} {v v' : Value} (h : PenFree w p v g) (s : PenStep w w' p v v') : PenFree w' p v' g := by
  obtain ⟨h1, h2, h3⟩ := h
  refine ⟨h1, ?_, Nat.lt_of_lt_of_le h3 s.1.size⟩
  rcases s.2 with e | ⟨k, e, hk⟩
  · rw [e]; exact h2
  · rw [e]; intro x; injection x with x; omega
set_option maxRecDepth 100000 in
theorem PenFree.not {w : World} {p g : Nat} {v : Value} (h : PenFree w p v g) : ¬ (g = p ∨ some g = v.ownBlock) := fun x => x.elim h.1 (fun x => h.2.1 x.symm)
set_option maxRecDepth 100000 in
theorem PenStep.heap {w w' : World} {p g : Nat} {v v' : Value} {o : Obj} (s : PenStep w w' p v v') (h : PenFree w p v g) (hg : w.heap[g]? = some o) : w'.heap[g]? = some o := s.1.heap hg h.not
set_option maxRecDepth 100000 in
theorem PenAt.low {w : World} {p B i : Nat} {v : Value} {xs : List B8} (h : PenAt w p B v xs) (hi : i < p) : ¬ (i = p ∨ some i = v.ownBlock) := by
  rintro (e | e)
  · omega
  · have := (h.2.1.lt i e.symm).1
    have := h.2.2.1
    omega
set_option maxRecDepth 100000 in
theorem PenAt.new {w : World} {p B : Nat} {v : Value} {xs : List B8} (h : PenAt w p B v xs) (o : Obj) : PenAt (w.alloc o) p B v xs ∧ PenFree (w.alloc o) p v w.heap.size ∧ PenStep w (w.alloc o) p v v := by
  refine ⟨h.turn ((Turn.refl (fun _ => False) w).alloc o) (fun h => h) (fun _ _ h => h), ⟨?_, ?_, by simp⟩, (Turn.refl _ _).alloc _, .inl rfl⟩
  · have := lt_of_block h.1; omega
  · intro e
    have := (h.2.1.lt _ e).2
    omega
set_option maxRecDepth 100000 in
theorem Pin.idr {w : World} {g : Nat} {p : Pin} {S : Option Addr} {c : Nat} {t : TypeId} {fr : Nat × Nat} (h : w.heap[g]? = some (.cells (p.cells S c).toArray t fr)) : w.rangeAt g 0 (p.d.map bv) := fun j v hj => by
  rw [cell_of_row w g _ _ _ _ h, List.getElem?_toArray, Nat.zero_add]
  unfold Pin.cells
  rw [List.getElem?_append_left (List.getElem?_eq_some_iff.1 hj).1]; exact hj
set_option maxRecDepth 100000 in
theorem Pin.cell {w : World} {g : Nat} {p : Pin} {S : Option Addr} {c : Nat} {t : TypeId} {fr : Nat × Nat} (h : w.heap[g]? = some (.cells (p.cells S c).toArray t fr)) (hd : p.d.length = 32) :
    w.cell? ⟨g, 32, none⟩ = some (.int .i64 p.x) ∧ w.cell? ⟨g, 33, none⟩ = some (.int .u64 (p.n : Int)) ∧ w.cell? ⟨g, 34, none⟩ = some (.slice S p.b.length c) := by
  obtain ⟨a, b, d⟩ := p.at S c hd
  refine ⟨?_, ?_, ?_⟩ <;> rw [cell_of_row w g _ _ _ _ h, List.getElem?_toArray] <;> assumption
set_option maxRecDepth 100000 in
set_option maxHeartbeats 4000000 in
theorem putIns_any (p B B0 : Nat) (v : Value) (xs : List B8) (A : Option Addr) (c : Nat) (l : List Pin) (w : World) (h : PenAt w p B v xs) (hI : InsAt w B0 A l) (hB : B0 ≤ p) (hl : l.length ≤ 16) (hb : ∀ q ∈ l, outB q = false) (hlen : xs.length ≤ 1000000) :
    Calls Tryd.prog 64 #[.pointer (some ⟨p, 0, none⟩), .slice A l.length c] w fun r w' => r = .returned (.tuple #[]) ∧ ∃ v', PenAt w' p B v' (xs ++ (numB l.length ++ insF l)) ∧ PenStep w w' p v v' := by
  have hzd := zero_in
  change ∀ w, _ = Result.ok (Value.agg ZIn) w at hzd
  have T0 := Lib.hid (pnum_any p B v xs l.length w h (by omega) (by omega))
  have hnl := numB_le (n := l.length) (by omega)
  have HI := Lib.hid hI
  have HB := Lib.hid hb
  have HH := Lib.hid h
  have HK := Lib.hid (fun k => insF_le (l := l.take k) (fun p hp => hI.oks p (List.mem_of_mem_take hp)) (fun p hp => hb p (List.mem_of_mem_take hp)))
  clear h hI hb
  go_enter Tryd.func64, Tryd.ntmps64
  go_wp2_with fail
  refine T0.out.mono ?_
  rintro r w1 ⟨rfl, v1, hp1, st1⟩
  have HP1 := Lib.hid hp1
  have HS1 := Lib.hid st1
  clear hp1 st1 T0
  go_wp2
  go_loopw [13] (fun i wr => ∃ (k : Nat) (u : Value), k ≤ l.length ∧ i = .int .i64 k ∧ PenAt wr p B u (xs ++ (numB l.length ++ insF (l.take k))) ∧ PenStep w wr p v u) (fun i _ => l.length - (intOf i).toNat)
  case atStart => exact ⟨0, v1, Nat.zero_le _, rfl, by simpa [insF] using HP1.out, HS1.out⟩
  case round =>
    clear HP1 HS1
    obtain ⟨k, u, hk, rfl, hp, hst⟩ := hrel
    by_cases hlt : k < l.length
    · have hlk := List.getElem?_eq_getElem hlt
      obtain ⟨hok, b, o, S, cp, rfl, hbb, hs, hr⟩ := HI.out k l[k] hlk
      have hlow : ∀ i, i < B0 → ¬ (i = p ∨ some i = v.ownBlock) := fun i hi => HH.out.low (by omega)
      have hr1 := hst.1.range hr (hlow b hbb)
      have hs1 := hs.turn hst.1 hlow
      have HSUC := Lib.hid (insF_succ hlt)
      have hxl : (xs ++ (numB l.length ++ insF (l.take k))).length ≤ 1002000 := by
        have := HK.out k
        rw [List.length_take] at this
        simp only [List.length_append]; omega
      have hout := HB.out l[k] (List.getElem_mem hlt)
      obtain ⟨q, hq⟩ : ∃ q, q = l[k] := ⟨_, rfl⟩
      rw [← hq] at hok hr1 hlk hs1 hout HSUC
      obtain ⟨ob, ox0, ox1⟩ := outB_false hout
      obtain ⟨y, hy⟩ : ∃ y : Nat, q.x = (y : Int) := ⟨q.x.toNat, by omega⟩
      have hyn : q.x.toNat = y := by omega
      have hin : inF q = q.d ++ (numB y ++ (numB q.n ++ (numB q.b.length ++ q.b))) := by unfold inF; rw [hyn]
      have HL := Lib.hid (show (Tryd.prog.info? 58).map (·.size) = some (q.cells S cp).length by rw [q.len S cp hok.d]; kernel_rfl)
      obtain ⟨D, hD⟩ : ∃ D, D = (q.cells S cp).toArray := ⟨_, rfl⟩
      have sD : D.size = 35 := by rw [hD, List.size_toArray, q.len S cp hok.d]
      have H1 := Lib.hid (show (Tryd.prog.info? 58).map (·.size) = some D.size by rw [sD]; kernel_rfl)
      have H2 := Lib.hid (show ZIn.size = D.size by rw [sD]; rfl)
      have H3 := Lib.hid (show D.all (·.oneCell') = true by rw [hD]; exact q.one S cp)
      have HR := Lib.hid hr1
      obtain ⟨hp0, hf0, hst0⟩ := hp.new (.cells D 58)
      obtain ⟨w0, hw0⟩ : ∃ w0, w0 = wr.alloc (.cells D 58) := ⟨_, rfl⟩
      obtain ⟨g, hg⟩ : ∃ g, g = wr.heap.size := ⟨_, rfl⟩
      have hg0 : w0.heap[g]? = some (.cells (q.cells S cp).toArray 58 (0, 0)) := by rw [hw0, hg, ← hD]; exact heap_alloc_new wr _
      rw [← hw0] at hp0 hf0 hst0
      rw [← hg] at hf0
      have HS0 := Lib.hid (hs1.turn ((Turn.refl (fun _ => False) wr).alloc (.cells D 58)) (fun _ _ h => h))
      rw [← hw0] at HS0
      obtain ⟨C, hC⟩ : ∃ C, C = (q.d.map bv).toArray := ⟨_, rfl⟩
      have HLI := Lib.hid (show (Tryd.prog.info? 23).map (·.size) = some (q.d.map bv).length by rw [List.length_map, hok.d]; kernel_rfl)
      have T1 := Lib.hid (pid_any p B u _ q.d w0 hp0 hok.d (by omega))
      rw [← hC] at T1
      have RI := Lib.hid (Pin.idr hg0)
      obtain ⟨d32, d33, d34⟩ := Pin.cell hg0 hok.d
      have HG0 := Lib.hid hg0
      have HF0 := Lib.hid hf0
      have HDD := Lib.hid hD
      have HCC := Lib.hid hC
      have HIN := Lib.hid hin
      have HST := Lib.hid hst
      have HST0 := Lib.hid hst0
      have hn64 := hok.n
      have HQD := Lib.hid hok.d
      have HPL := Lib.hid hp0
      rw [hy] at d32
      have HOY := Lib.hid hy
      have hy15 : y ≤ 15 := by omega
      have HW0 := Lib.hid hw0
      have HGG := Lib.hid hg
      have CELLS := Lib.hid (fun (w' : World) (hg : w'.heap[g]? = some (.cells (q.cells S cp).toArray 58 (0, 0))) => Pin.cell hg hok.d)
      clear hr hr1 hok hp hq hs hs1 hlk hD sD hC hout hin hst hst0 hp0 hf0 hg0 hlow hyn hw0 hg d32 d33 d34 hy ox0 ox1
      go_wp2_with (first
        | (refine wpList_load_mid (op := ⟨some 16, _, _, _, _, _⟩) rfl _ _ rfl b (o + k * 35) rfl (q.cells S cp) _ HR.out Tryd.underlying58 rfl HL.out ?_; rw [← HDD.out])
        | (refine wpList_store_row (o := ⟨none, .store 58 _ _, _, _, _, _⟩) rfl _ _ _ rfl wr.heap.size D rfl rfl 58 _ (heap_alloc_new wr _) H1.out H2.out H3.out ?_; rw [World.setRow_alloc_new, ← HW0.out, ← HGG.out])
        | (refine wpList_load_mid (op := ⟨some 20, _, _, _, _, _⟩) rfl _ _ rfl g 0 rfl (q.d.map bv) _ RI.out Tryd.underlying23 rfl HLI.out ?_; rw [← HCC.out]))
      refine T1.out.mono ?_
      rintro r w2 ⟨rfl, v2, hp2, st2⟩
      have hf2 := HF0.out.step st2
      have hg2 := st2.heap HF0.out HG0.out
      have hs2 := HS0.out.turn st2.1 (fun i hi => HPL.out.low (by omega))
      obtain ⟨c32, c33, c34⟩ := CELLS.out _ hg2
      rw [HOY.out] at c32
      have T2 := Lib.hid (pnum_any p B v2 _ y w2 hp2 (by omega) (by have := HQD.out; simp only [List.length_append] at hxl ⊢; omega))
      have HF2 := Lib.hid hf2
      have HG2 := Lib.hid hg2
      have HS2 := Lib.hid hs2
      have HP2 := Lib.hid hp2
      have ST2 := Lib.hid (HST0.out.trans st2)
      clear hf2 hg2 hs2 hp2 st2 T1
      go_wp2_with fail
      refine T2.out.mono ?_
      rintro r w3 ⟨rfl, v3, hp3, st3⟩
      have hf3 := HF2.out.step st3
      have hg3 := st3.heap HF2.out HG2.out
      have hs3 := HS2.out.turn st3.1 (fun i hi => HP2.out.low (by omega))
      clear c32 c33 c34
      obtain ⟨c32, c33, c34⟩ := CELLS.out _ hg3
      have hy9 := numB_le (n := y) (by omega)
      have T3 := Lib.hid (pnum_any p B v3 _ q.n w3 hp3 hn64 (by have := HQD.out; simp only [List.length_append] at hxl ⊢; omega))
      have HF3 := Lib.hid hf3
      have HG3 := Lib.hid hg3
      have HS3 := Lib.hid hs3
      have HP3 := Lib.hid hp3
      have ST3 := Lib.hid (ST2.out.trans st3)
      clear hf3 hg3 hs3 hp3 st3 T2 HP2
      go_wp2_with fail
      refine T3.out.mono ?_
      rintro r w4 ⟨rfl, v4, hp4, st4⟩
      have hf4 := HF3.out.step st4
      have hg4 := st4.heap HF3.out HG3.out
      have hs4 := HS3.out.turn st4.1 (fun i hi => HP3.out.low (by omega))
      clear c32 c33 c34
      obtain ⟨c32, c33, c34⟩ := CELLS.out _ hg4
      have hn9 := numB_le hn64
      have T4 := Lib.hid (ptext_any p B v4 _ q.b S cp w4 hp4 (SlN.of hs4.s (fun i hi => hp4.low (by omega))) hs4.a hs4.c (by have := HQD.out; simp only [List.length_append] at hxl ⊢; omega))
      have ST4 := Lib.hid (ST3.out.trans st4)
      clear hf4 hg4 hs4 hp4 st4 T3 HP3
      go_wp2_with fail
      refine T4.out.mono ?_
      rintro r w5 ⟨rfl, v5, hp5, st5⟩
      have HP5 := Lib.hid hp5
      have ST5 := Lib.hid (ST4.out.trans st5)
      clear hp5 st5 T4
      go_wp2
      go_roundw
      case rel => exact ⟨k + 1, v5, by omega, by go_num, by rw [HSUC.out, HIN.out]; have h := HP5.out; simp only [List.append_assoc] at h ⊢; exact h, HST.out.trans ST5.out⟩
      case measure => simp [intOf]; omega
    · obtain rfl : k = l.length := by omega
      rw [List.take_length] at hp
      have HP := Lib.hid hp
      have HS := Lib.hid hst
      clear hp hst
      go_wp2
      first | go_end0 | refine bodyPost_ret (results_none rfl _ _ _) rfl ?_
      exact ⟨rfl, u, HP.out, HS.out⟩

end
section
set_option linter.unusedVariables false
set_option linter.unusedSimpArgs false

open Go.RowKit
set_option maxRecDepth 100000 in
theorem Pout.idr {w : World} {g : Nat} {p : Pout} {t : TypeId} {fr : Nat × Nat} (h : w.heap[g]? = some (.cells p.cells.toArray t fr)) : w.rangeAt g 0 (p.d.map bv) := fun j v hj => by
  rw [cell_of_row w g _ _ _ _ h, List.getElem?_toArray, Nat.zero_add]
  unfold Pout.cells
  rw [List.getElem?_append_left (List.getElem?_eq_some_iff.1 hj).1]; exact hj
set_option maxRecDepth 100000 in
theorem Pout.cell {w : World} {g : Nat} {p : Pout} {t : TypeId} {fr : Nat × Nat} (h : w.heap[g]? = some (.cells p.cells.toArray t fr)) (hd : p.d.length = 32) : w.cell? ⟨g, 32, none⟩ = some (.int .u64 (p.n : Int)) := by
  rw [cell_of_row w g _ _ _ _ h, List.getElem?_toArray]; exact p.at hd
set_option maxRecDepth 100000 in
set_option maxHeartbeats 4000000 in
theorem putOuts_any (p B B0 : Nat) (v : Value) (xs : List B8) (A : Option Addr) (c : Nat) (l : List Pout) (w : World) (h : PenAt w p B v xs) (hI : OutsAt w B0 A l) (hB : B0 ≤ p) (hl : l.length ≤ 16) (hlen : xs.length ≤ 1000000) :
    Calls Tryd.prog 65 #[.pointer (some ⟨p, 0, none⟩), .slice A l.length c] w fun r w' => r = .returned (.tuple #[]) ∧ ∃ v', PenAt w' p B v' (xs ++ (numB l.length ++ outsF l)) ∧ PenStep w w' p v v' := by
  have hzd := zero_out
  change ∀ w, _ = Result.ok (Value.agg ZOut) w at hzd
  have T0 := Lib.hid (pnum_any p B v xs l.length w h (by omega) (by omega))
  have hnl := numB_le (n := l.length) (by omega)
  have HI := Lib.hid hI
  have HH := Lib.hid h
  have HK := Lib.hid (fun k => outsF_le (l := l.take k) (fun p hp => hI.oks p (List.mem_of_mem_take hp)))
  clear h hI
  go_enter Tryd.func65, Tryd.ntmps65
  go_wp2_with fail
  refine T0.out.mono ?_
  rintro r w1 ⟨rfl, v1, hp1, st1⟩
  have HP1 := Lib.hid hp1
  have HS1 := Lib.hid st1
  clear hp1 st1 T0
  go_wp2
  go_loopw [13] (fun i wr => ∃ (k : Nat) (u : Value), k ≤ l.length ∧ i = .int .i64 k ∧ PenAt wr p B u (xs ++ (numB l.length ++ outsF (l.take k))) ∧ PenStep w wr p v u) (fun i _ => l.length - (intOf i).toNat)
  case atStart => exact ⟨0, v1, Nat.zero_le _, rfl, by simpa [outsF] using HP1.out, HS1.out⟩
  case round =>
    clear HP1 HS1
    obtain ⟨k, u, hk, rfl, hp, hst⟩ := hrel
    by_cases hlt : k < l.length
    · have hlk := List.getElem?_eq_getElem hlt
      obtain ⟨hok, b, o, rfl, hbb, hr⟩ := HI.out k l[k] hlk
      have hlow : ∀ i, i < B0 → ¬ (i = p ∨ some i = v.ownBlock) := fun i hi => HH.out.low (by omega)
      have hr1 := hst.1.range hr (hlow b hbb)
      have HSUC := Lib.hid (outsF_succ hlt)
      have hxl : (xs ++ (numB l.length ++ outsF (l.take k))).length ≤ 1002000 := by
        have := HK.out k
        rw [List.length_take] at this
        simp only [List.length_append]; omega
      obtain ⟨q, hq⟩ : ∃ q, q = l[k] := ⟨_, rfl⟩
      rw [← hq] at hok hr1 hlk HSUC
      have hin : outF q = q.d ++ numB q.n := rfl
      have HL := Lib.hid (show (Tryd.prog.info? 60).map (·.size) = some q.cells.length by rw [q.len hok.d]; kernel_rfl)
      obtain ⟨D, hD⟩ : ∃ D, D = q.cells.toArray := ⟨_, rfl⟩
      have sD : D.size = 33 := by rw [hD, List.size_toArray, q.len hok.d]
      have H1 := Lib.hid (show (Tryd.prog.info? 60).map (·.size) = some D.size by rw [sD]; kernel_rfl)
      have H2 := Lib.hid (show ZOut.size = D.size by rw [sD]; rfl)
      have H3 := Lib.hid (show D.all (·.oneCell') = true by rw [hD]; exact q.one)
      have HR := Lib.hid hr1
      obtain ⟨hp0, hf0, hst0⟩ := hp.new (.cells D 60)
      obtain ⟨w0, hw0⟩ : ∃ w0, w0 = wr.alloc (.cells D 60) := ⟨_, rfl⟩
      obtain ⟨g, hg⟩ : ∃ g, g = wr.heap.size := ⟨_, rfl⟩
      have hg0 : w0.heap[g]? = some (.cells q.cells.toArray 60 (0, 0)) := by rw [hw0, hg, ← hD]; exact heap_alloc_new wr _
      rw [← hw0] at hp0 hf0 hst0
      rw [← hg] at hf0
      obtain ⟨C, hC⟩ : ∃ C, C = (q.d.map bv).toArray := ⟨_, rfl⟩
      have HLI := Lib.hid (show (Tryd.prog.info? 23).map (·.size) = some (q.d.map bv).length by rw [List.length_map, hok.d]; kernel_rfl)
      have T1 := Lib.hid (pid_any p B u _ q.d w0 hp0 hok.d (by omega))
      rw [← hC] at T1
      have RI := Lib.hid (Pout.idr hg0)
      have HG0 := Lib.hid hg0
      have HF0 := Lib.hid hf0
      have HDD := Lib.hid hD
      have HCC := Lib.hid hC
      have HIN := Lib.hid hin
      have HST := Lib.hid hst
      have HST0 := Lib.hid hst0
      have hn64 := hok.n
      have HQD := Lib.hid hok.d
      have HPL := Lib.hid hp0
      have HW0 := Lib.hid hw0
      have HGG := Lib.hid hg
      have CELLS := Lib.hid (fun (w' : World) (hg : w'.heap[g]? = some (.cells q.cells.toArray 60 (0, 0))) => Pout.cell hg hok.d)
      clear hr hr1 hok hp hq hlk hD sD hC hin hst hst0 hp0 hf0 hg0 hlow hw0 hg
      go_wp2_with (first
        | (refine wpList_load_mid (op := ⟨some 16, _, _, _, _, _⟩) rfl _ _ rfl b (o + k * 33) rfl q.cells _ HR.out Tryd.underlying60 rfl HL.out ?_; rw [← HDD.out])
        | (refine wpList_store_row (o := ⟨none, .store 60 _ _, _, _, _, _⟩) rfl _ _ _ rfl wr.heap.size D rfl rfl 60 _ (heap_alloc_new wr _) H1.out H2.out H3.out ?_; rw [World.setRow_alloc_new, ← HW0.out, ← HGG.out])
        | (refine wpList_load_mid (op := ⟨some 19, _, _, _, _, _⟩) rfl _ _ rfl g 0 rfl (q.d.map bv) _ RI.out Tryd.underlying23 rfl HLI.out ?_; rw [← HCC.out]))
      refine T1.out.mono ?_
      rintro r w2 ⟨rfl, v2, hp2, st2⟩
      have hg2 := st2.heap HF0.out HG0.out
      have c32 := CELLS.out _ hg2
      have T2 := Lib.hid (pnum_any p B v2 _ q.n w2 hp2 hn64 (by have := HQD.out; simp only [List.length_append] at hxl ⊢; omega))
      have ST2 := Lib.hid (HST0.out.trans st2)
      clear hg2 hp2 st2 T1
      go_wp2_with fail
      refine T2.out.mono ?_
      rintro r w5 ⟨rfl, v5, hp5, st5⟩
      have HP5 := Lib.hid hp5
      have ST5 := Lib.hid (ST2.out.trans st5)
      clear hp5 st5 T2
      go_wp2
      go_roundw
      case rel => exact ⟨k + 1, v5, by omega, by go_num, by rw [HSUC.out, HIN.out]; have h := HP5.out; simp only [List.append_assoc] at h ⊢; exact h, HST.out.trans ST5.out⟩
      case measure => simp [intOf]; omega
    · obtain rfl : k = l.length := by omega
      rw [List.take_length] at hp
      have HP := Lib.hid hp
      have HS := Lib.hid hst
      clear hp hst
      go_wp2
      first | go_end0 | refine bodyPost_ret (results_none rfl _ _ _) rfl ?_
      exact ⟨rfl, u, HP.out, HS.out⟩

end
section
set_option linter.unusedVariables false
set_option linter.unusedSimpArgs false

open Go.RowKit
/-- What a form answers: nothing for one that isn't right. -/
def putF (t : Ptx) : List B8 := if chk t = 0 then formB t else []
set_option maxRecDepth 100000 in
theorem chk_ok {t : Ptx} (h : chk t = 0) : withinB t = true := by
  unfold chk at h
  cases hw : withinB t
  · rw [hw] at h; simp at h
  · rfl
set_option maxRecDepth 100000 in
theorem within_all {t : Ptx} (h : withinB t = true) : t.ins.length ≤ 16 ∧ t.outs.length ≤ 16 ∧ 0 ≤ t.exp ∧ t.exp ≤ 1099511627776 ∧ ∀ q ∈ t.ins, outB q = false := by
  unfold withinB at h
  simp at h
  obtain ⟨h1, h2⟩ := h
  exact ⟨by omega, by omega, by omega, by omega, h2⟩
set_option maxRecDepth 100000 in
set_option maxHeartbeats 4000000 in
theorem put_any (Ai Ao : Option Addr) (ci co B : Nat) (t : Ptx) (w : World) (h : TxAt w B Ai ci Ao co t) (hBw : B ≤ w.heap.size) :
    Calls Tryd.prog 54 #[txV Ai ci Ao co t] w fun e w' => ∃ u, e = .returned (.tuple #[u, .int .i64 ((chk t : Nat) : Int)]) ∧ w'.ownsRow w.heap.size 5 1 u (putF t).length ((putF t).map bv) ∧ Turn (fun _ => False) w w' := by
  obtain ⟨w0, hw0⟩ : ∃ w0, w0 = w.alloc (.cells #[.slice Ai t.ins.length ci, .slice Ao t.outs.length co, .int .u64 (t.fee : Int), .int .i64 t.exp] 35) := ⟨_, rfl⟩
  have hT0 : Turn (fun _ => False) w w0 := by rw [hw0]; exact (Turn.refl _ _).alloc _
  have hg0 : w0.heap[w.heap.size]? = some (.cells #[.slice Ai t.ins.length ci, .slice Ao t.outs.length co, .int .u64 (t.fee : Int), .int .i64 t.exp] 35 (0, 0)) := by rw [hw0]; exact heap_alloc_new _ _
  have CF := Lib.hid (show ∀ w' : World, w'.heap[w.heap.size]? = some (.cells #[.slice Ai t.ins.length ci, .slice Ao t.outs.length co, .int .u64 (t.fee : Int), .int .i64 t.exp] 35 (0, 0)) → w'.cell? ⟨w.heap.size, 0, none⟩ = some (.slice Ai t.ins.length ci) ∧ w'.cell? ⟨w.heap.size, 1, none⟩ = some (.slice Ao t.outs.length co) ∧ w'.cell? ⟨w.heap.size, 2, none⟩ = some (.int .u64 (t.fee : Int)) ∧ w'.cell? ⟨w.heap.size, 3, none⟩ = some (.int .i64 t.exp) from fun w' g => by
    refine ⟨?_, ?_, ?_, ?_⟩ <;> rw [cell_of_row _ _ _ _ _ _ g] <;> rfl)
  have HGX := Lib.hid hg0
  obtain ⟨c0, c1, c2, c3⟩ := CF.out _ hg0
  have HC := Lib.hid (check_any Ai Ao ci co B t w0 (h.turn hT0 (fun _ _ h => h)))
  have HH := Lib.hid h
  have HT0 := Lib.hid hT0
  have HB := Lib.hid hBw
  unfold txV at HC ⊢
  have HPF := Lib.hid (show putF t = if chk t = 0 then formB t else [] from rfl)
  have HOK := Lib.hid (@chk_ok t)
  generalize chk t = z at *
  clear h hT0 hg0 hBw
  by_cases hz : z = 0
  · obtain ⟨hil, hol, hx0, hx1, hno⟩ := within_all (HOK.out hz)
    rw [if_pos hz] at HPF
    have hfee := HH.out.fee
    obtain ⟨y, hy⟩ : ∃ y : Nat, t.exp = (y : Int) := ⟨t.exp.toNat, by omega⟩
    have hyn : t.exp.toNat = y := by omega
    have HFM := Lib.hid (show formB t = (numB t.ins.length ++ insF t.ins) ++ ((numB t.outs.length ++ outsF t.outs) ++ (numB t.fee ++ numB y)) by unfold formB; rw [hyn])
    have hil2 := insF_le (fun p hp => HH.out.ins.oks p hp) hno
    have hol2 := outsF_le (fun p hp => HH.out.outs.oks p hp)
    have hn1 := numB_le (n := t.ins.length) (by omega)
    have hn2 := numB_le (n := t.outs.length) (by omega)
    have hn3 := numB_le hfee
    have hn4 := numB_le (n := y) (by omega)
    have HNO := Lib.hid hno
    rw [hy] at HC CF HGX c3
    have hy40 : y ≤ 1099511627776 := by omega
    obtain ⟨fe, hfe⟩ : ∃ fe, fe = t.fee := ⟨_, rfl⟩
    rw [← hfe] at HC CF HGX c2 HFM hfee hn3
    have HHY := Lib.hid hy
    have HFE := Lib.hid hfe
    subst hz
    clear hno hyn hx0 hx1
    rw [hy, ← hfe] at hw0
    go_enter Tryd.func54, Tryd.ntmps54
    go_upto_region 1 with fail
    rw [hy, ← hfe]
    change Code.wp _ _ _ _ (w.alloc (.cells #[.slice Ai t.ins.length ci, .slice Ao t.outs.length co, .int .u64 (fe : Int), .int .i64 (y : Int)] 35))
    rw [← hw0]
    clear hw0 hy hfe
    obtain ⟨X0, hX0⟩ : ∃ X0, X0 = (Value.slice none 0 0) := ⟨_, rfl⟩
    go_wp2_with (go_at_call 39; refine HC.out.mono ?_; rintro r w1 ⟨rfl, t1⟩; have HT1 := Lib.hid t1; clear c0 c1 c2 c3; have g2 := Lib.hid ((t1.alloc (.cells #[.slice none 0 0] 109)).heap HGX.out (fun h => h)); obtain ⟨c0, c1, c2, c3⟩ := CF.out _ g2.out; clear t1)
    have hws : w.heap.size < w1.heap.size := by have := lt_of_block (HT1.out.heap HGX.out (fun h => h)); exact this
    obtain ⟨w2, hw2⟩ : ∃ w2, w2 = w1.alloc (.cells #[.slice none 0 0] 109) := ⟨_, rfl⟩
    have hp2 : PenAt w2 w1.heap.size (w1.heap.size + 1) (.slice none 0 0) [] := by rw [hw2]; exact ⟨heap_alloc_new _ _, World.ownsRow_nil _ _ _ _, by omega, by simp⟩
    have hf2 : PenFree w2 w1.heap.size (.slice none 0 0) w.heap.size := ⟨by omega, by (intro e; cases e), by rw [hw2]; simp; omega⟩
    have ht2 : Turn (fun _ => False) w0 w2 := by rw [hw2]; exact HT1.out.alloc _
    rw [← hw2] at g2 ⊢
    have HT2 := Lib.hid (HT0.out.trans ht2 (fun _ _ h => h))
    have TI := Lib.hid (putIns_any w1.heap.size _ B _ [] Ai ci t.ins w2 hp2 (HH.out.ins.turn HT2.out (fun _ _ h => h)) (by have := HB.out; omega) hil HNO.out (by simp))
    have HP2 := Lib.hid hp2
    have HF2 := Lib.hid hf2
    generalize w1.heap.size = p at *
    clear hw2 hp2 hf2 ht2 c0 c1 c2 c3
    refine TI.out.mono ?_
    rintro r w3 ⟨rfl, v3, hp3, st3⟩
    have hg3 := st3.heap HF2.out g2.out
    obtain ⟨c0, c1, c2, c3⟩ := CF.out _ hg3
    rw [List.nil_append] at hp3
    have HF3 := Lib.hid (HF2.out.step st3)
    have HG3 := Lib.hid hg3
    have TO := Lib.hid (putOuts_any p _ B _ _ Ao co t.outs w3 hp3 ((HH.out.outs.turn HT2.out (fun _ _ h => h)).turn st3.1 (fun i hi => HP2.out.low (by have := HB.out; omega))) (by have := HB.out; omega) hol (by simp only [List.length_append]; omega))
    have ST3 := Lib.hid st3
    clear hg3 hp3 st3 TI
    go_wp2_with fail
    refine TO.out.mono ?_
    rintro r w4 ⟨rfl, v4, hp4, st4⟩
    have hg4 := st4.heap HF3.out HG3.out
    clear c0 c1 c2 c3
    obtain ⟨c0, c1, c2, c3⟩ := CF.out _ hg4
    have HF4 := Lib.hid (HF3.out.step st4)
    have HG4 := Lib.hid hg4
    have TF := Lib.hid (pnum_any p _ v4 _ fe w4 hp4 hfee (by simp only [List.length_append]; omega))
    have ST4 := Lib.hid (ST3.out.trans st4)
    clear hg4 hp4 st4 TO
    go_wp2_with fail
    refine TF.out.mono ?_
    rintro r w5 ⟨rfl, v5, hp5, st5⟩
    have hg5 := st5.heap HF4.out HG4.out
    clear c0 c1 c2 c3
    obtain ⟨c0, c1, c2, c3⟩ := CF.out _ hg5
    have TY := Lib.hid (pnum_any p _ v5 _ y w5 hp5 (by omega) (by simp only [List.length_append]; omega))
    have ST5 := Lib.hid (ST4.out.trans st5)
    clear hg5 hp5 st5 TF
    go_wp2_with fail
    refine TY.out.mono ?_
    rintro r w6 ⟨rfl, v6, hp6, st6⟩
    have TB := Lib.hid (pbytes_any p _ v6 _ w6 hp6 (by simp only [List.length_append]; omega))
    have ST6 := Lib.hid (ST5.out.trans st6)
    clear c0 c1 c2 c3 hp6 st6 TY
    go_wp2_with fail
    refine TB.out.mono ?_
    rintro r w7 ⟨u, rfl, own7, t7⟩
    have HO7 := Lib.hid own7
    have HT7 := Lib.hid t7
    clear own7 t7 TB
    go_wp2
    go_ret2
    refine ⟨u, rfl, ?_, ?_⟩
    · rw [HPF.out, HFM.out]
      have h := own_more HO7.out (base' := w.heap.size) (by have := HT2.out.size; have := ST6.out.1.size; omega)
      simp only [List.append_assoc] at h ⊢
      exact h
    · refine (HT2.out.trans ST6.out.1 (fun i hi h => ?_)).trans HT7.out (fun _ _ h => h)
      rcases h with h | h
      · omega
      · cases h
  · rw [if_neg hz] at HPF
    have hz1 : ((z : Int) != 0) = true := by simp; omega
    clear hz
    go_enter Tryd.func54, Tryd.ntmps54
    go_upto_region 1 with fail
    change Code.wp _ _ _ _ (w.alloc (.cells #[.slice Ai t.ins.length ci, .slice Ao t.outs.length co, .int .u64 (t.fee : Int), .int .i64 t.exp] 35))
    rw [← hw0]
    clear hw0
    go_wp2_with (go_at_call 39; refine HC.out.mono ?_; rintro r w1 ⟨rfl, t1⟩; have HT1 := Lib.hid t1; clear c0 c1 c2 c3 t1)
    go_ret2
    refine ⟨_, rfl, ?_, HT0.out.trans HT1.out (fun _ _ h => h)⟩
    rw [HPF.out]
    exact World.ownsRow_nil _ _ _ _

end
section
set_option linter.unusedVariables false
set_option linter.unusedSimpArgs false

open Go.RowKit
def exT : Ptx := ⟨[⟨zeros 32, 0, 5, []⟩], [⟨zeros 32, 4⟩], 1, 0⟩
def exZ : Ptx := ⟨[], [], 0, 0⟩
set_option maxRecDepth 100000 in
theorem ex_chk : chk exT = 0 := by decide +kernel
set_option maxRecDepth 100000 in
theorem exZ_chk : chk exZ = 4 := by decide +kernel
set_option maxRecDepth 100000 in
theorem numB_zero : numB 0 = [0] := by simp [numB, klen_zero, beN]
set_option maxRecDepth 100000 in
theorem numB_one : numB 1 = [1, 1] := numB_valB [1] (by rintro x r ⟨⟩; decide) (by decide)
set_option maxRecDepth 100000 in
theorem numB_four : numB 4 = [1, 4] := numB_valB [4] (by rintro x r ⟨⟩; decide) (by decide)
set_option maxRecDepth 100000 in
theorem numB_five : numB 5 = [1, 5] := numB_valB [5] (by rintro x r ⟨⟩; decide) (by decide)
set_option maxRecDepth 100000 in
theorem ex_len : (putF exT).length = 77 := by
  unfold putF
  rw [if_pos ex_chk]
  simp [formB, insF, inF, outsF, outF, exT, numB_zero, numB_one, numB_four, numB_five, zeros]
set_option maxRecDepth 100000 in
theorem wpList_val {P : Program} {ops : Array Oper} {rest : List Oper} {o : Oper} {a : Act} {w : World} {Q : Exit → Act → World → Prop} (hgd : o.guard = none) (v : Value) (w' : World) (hr : (execOp a.eval o).run P w = .ok (.value v) w')
    (h : wpList P ops Q rest (a.put o.dst v) w') : wpList P ops Q (o :: rest) a w := by
  refine wpList_plain hgd fun K hK => ?_
  unfold Oper.wp
  rw [hr]
  exact hK _ _ h
def EIn : Array Value := (Pin.cells ⟨zeros 32, 0, 5, []⟩ none 0).toArray
def EOut : Array Value := (Pout.cells ⟨zeros 32, 4⟩).toArray
end
end Go.Proofs.YtoclfohgchlpnaaDoor
