/- Merged: 'Read' with a reader that holds a variable of its caller. A transaction read: what each reading answers, as plain functions. The contracts of 'readIns' and 'readOuts'. The contract of 'readOuts'. The contract of the reader of a transaction. The contract of 'Read'. Loads of a point and of an output as one rule of the walk. The contract of the document's Check. The contract of the document's Same. -/
import Derived.Test.YtpoddemokeppmaaDoorTxX
import Derived.OwnWalk
import Derived.Laws.ResultCell
import Derived.Laws.Rows
import Derived.Deep.QuietTactic
import Derived.BigQuiet
namespace Go.Proofs.YtpoddemokeppmaaDoor
section
set_option linter.unusedVariables false

open Go.RowKit
set_option maxRecDepth 100000 in
theorem look_cap (e E : Nat) (G : FuncId) (x : Value) (w : World) (Rok Rno : World → Prop) (hG : ∀ (args : Array Value) (w : World), (callFunc G args).run Tryd.prog w = .ok (.enter G args) w)
    (hdo : Calls Tryd.prog G #[.pointer (some ⟨e, 0, none⟩), x] (w.alloc (.cells #[.pointer (some ⟨e, 0, none⟩)] 67)) fun r w' =>
      (r = .returned (.tuple #[]) ∧ Rok w') ∨ (r = pan E ∧ Rno w' ∧ (∃ A n c y, EyeAt w' e E A n c y) ∧ w'.cell? ⟨w.heap.size, 0, none⟩ = some (.pointer (some ⟨e, 0, none⟩)))) :
    Calls Tryd.prog 59 #[.pointer (some ⟨e, 0, none⟩), .func (.func G) #[] #[x]] w fun r w' => r = .returned (.tuple #[]) ∧ (Rok w' ∨ Rno w') := by
  have hmf : ∀ (fn : Fn) (first cap : Array Value) (w : World), (Instr.makeFunc fn first cap).run Tryd.prog w = .ok (.func fn first cap) w := fun _ _ _ _ => rfl
  have hnf : ∀ w, (binOp .neq 71 (.func (.func G) #[] #[x]) .nilFunc).run Tryd.prog w = .ok (.bool true) w := fun w => by kernel_rfl
  have HD := Lib.hid hdo
  clear hdo
  go_enter_defers Tryd.func59, Tryd.ntmps59
  go_wp2_with fail
  refine HD.out.mono ?_
  rintro r w1 (⟨rfl, h1⟩ | ⟨rfl, h1, ⟨A, n, c, y, he⟩, hc⟩)
  · go_wp2_with fail
    refine leaves_cons (f := 73) (args := #[.pointer (some ⟨w.heap.size, 0, none⟩)]) (by simp) (by simp [go_sem]) ?_
    refine (catch_idle _ _).mono ?_
    rintro r u' w2 ⟨rfl, rfl, rfl⟩
    exact ⟨_, results_none rfl _ _ _, rfl, .inl h1⟩
  · dsimp only [pan]
    refine leaves_cons (f := 73) (args := #[.pointer (some ⟨w.heap.size, 0, none⟩)]) (by simp) (by simp [go_sem]) ?_
    refine (catch_pan _ e E A n c y w1 hc he).mono ?_
    rintro r u' w2 ⟨rfl, rfl, rfl⟩
    simp [Leaves, settle, results, Tryd.results59, go_sem]
    exact .inr h1
set_option maxRecDepth 100000 in
theorem read_cap (G : FuncId) (x : Value) (A : Option Addr) (c : Nat) (bs : List B8) (w : World) (N M : Nat → Prop) (R : List B8 → World → Prop) (F : Nat → World → Prop)
    (hG : ∀ (args : Array Value) (w : World), (callFunc G args).run Tryd.prog w = .ok (.enter G args) w)
    (hs : SlN w M A (bs.map bv)) (hA : A = none → c = 0) (hc : bs.length ≤ c) (hlen : bs.length ≤ 1099511627776) (hN : ¬ N (w.heap.size + 2) ∧ ¬ N (w.heap.size + 3))
    (hdo : ∀ w1, Turn (fun _ => False) w w1 → w1.heap.size = w.heap.size + 4 → Eye0 w1 (w.heap.size + 1) w.heap.size (fun i => M i ∨ w.heap.size ≤ i) bs → Calls Tryd.prog G #[.pointer (some ⟨w.heap.size + 1, 0, none⟩), x] w1 fun r w2 => Turn N w1 w2 ∧
      ((r = .returned (.tuple #[]) ∧ ∃ l, Eye0 w2 (w.heap.size + 1) w.heap.size (fun i => M i ∨ w.heap.size ≤ i) l ∧ R l w2) ∨ (r = pan w.heap.size ∧ ∃ k, k ≠ 0 ∧ EyeX w2 (w.heap.size + 1) w.heap.size k ∧ F k w2))) :
    Calls Tryd.prog 33 #[.slice A bs.length c, .func (.func G) #[] #[x]] w fun r w' => ∃ w2, Turn (fun i => i = w.heap.size + 1) w2 w' ∧
      ((∃ l, R l w2 ∧ r = .returned (.int .i64 (if l = [] then 0 else 3))) ∨ (∃ k : Nat, k ≠ 0 ∧ F k w2 ∧ r = .returned (.int .i64 (k : Int)))) := by
  have hmf : ∀ (fn : Fn) (first cap : Array Value) (w : World), (Instr.makeFunc fn first cap).run Tryd.prog w = .ok (.func fn first cap) w := fun _ _ _ _ => rfl
  go_enter_defers Tryd.func33, Tryd.ntmps33
  go_wp2_with fail
  obtain ⟨W3, hW3⟩ : ∃ W3, W3 = ((w.alloc (.cells #[Value.int IntKind.i64 0] 98)).alloc (.cells #[Value.slice A bs.length c, Value.pointer (some { block := w.heap.size, off := 0 })] 100)).alloc (.cells #[Value.pointer (some { block := w.heap.size + 1, off := 0 })] 67) := ⟨_, rfl⟩
  have t3 : Turn (fun _ => False) w W3 := by rw [hW3]; exact (((Turn.refl _ w).alloc _).alloc _).alloc _
  have s3 : W3.heap.size = w.heap.size + 3 := by rw [hW3]; simp
  have q3 : W3.cell? ⟨w.heap.size + 1 + 1, 0, none⟩ = some (.pointer (some ⟨w.heap.size + 1, 0, none⟩)) := by
    have := heap_alloc_new ((w.alloc (.cells #[Value.int IntKind.i64 0] 98)).alloc (.cells #[Value.slice A bs.length c, Value.pointer (some { block := w.heap.size, off := 0 })] 100)) (.cells #[Value.pointer (some { block := w.heap.size + 1, off := 0 })] 67)
    rw [← hW3] at this
    simp only [World.size_alloc] at this
    rw [cell_of_row W3 _ 0 _ _ _ this]; rfl
  have e3 : Eye0 W3 (w.heap.size + 1) w.heap.size (fun i => M i ∨ w.heap.size ≤ i) bs := by
    refine Eye0.weak (N := fun i => M i ∨ w.heap.size ≤ i) ⟨A, c, ⟨?_, ?_⟩, fun j u hu => ?_, hc, hA, .inr (by omega), .inr (Nat.le_refl _), hlen⟩ (fun _ h => h) (.inr (by omega)) (.inr (Nat.le_refl _))
    · rw [hW3, Below.heap_alloc _ _ _ (by simp)]; exact heap_alloc2_new w _ _
    · rw [hW3, Below.heap_alloc _ _ _ (by simp; omega)]; exact heap_alloc2_old w _ _
    · obtain ⟨ad, e1, hb, hcl⟩ := hs j u hu
      have hlt := World.block_lt_of_cell? w _ hcl
      rw [add_block] at hlt
      exact ⟨ad, e1, fun h => h.elim hb (fun h => by omega), t3.cell hcl (fun h => h)⟩
  have HL := Lib.hid (look_cap (w.heap.size + 1) w.heap.size G x W3
    (fun w2 => ∃ l, Eye0 w2 (w.heap.size + 1) w.heap.size (fun i => M i ∨ w.heap.size ≤ i) l ∧ R l w2 ∧ w2.cell? ⟨w.heap.size + 1 + 1, 0, none⟩ = some (.pointer (some ⟨w.heap.size + 1, 0, none⟩)))
    (fun w2 => ∃ k, k ≠ 0 ∧ EyeX w2 (w.heap.size + 1) w.heap.size k ∧ F k w2 ∧ w2.cell? ⟨w.heap.size + 1 + 1, 0, none⟩ = some (.pointer (some ⟨w.heap.size + 1, 0, none⟩))) hG
    (by
      refine (hdo _ (t3.alloc _) (by simp [s3]) (e3.alloc _)).mono ?_
      rintro r w2 ⟨tN, (⟨rfl, l, hl, hr⟩ | ⟨rfl, k, hk, hx, hf⟩)⟩
      · exact .inl ⟨rfl, l, hl, hr, tN.cell (((Turn.refl (fun _ => False) W3).alloc _).cell q3 (fun h => h)) hN.1⟩
      · refine .inr ⟨rfl, ⟨k, hk, hx, hf, tN.cell (((Turn.refl (fun _ => False) W3).alloc _).cell q3 (fun h => h)) hN.1⟩, ?_, ?_⟩
        · obtain ⟨A', n', c', h'⟩ := hx
          exact ⟨A', n', c', k, h'⟩
        · refine tN.cell ?_ (by rw [s3]; exact hN.2)
          rw [cell_of_row _ _ 0 _ _ _ (heap_alloc_new W3 _)]; rfl))
  rw [← hW3]
  clear hW3 t3 s3 q3 e3 hdo hs hlen
  refine HL.out.mono ?_
  rintro r w2 ⟨rfl, (⟨l, hl, hr, hq⟩ | ⟨k, hk, hx, hf, hq⟩)⟩
  · obtain ⟨A2, c2, he, -⟩ := id hl
    obtain ⟨c0, c1, c2', z0, z1, z2⟩ := he.cells
    have HE := Lib.hid (fun w => ended_any (w.heap.size + 1) w.heap.size A2 l.length c2 0 w)
    have E1 := Lib.hid (ended_any _ _ _ _ _ _ _ he)
    have L1 := Lib.hid (left_any _ _ _ _ _ _ _ he)
    have HHE := Lib.hid he
    have HR := Lib.hid hr
    clear hl he hr HL HE
    by_cases h0 : l = []
    · subst h0
      go_wp2_with (first
        | (go_at_call 60; refine E1.out.mono ?_; rintro r w' ⟨rfl, rfl⟩)
        | (go_at_call 61; refine L1.out.mono ?_; rintro r w' ⟨rfl, rfl⟩))
      refine leaves_cons (f := 58) (args := #[.pointer (some ⟨w.heap.size + 1 + 1, 0, none⟩)]) (by simp) (by simp [go_sem]) ?_
      refine (shut_any _ _ _ _ _ _ _ _ _ hq HHE.out).mono ?_
      rintro r u' w3 ⟨rfl, rfl, ht⟩
      exact ⟨_, results_tmp rfl _ _ _, _, ht, .inl ⟨[], HR.out, rfl⟩⟩
    · have hl0 : (0 : Int) < (l.length : Int) := by have := List.length_pos_iff.2 h0; omega
      have hi : (if l = [] then (0 : Int) else 3) = 3 := by rw [if_neg h0]
      have HI := Lib.hid hi
      clear hi
      go_wp2_with (first
        | (go_at_call 60; refine E1.out.mono ?_; rintro r w' ⟨rfl, rfl⟩)
        | (go_at_call 61; refine L1.out.mono ?_; rintro r w' ⟨rfl, rfl⟩))
      refine leaves_cons (f := 58) (args := #[.pointer (some ⟨w.heap.size + 1 + 1, 0, none⟩)]) (by simp) (by simp [go_sem]) ?_
      refine (shut_any _ _ _ _ _ _ _ _ _ hq HHE.out).mono ?_
      rintro r u' w3 ⟨rfl, rfl, ht⟩
      exact ⟨_, results_tmp rfl _ _ _, _, ht, .inl ⟨l, HR.out, by rw [HI.out]; rfl⟩⟩
  · obtain ⟨A2, n2, c2, he⟩ := hx
    obtain ⟨c0, c1, c2', z0, z1, z2⟩ := he.cells
    have E1 := Lib.hid (ended_any _ _ _ _ _ _ _ he)
    have hkd : decide (k ≠ 0) = true := decide_eq_true hk
    have HHE := Lib.hid he
    have HF := Lib.hid hf
    have HK := Lib.hid hk
    rw [hkd] at E1
    clear he hf HL hk hkd
    go_wp2_with (first
      | (go_at_call 60; refine E1.out.mono ?_; rintro r w' ⟨rfl, rfl⟩))
    refine leaves_cons (f := 58) (args := #[.pointer (some ⟨w.heap.size + 1 + 1, 0, none⟩)]) (by simp) (by simp [go_sem]) ?_
    refine (shut_any _ _ _ _ _ _ _ _ _ hq HHE.out).mono ?_
    rintro r u' w3 ⟨rfl, rfl, ht⟩
    exact ⟨_, results_tmp rfl _ _ _, _, ht, .inr ⟨k, HK.out, HF.out, rfl⟩⟩

end
section
set_option linter.unusedVariables false
set_option linter.unusedSimpArgs false

open Go.RowKit
def topN : Nat := 18446744073709551615
/-- One input: the error, what it is, and what is left. -/
def inE (l : List B8) : Nat :=
  if l.length < 32 then 2 else if eNum 15 (l.drop 32) ≠ 0 then eNum 15 (l.drop 32) else if eNum topN (numR (l.drop 32)) ≠ 0 then eNum topN (numR (l.drop 32)) else eText 64 (numR (numR (l.drop 32)))
def inV (l : List B8) : Pin := ⟨l.take 32, (numV (l.drop 32) : Int), numV (numR (l.drop 32)), (numR (numR (numR (l.drop 32)))).take (numV (numR (numR (l.drop 32))))⟩
def inR (l : List B8) : List B8 := (numR (numR (numR (l.drop 32)))).drop (numV (numR (numR (l.drop 32))))
def ouE (l : List B8) : Nat := if l.length < 32 then 2 else eNum topN (l.drop 32)
def ouV (l : List B8) : Pout := ⟨l.take 32, numV (l.drop 32)⟩
def ouR (l : List B8) : List B8 := numR (l.drop 32)
def insR : Nat → List B8 → List B8 | 0, l => l | k + 1, l => inR (insR k l)
def insV : Nat → List B8 → List Pin | 0, _ => [] | k + 1, l => insV k l ++ [inV (insR k l)]
def insE : Nat → List B8 → Nat | 0, _ => 0 | k + 1, l => if insE k l ≠ 0 then insE k l else inE (insR k l)
def ousR : Nat → List B8 → List B8 | 0, l => l | k + 1, l => ouR (ousR k l)
def ousV : Nat → List B8 → List Pout | 0, _ => [] | k + 1, l => ousV k l ++ [ouV (ousR k l)]
def ousE : Nat → List B8 → Nat | 0, _ => 0 | k + 1, l => if ousE k l ≠ 0 then ousE k l else ouE (ousR k l)
/-- All inputs with their number ahead; all outputs. -/
def rinsE (l : List B8) : Nat := if eNum 16 l ≠ 0 then eNum 16 l else insE (numV l) (numR l)
def rinsV (l : List B8) : List Pin := insV (numV l) (numR l)
def rinsR (l : List B8) : List B8 := insR (numV l) (numR l)
def rousE (l : List B8) : Nat := if eNum 16 l ≠ 0 then eNum 16 l else ousE (numV l) (numR l)
def rousV (l : List B8) : List Pout := ousV (numV l) (numR l)
def rousR (l : List B8) : List B8 := ousR (numV l) (numR l)
/-- The fields of a transaction. -/
def bodE (l : List B8) : Nat :=
  if rinsE l ≠ 0 then rinsE l else if rousE (rinsR l) ≠ 0 then rousE (rinsR l) else if eNum topN (rousR (rinsR l)) ≠ 0 then eNum topN (rousR (rinsR l)) else eNum 1099511627776 (numR (rousR (rinsR l)))
def bodV (l : List B8) : Ptx := ⟨rinsV l, rousV (rinsR l), numV (rousR (rinsR l)), (numV (numR (rousR (rinsR l))) : Int)⟩
def bodR (l : List B8) : List B8 := numR (numR (rousR (rinsR l)))
def readE (b : List B8) : Nat := if bodE b ≠ 0 then bodE b else if bodR b ≠ [] then 3 else chk (bodV b)
def readV (b : List B8) : Ptx := if readE b ≠ 0 then exZ else bodV b
set_option maxRecDepth 100000 in
theorem insV_len (k : Nat) (l : List B8) : (insV k l).length = k := by induction k with | zero => rfl | succ k ih => simp [insV, ih]
set_option maxRecDepth 100000 in
theorem ousV_len (k : Nat) (l : List B8) : (ousV k l).length = k := by induction k with | zero => rfl | succ k ih => simp [ousV, ih]
set_option maxRecDepth 100000 in
theorem insE_stop {k n : Nat} {l : List B8} (h : insE k l ≠ 0) (hn : k ≤ n) : insE n l = insE k l := by
  induction n with
  | zero => obtain rfl : k = 0 := by omega
            rfl
  | succ n ih =>
    by_cases he : k = n + 1
    · rw [he]
    · rw [insE, ih (by omega), if_pos h]
set_option maxRecDepth 100000 in
theorem insE_here {k n : Nat} {l : List B8} (h0 : insE k l = 0) (h : inE (insR k l) ≠ 0) (hn : k < n) : insE n l = inE (insR k l) := by
  have h1 : insE (k + 1) l = inE (insR k l) := by rw [insE, if_neg (by omega)]
  rw [insE_stop (k := k + 1) (by rw [h1]; exact h) hn, h1]
set_option maxRecDepth 100000 in
theorem insE_next {k : Nat} {l : List B8} (h0 : insE k l = 0) (h : inE (insR k l) = 0) : insE (k + 1) l = 0 := by rw [insE, if_neg (by omega), h]
set_option maxRecDepth 100000 in
theorem ousE_stop {k n : Nat} {l : List B8} (h : ousE k l ≠ 0) (hn : k ≤ n) : ousE n l = ousE k l := by
  induction n with
  | zero => obtain rfl : k = 0 := by omega
            rfl
  | succ n ih =>
    by_cases he : k = n + 1
    · rw [he]
    · rw [ousE, ih (by omega), if_pos h]
set_option maxRecDepth 100000 in
theorem ousE_here {k n : Nat} {l : List B8} (h0 : ousE k l = 0) (h : ouE (ousR k l) ≠ 0) (hn : k < n) : ousE n l = ouE (ousR k l) := by
  have h1 : ousE (k + 1) l = ouE (ousR k l) := by rw [ousE, if_neg (by omega)]
  rw [ousE_stop (k := k + 1) (by rw [h1]; exact h) hn, h1]
set_option maxRecDepth 100000 in
theorem ousE_next {k : Nat} {l : List B8} (h0 : ousE k l = 0) (h : ouE (ousR k l) = 0) : ousE (k + 1) l = 0 := by rw [ousE, if_neg (by omega), h]
/-- Bytes, inputs and outputs in no block of N. -/
structure BtN (w : World) (N : Nat → Prop) (S : Option Addr) (c : Nat) (b : List B8) : Prop where
  s : SlN w N S (b.map bv)
  a : S = none → c = 0
  c : b.length ≤ c
def InsN (w : World) (N : Nat → Prop) (A : Option Addr) (l : List Pin) : Prop := ∀ i p, l[i]? = some p → p.ok ∧ ∃ b o S c, A = some ⟨b, o, none⟩ ∧ ¬ N b ∧ BtN w N S c p.b ∧ w.rangeAt b (o + i * 35) (p.cells S c)
def OusN (w : World) (N : Nat → Prop) (A : Option Addr) (l : List Pout) : Prop := ∀ i p, l[i]? = some p → p.ok ∧ ∃ b o, A = some ⟨b, o, none⟩ ∧ ¬ N b ∧ w.rangeAt b (o + i * 33) p.cells
section
variable {w w' : World} {N N' T : Nat → Prop} {A S : Option Addr} {c : Nat} {b : List B8} {l : List Pin} {k : List Pout}
set_option maxRecDepth 100000 in
theorem BtN.turn (h : BtN w N S c b) (t : Turn T w w') (hT : ∀ i, T i → N i) (hN : ∀ i, i < w.heap.size → N' i → N i) : BtN w' N' S c b := ⟨h.s.turn t hT hN, h.a, h.c⟩
set_option maxRecDepth 100000 in
theorem range_lt {b o : Nat} {cs : List Value} (h : w.rangeAt b o cs) (hc : 0 < cs.length) : b < w.heap.size := by
  have := h 0 _ (List.getElem?_eq_getElem hc)
  exact World.block_lt_of_cell? w _ this
set_option maxRecDepth 100000 in
theorem InsN.turn (h : InsN w N A l) (t : Turn T w w') (hT : ∀ i, T i → N i) (hN : ∀ i, i < w.heap.size → N' i → N i) : InsN w' N' A l := fun i p hi => by
  obtain ⟨hok, b, o, S, c, e, hb, hs, hr⟩ := h i p hi
  exact ⟨hok, b, o, S, c, e, fun h => hb (hN _ (range_lt hr (by rw [p.len S c hok.d]; omega)) h), hs.turn t hT hN, t.range hr (fun h => hb (hT _ h))⟩
set_option maxRecDepth 100000 in
theorem OusN.turn (h : OusN w N A k) (t : Turn T w w') (hT : ∀ i, T i → N i) (hN : ∀ i, i < w.heap.size → N' i → N i) : OusN w' N' A k := fun i p hi => by
  obtain ⟨hok, b, o, e, hb, hr⟩ := h i p hi
  exact ⟨hok, b, o, e, fun h => hb (hN _ (range_lt hr (by rw [p.len hok.d]; omega)) h), t.range hr (fun h => hb (hT _ h))⟩
set_option maxRecDepth 100000 in
theorem InsN.at (h : InsN w N A l) : InsAt w w.heap.size A l := fun i p hi => by
  obtain ⟨hok, b, o, S, c, e, hb, hs, hr⟩ := h i p hi
  exact ⟨hok, b, o, S, c, e, range_lt hr (by rw [p.len S c hok.d]; omega), ⟨hs.s.sl, hs.a, hs.c⟩, hr⟩
set_option maxRecDepth 100000 in
theorem OusN.at (h : OusN w N A k) : OutsAt w w.heap.size A k := fun i p hi => by
  obtain ⟨hok, b, o, e, hb, hr⟩ := h i p hi
  exact ⟨hok, b, o, e, range_lt hr (by rw [p.len hok.d]; omega), hr⟩
set_option maxRecDepth 100000 in
theorem there_lay {g : Nat} {C : Array Value} {t : TypeId} (h : w.heap[g]? = some (.cells C t (0, 0))) (n : Nat) (hn : n ≤ C.size) : w.there g 0 n := fun j hj => by
  refine ⟨?_, frozen_of_row w g _ _ _ h⟩
  rw [cell_of_row w g _ _ _ _ h, Nat.zero_add, Array.getElem?_eq_getElem (by omega)]; rfl
set_option maxRecDepth 100000 in
theorem there_turn {g o n : Nat} (h : w.there g o n) (t : Turn T w w') (hg : ¬ T g) : w'.there g o n := fun j hj => by
  obtain ⟨h1, h2⟩ := h j hj
  obtain ⟨v, hv⟩ := Option.isSome_iff_exists.1 h1
  have hb := t.block g (World.block_lt_of_cell? w _ hv) hg
  refine ⟨?_, ?_⟩
  · rw [World.cell?_of_block hb]; exact h1
  · rw [World.frozen?_of_block hb]; exact h2
set_option maxRecDepth 100000 in
theorem there_sub {g n : Nat} (h : w.there g 0 n) (o m : Nat) (ho : o + m ≤ n) : w.there g o m := fun j hj => by
  have := h (o + j) (by omega)
  rwa [Nat.zero_add] at this
set_option maxRecDepth 100000 in
theorem there_cell {g n : Nat} (h : w.there g 0 n) (o : Nat) (ho : o < n) : ∃ v, w.cell? ⟨g, o, none⟩ = some v ∧ w.frozen? ⟨g, o, none⟩ = false := by
  obtain ⟨h1, h2⟩ := h o ho
  rw [Nat.zero_add] at h1 h2
  obtain ⟨v, hv⟩ := Option.isSome_iff_exists.1 h1
  exact ⟨v, hv, h2⟩
end

end
section
set_option linter.unusedVariables false
set_option linter.unusedSimpArgs false

open Go.RowKit
set_option maxRecDepth 100000 in
theorem Turn.setCells {S : Nat → Prop} {a : World} (g : Nat) (hS : g < a.heap.size → S g) : ∀ (vs : List Value) (o : Nat) (b : World), Turn S a b → Turn S a (b.setCells g o vs)
  | [], _, _, h => h
  | v :: vs, o, b, h => Turn.setCells g hS vs (o + 1) (b.setCell ⟨g, o, none⟩ v) (h.setCell _ _ hS)
set_option maxRecDepth 100000 in
theorem info_in : (Tryd.prog.info? 47).map (fun i => (i.zero, i.size, i.bytes)) = some (some (.agg ZIn), 35, 72) := by kernel_rfl
set_option maxRecDepth 100000 in
theorem info_out : (Tryd.prog.info? 49).map (fun i => (i.zero, i.size, i.bytes)) = some (some (.agg ZOut), 33, 40) := by kernel_rfl
set_option maxRecDepth 100000 in
theorem own_there {w : World} {B n s g c : Nat} {e : TypeId} {xs : List Value} (h : w.ownsRow B e s (.slice (some ⟨g, 0, none⟩) n c) n xs) : w.there g 0 (n * s) := by
  rcases h.2 with ⟨e, -⟩ | ⟨g', cap, cur, e, hB, hg, hc, hm, hcs, ht⟩
  · cases e
  · injection e with e1 e2 e3
    injection e1 with e1
    injection e1 with e1
    subst e1
    exact there_lay hg _ (by rw [hcs]; exact Nat.mul_le_mul_right _ hc)
/-- The cells of a row below a place are as they were. -/
def KeepLo (w w' : World) (G lo : Nat) : Prop := ∀ o v, o < lo → w.cell? ⟨G, o, none⟩ = some v → w'.cell? ⟨G, o, none⟩ = some v
set_option maxRecDepth 100000 in
theorem KeepLo.refl (w : World) (G lo : Nat) : KeepLo w w G lo := fun _ _ _ h => h
set_option maxRecDepth 100000 in
theorem KeepLo.trans {a b c : World} {G lo : Nat} (h : KeepLo a b G lo) (k : KeepLo b c G lo) : KeepLo a c G lo := fun o v ho hv => k o v ho (h o v ho hv)
set_option maxRecDepth 100000 in
theorem KeepLo.less {a b : World} {G lo lo' : Nat} (h : KeepLo a b G lo) (hl : lo' ≤ lo) : KeepLo a b G lo' := fun o v ho hv => h o v (by omega) hv
set_option maxRecDepth 100000 in
theorem KeepLo.turn {a b : World} {G lo : Nat} {S : Nat → Prop} (t : Turn S a b) (hS : ¬ S G) : KeepLo a b G lo := fun o v _ hv => t.cell hv hS
set_option maxRecDepth 100000 in
theorem KeepLo.setCell (w : World) (G o : Nat) (v : Value) : KeepLo w (w.setCell ⟨G, o, none⟩ v) G o := fun o' u ho hu => by
  rw [World.cell?_setCell_other _ _ _ _ (fun e => by injection e with e1 e2; omega)]; exact hu
set_option maxRecDepth 100000 in
theorem KeepLo.setCells (w : World) (G o : Nat) (vs : List Value) : KeepLo w (w.setCells G o vs) G o := fun o' u ho hu => by
  rw [World.cell?_setCells_out G vs o w ⟨G, o', none⟩ (fun _ _ => .inl ho)]; exact hu
set_option maxRecDepth 100000 in
theorem KeepLo.range {a b : World} {G lo o : Nat} {cs : List Value} (h : KeepLo a b G lo) (hr : a.rangeAt G o cs) (hl : o + cs.length ≤ lo) : b.rangeAt G o cs := fun j v hj => h _ _ (by have := (List.getElem?_eq_some_iff.1 hj).1; omega) (hr j v hj)
set_option maxRecDepth 100000 in
theorem range_app {w : World} {b o : Nat} {xs ys : List Value} (h : w.rangeAt b o xs) (k : w.rangeAt b (o + xs.length) ys) : w.rangeAt b o (xs ++ ys) := fun j v hj => by
  by_cases hl : j < xs.length
  · rw [List.getElem?_append_left hl] at hj; exact h j v hj
  · rw [List.getElem?_append_right (by omega)] at hj
    have := k _ v hj
    rwa [show o + xs.length + (j - xs.length) = o + j by omega] at this
set_option maxRecDepth 100000 in
theorem range_one {w : World} {b o : Nat} {u : Value} (h : w.cell? ⟨b, o, none⟩ = some u) : w.rangeAt b o [u] := fun j v hj => by
  obtain rfl : j = 0 := by have := (List.getElem?_eq_some_iff.1 hj).1; simp at this; omega
  simp at hj
  rw [← hj]; exact h
set_option maxRecDepth 100000 in
theorem cell_set {w : World} {b o : Nat} {v u : Value} (h : w.cell? ⟨b, o, none⟩ = some v) : (w.setCell ⟨b, o, none⟩ u).cell? ⟨b, o, none⟩ = some u := by
  exact World.cell?_setCell_same _ _ _ h
set_option maxRecDepth 100000 in
theorem own_sln {w : World} {B n c : Nat} {e : TypeId} {A : Option Addr} {xs : List Value} (h : w.ownsRow B e 1 (.slice A n c) n xs) : SlN w (fun i => i < B) A xs := fun j u hu => by
  rcases h.2 with ⟨e, h0⟩ | ⟨g, cap, cur, e, hB, hg, hc, hm, hcs, ht⟩
  · have hl := h.1
    injection e with e1 e2 e3
    subst e2
    have : xs = [] := List.eq_nil_of_length_eq_zero (by omega)
    subst this; simp at hu
  · injection e with e1 e2 e3
    subst e1
    exact ⟨_, rfl, by show ¬ g < B; omega, h.cells (g := g) rfl j u hu⟩
/-- What reading inputs comes to. -/
def RinsPost (e E : Nat) (N : Nat → Prop) (l : List B8) (w : World) (r : Ending) (w' : World) : Prop :=
  (rinsE l = 0 ∧ ∃ G, r = .returned (.slice (some ⟨G, 0, none⟩) (numV l) (numV l)) ∧ InsN w' (fun i => i < w.heap.size) (some ⟨G, 0, none⟩) (rinsV l) ∧ Eye0 w' e E N (rinsR l) ∧ Turn (fun i => i = e) w w') ∨
  (rinsE l ≠ 0 ∧ r = pan E ∧ EyeX w' e E (rinsE l) ∧ Turn (fun i => i = e ∨ i = E) w w')
set_option maxRecDepth 100000 in
theorem rins_no {e E G : Nat} {N : Nat → Prop} {l : List B8} {w w2 wj w' : World} {x : Nat} (hX : rinsE l = x) (hx : x ≠ 0) (he : EyeX w' e E x) (t2 : Turn (fun i => i = e) w w2) (t3 : Turn (fun i => i = e ∨ i = G) w2 wj) (t4 : Turn (fun i => i = e ∨ i = E) wj w') (hG : w.heap.size ≤ G) : RinsPost e E N l w (pan E) w' := by
  refine Or.inr ⟨by rw [hX]; exact hx, rfl, by rw [hX]; exact he, ?_⟩
  exact ((t2.mono (fun _ _ h => .inl h)).trans t3 (fun i hi h => by rcases h with h | h; exact .inl h; omega)).trans t4 (fun _ _ h => h)
/-- The first k inputs of a row. -/
def RowIns (w : World) (K G : Nat) (l : List Pin) : Prop := ∀ i p, l[i]? = some p → p.ok ∧ ∃ S c, BtN w (fun i => i < K) S c p.b ∧ w.rangeAt G (i * 35) (p.cells S c)
set_option maxRecDepth 100000 in
set_option maxHeartbeats 4000000 in
theorem readIns_any (e E : Nat) (N : Nat → Prop) (l : List B8) (w : World) (h : Eye0 w e E N l) (hN : ∀ i, w.heap.size ≤ i → N i) :
    Calls Tryd.prog 35 #[.pointer (some ⟨e, 0, none⟩)] w (RinsPost e E N l w) := by
  obtain ⟨i0, hi, hz0, hz1, hz2⟩ := info_parts info_in
  obtain ⟨hle, hlE, hne, hNe, hNE, hll⟩ := h.lt
  by_cases hx : eNum 16 l = 0
  · have T0 := Lib.hid (num_yes e E N 16 l w h hx)
    have hnv : numV l ≤ 16 := by unfold eNum at hx; split at hx <;> (try split at hx) <;> omega
    have HX := Lib.hid (show rinsE l = insE (numV l) (numR l) by unfold rinsE; rw [if_neg (by omega)])
    have HV := Lib.hid (show rinsV l = insV (numV l) (numR l) from rfl)
    have HR := Lib.hid (show rinsR l = insR (numV l) (numR l) from rfl)
    have HN := Lib.hid hN
    obtain ⟨n, hn⟩ : ∃ n, n = numV l := ⟨_, rfl⟩
    rw [← hn] at T0 HX HV HR hnv
    have HNN := Lib.hid hn
    clear h hN hx hn
    generalize numR l = l1 at *
    go_enter Tryd.func35, Tryd.ntmps35
    go_wp2_with fail
    refine T0.out.mono ?_
    rintro r w1 ⟨rfl, he1, ht1⟩
    have HE1 := Lib.hid he1
    have HT1 := Lib.hid ht1
    clear he1 ht1 T0
    go_wp2_with (at_make; refine wpList_make_full _ rfl _ _ 22 rfl w1.heap.size 47 i0 (.agg ZIn) 35 Tryd.underlying22 hi hz0 hz1 _ _ _ _ n rfl rfl rfl rfl ?b2 ?b3 ?b4 ?_)
    case b2 => rw [hz2]; omega
    case b3 => unfold maxLen; omega
    case b4 => simp
    intro w2 hown2 hgrow2
    have HTH := Lib.hid (own_there hown2)
    have ht2 : Turn (fun _ => False) w1 w2 := (Turn.refl _ w1).grown hgrow2 (fun _ _ e => by cases e)
    have HGlt := Lib.hid (show w1.heap.size < w2.heap.size from by
      rcases hown2.2 with ⟨e, -⟩ | ⟨g', cap, cur, e, hB, hg, -⟩
      · cases e
      · injection e with e1 e2 e3
        injection e1 with e1
        injection e1 with e1
        rw [e1]; exact lt_of_block hg)
    have HE2 := Lib.hid (HE1.out.turn ht2 (fun h => h) (fun h => h) (fun _ h => h.elim))
    have HT2 := Lib.hid (HT1.out.trans ht2 (fun _ _ h => h.elim))
    have HS1 := Lib.hid HT1.out.size
    clear hown2 hgrow2 ht2 HE1 HT1
    generalize w1.heap.size = G at *
    go_wp2
    go_loopw [10] (fun i wr => ∃ k : Nat, k ≤ n ∧ i = .int .i64 k ∧ insE k l1 = 0 ∧ wr.there G 0 (n * 35) ∧ RowIns wr w2.heap.size G (insV k l1) ∧ Eye0 wr e E N (insR k l1) ∧ Turn (fun i => i = e ∨ i = G) w2 wr) (fun i _ => n - (intOf i).toNat)
    case atStart => exact ⟨0, Nat.zero_le _, rfl, rfl, HTH.out, (fun i p hi => by simp [insV] at hi), HE2.out, Turn.refl _ _⟩
    case round =>
      clear HTH HE2
      obtain ⟨k, hk, rfl, h0, hth, hrow, he, ht⟩ := hrel
      by_cases hlt : k < n
      · have hkn : k * 35 + 35 ≤ n * 35 := by omega
        obtain ⟨lk, hlk⟩ : ∃ lk, lk = insR k l1 := ⟨_, rfl⟩
        have HVS := Lib.hid (show insV (k + 1) l1 = insV k l1 ++ [inV lk] by rw [hlk]; rfl)
        have HRS := Lib.hid (show insR (k + 1) l1 = inR lk by rw [hlk]; rfl)
        have HERR := Lib.hid (fun (h1 : inE lk ≠ 0) => show rinsE l = inE lk by rw [HX.out, hlk] at *; exact insE_here h0 (by rw [← hlk]; exact h1) hlt)
        have HNXT := Lib.hid (fun (h1 : inE lk = 0) => insE_next h0 (by rw [← hlk]; exact h1))
        rw [← hlk] at he
        have hlkl := he.lt.2.2.2.2.2
        have HRW := Lib.hid hrow
        have HTR := Lib.hid ht
        have HTH := Lib.hid hth
        have HNG := Lib.hid (show N G from HN.out G HS1.out)
        have hGe : G ≠ e ∧ G ≠ E := by have := HS1.out; omega
        have hGw : G < wr.heap.size := by have := ht.size; have := HGlt.out; omega
        have HKT := Lib.hid (insV_len k l1)
        clear hrow ht h0 hlk hth
        by_cases h32 : lk.length < 32
        · have T := Lib.hid (id_no e E N lk wr he h32)
          have HE2 := Lib.hid (show inE lk = 2 by unfold inE; rw [if_pos h32])
          clear he h32
          go_wp2_with (go_at_call 62; refine T.out.mono ?_; rintro r w3 ⟨rfl, he3, ht3⟩; dsimp only [pan]; have HE3 := Lib.hid he3; have HT3 := Lib.hid ht3; clear he3 ht3)
          have hz := HERR.out (by rw [HE2.out]; decide)
          exact ⟨rfl, rins_no (hz.trans HE2.out) (by decide) HE3.out HT2.out HTR.out HT3.out HS1.out⟩
        · have T := Lib.hid (id_yes e E N lk wr he (by omega))
          obtain ⟨D, hD⟩ : ∃ D, D = ((lk.take 32).map bv).toArray := ⟨_, rfl⟩
          have hd32 : (lk.take 32).length = 32 := by rw [List.length_take]; omega
          have sD : D.size = 32 := by rw [hD]; simp; omega
          rw [← hD] at T
          have H1 := Lib.hid (show (Tryd.prog.info? 35).map (·.size) = some D.size by rw [sD]; kernel_rfl)
          have H3 := Lib.hid (show D.all (·.oneCell') = true by rw [hD]; exact all_oneCell_toArray (bv_one _))
          have HD := Lib.hid hD
          have HSD := Lib.hid sD
          have HD32 := Lib.hid hd32
          clear he hD sD hd32
          go_wp2_with fail
          refine T.out.mono ?_
          rintro r w3 ⟨rfl, he3, ht3⟩
          have hth3 := there_turn HTH.out ht3 hGe.1
          have HTS := Lib.hid (show w3.there G (k * 35) D.size by rw [HSD.out]; exact there_sub hth3 _ _ (by omega))
          have HTH3 := Lib.hid hth3
          have HE3 := Lib.hid he3
          have HT3 := Lib.hid ht3
          clear he3 ht3 hth3 T
          go_wp2_with (refine wpList_store_mid rfl _ _ _ rfl G (k * 35) D rfl rfl HTS.out H1.out H3.out ?_; refine stop ?_)
          unfold Stop
          obtain ⟨w4, hw4⟩ : ∃ w4, w4 = w3.setCells G (k * 35) D.toList := ⟨_, rfl⟩
          have hr4 : w4.rangeAt G (k * 35) ((lk.take 32).map bv) := by
            rw [hw4]
            have h := World.rangeAt_setCells_same w3 G (k * 35) D.toList (by simpa using HTS.out)
            rw [HD.out] at h ⊢
            simpa using h
          have HR4 := Lib.hid hr4
          have HTH4 := Lib.hid (show w4.there G 0 (n * 35) by rw [hw4]; exact World.there_setCells HTH3.out _ _ _)
          have HK4 := Lib.hid (show KeepLo wr w4 G (k * 35) by rw [hw4]; exact (KeepLo.turn HT3.out hGe.1).trans (KeepLo.setCells _ _ _ _))
          have ht4 : Turn (fun i => i = G) w3 w4 := by rw [hw4]; exact Turn.setCells (S := fun i => i = G) G (fun _ => rfl) _ _ _ (Turn.refl _ _)
          have HT4 := Lib.hid (show Turn (fun i => i = e ∨ i = G) wr w4 from (HT3.out.mono (fun _ _ h => .inl h)).trans ht4 (fun _ _ h => .inr h))
          have HE4 := Lib.hid (HE3.out.turn ht4 (fun h => hGe.1 h.symm) (fun h => hGe.2 h.symm) (fun i h => by rw [h]; exact HNG.out))
          have HZ4 := Lib.hid (Nat.le_trans HT3.out.size ht4.size)
          rw [← hw4]
          clear hw4 hr4 ht4 HTS HTH3 HE3 HTH
          by_cases h15 : eNum 15 (lk.drop 32) = 0
          · have T := Lib.hid (num_yes e E N 15 (lk.drop 32) w4 HE4.out h15)
            have hx15 : numV (lk.drop 32) ≤ 15 := by unfold eNum at h15; split at h15 <;> (try split at h15) <;> omega
            have HH15 := Lib.hid h15
            obtain ⟨x, hx⟩ : ∃ x, x = numV (lk.drop 32) := ⟨_, rfl⟩
            rw [← hx] at T hx15
            have HXX := Lib.hid hx
            clear h15 hx
            go_wp2_with fail
            refine T.out.mono ?_
            rintro r w5 ⟨rfl, he5, ht5⟩
            have hth5 := there_turn HTH4.out ht5 hGe.1
            obtain ⟨v5, c5, z5⟩ := there_cell hth5 (k * 35 + 32) (by omega)
            have HC5 := Lib.hid c5
            have HTH5 := Lib.hid hth5
            have HE5 := Lib.hid he5
            have HT5 := Lib.hid ht5
            clear he5 ht5 hth5 T
            go_upto_region 7 with fail
            obtain ⟨w6, hw6⟩ : ∃ w6, w6 = w5.setCell ⟨G, k * 35 + 32, none⟩ (.int .i64 (x : Int)) := ⟨_, rfl⟩
            have ht6 : Turn (fun i => i = G) w5 w6 := by rw [hw6]; exact (Turn.refl _ _).setCell _ _ (fun _ => rfl)
            have HTH6 := Lib.hid (show w6.there G 0 (n * 35) by rw [hw6]; exact World.there_setCells HTH5.out G (k * 35 + 32) [.int .i64 (x : Int)])
            have HK6 := Lib.hid (show KeepLo w4 w6 G (k * 35 + 32) by rw [hw6]; exact (KeepLo.turn HT5.out hGe.1).trans (KeepLo.setCell _ _ _ _))
            have HC6 := Lib.hid (show w6.cell? ⟨G, k * 35 + 32, none⟩ = some (.int .i64 (x : Int)) by rw [hw6]; exact cell_set HC5.out)
            have HT6 := Lib.hid (show Turn (fun i => i = e ∨ i = G) wr w6 from (HT4.out.trans HT5.out (fun _ _ h => .inl h)).trans ht6 (fun _ _ h => .inr h))
            have HE6 := Lib.hid (HE5.out.turn ht6 (fun h => hGe.1 h.symm) (fun h => hGe.2 h.symm) (fun i h => by rw [h]; exact HNG.out))
            have HZ6 := Lib.hid (Nat.le_trans HZ4.out (Nat.le_trans HT5.out.size ht6.size))
            rw [← hw6]
            clear hw6 ht6 HTH5 HE5 HTH4 HE4 c5 z5 HC5
            obtain ⟨l2, hl2⟩ : ∃ l2, l2 = numR (lk.drop 32) := ⟨_, rfl⟩
            rw [← hl2] at HE6
            have HL2 := Lib.hid hl2
            clear hl2
            by_cases htop : eNum topN l2 = 0
            · have T := Lib.hid (num_yes e E N topN l2 w6 HE6.out htop)
              have hy64 : numV l2 < 18446744073709551616 := numV_lt l2 (by unfold eNum at htop; split at htop <;> omega)
              have HHT := Lib.hid htop
              obtain ⟨y, hy⟩ : ∃ y, y = numV l2 := ⟨_, rfl⟩
              rw [← hy] at T hy64
              have HYY := Lib.hid hy
              clear htop hy
              go_wp2_with fail
              refine T.out.mono ?_
              rintro r w7 ⟨rfl, he7, ht7⟩
              have hth7 := there_turn HTH6.out ht7 hGe.1
              obtain ⟨v7, c7, z7⟩ := there_cell hth7 (k * 35 + 33) (by omega)
              have HC7 := Lib.hid c7
              have HTH7 := Lib.hid hth7
              have HE7 := Lib.hid he7
              have HT7 := Lib.hid ht7
              clear he7 ht7 hth7 T
              go_upto_region 8 with fail
              obtain ⟨w8, hw8⟩ : ∃ w8, w8 = w7.setCell ⟨G, k * 35 + 33, none⟩ (.int .u64 (y : Int)) := ⟨_, rfl⟩
              have ht8 : Turn (fun i => i = G) w7 w8 := by rw [hw8]; exact (Turn.refl _ _).setCell _ _ (fun _ => rfl)
              have HTH8 := Lib.hid (show w8.there G 0 (n * 35) by rw [hw8]; exact World.there_setCells HTH7.out G (k * 35 + 33) [.int .u64 (y : Int)])
              have HK8 := Lib.hid (show KeepLo w6 w8 G (k * 35 + 33) by rw [hw8]; exact (KeepLo.turn HT7.out hGe.1).trans (KeepLo.setCell _ _ _ _))
              have HC8 := Lib.hid (show w8.cell? ⟨G, k * 35 + 33, none⟩ = some (.int .u64 (y : Int)) by rw [hw8]; exact cell_set HC7.out)
              have HT8 := Lib.hid (show Turn (fun i => i = e ∨ i = G) wr w8 from (HT6.out.trans HT7.out (fun _ _ h => .inl h)).trans ht8 (fun _ _ h => .inr h))
              have HE8 := Lib.hid (HE7.out.turn ht8 (fun h => hGe.1 h.symm) (fun h => hGe.2 h.symm) (fun i h => by rw [h]; exact HNG.out))
              have HZ8 := Lib.hid (Nat.le_trans HZ6.out (Nat.le_trans HT7.out.size ht8.size))
              rw [← hw8]
              clear hw8 ht8 HTH7 HE7 HTH6 HE6 c7 z7 HC7
              obtain ⟨l3, hl3⟩ : ∃ l3, l3 = numR l2 := ⟨_, rfl⟩
              rw [← hl3] at HE8
              have HL3 := Lib.hid hl3
              clear hl3
              by_cases htx : eText 64 l3 = 0
              · have T := Lib.hid (text_yes e E N 64 l3 w8 HE8.out htx (by decide))
                have hs64 : numV l3 ≤ 64 ∧ numV l3 ≤ (numR l3).length := by unfold eText at htx; split at htx; omega; split at htx; omega; split at htx <;> omega
                have HHX := Lib.hid htx
                clear htx
                go_wp2_with fail
                refine T.out.mono ?_
                rintro r w9 ⟨v9, rfl, own9, he9, ht9⟩
                have hth9 := there_turn HTH8.out ht9 hGe.1
                obtain ⟨u9, c9, z9⟩ := there_cell hth9 (k * 35 + 34) (by omega)
                have HC9 := Lib.hid c9
                have HTH9 := Lib.hid hth9
                have HE9 := Lib.hid he9
                have HT9 := Lib.hid ht9
                obtain ⟨A9, k9, rfl, hs9, -, hk9, ha9⟩ := own_sl own9
                have HO9 := Lib.hid own9
                have HKA := Lib.hid (And.intro hk9 ha9)
                clear he9 ht9 hth9 own9 hs9 T hk9 ha9
                go_upto_region 9 with fail
                obtain ⟨w10, hw10⟩ : ∃ w10, w10 = w9.setCell ⟨G, k * 35 + 34, none⟩ (.slice A9 (numV l3) k9) := ⟨_, rfl⟩
                have ht10 : Turn (fun i => i = G) w9 w10 := by rw [hw10]; exact (Turn.refl _ _).setCell _ _ (fun _ => rfl)
                have HTH10 := Lib.hid (show w10.there G 0 (n * 35) by rw [hw10]; exact World.there_setCells HTH9.out G (k * 35 + 34) [.slice A9 (numV l3) k9])
                have HK10 := Lib.hid (show KeepLo w8 w10 G (k * 35 + 34) by rw [hw10]; exact (KeepLo.turn HT9.out hGe.1).trans (KeepLo.setCell _ _ _ _))
                have HC10 := Lib.hid (show w10.cell? ⟨G, k * 35 + 34, none⟩ = some (.slice A9 (numV l3) k9) by rw [hw10]; exact cell_set HC9.out)
                have HT10 := Lib.hid (show Turn (fun i => i = e ∨ i = G) wr w10 from (HT8.out.trans HT9.out (fun _ _ h => .inl h)).trans ht10 (fun _ _ h => .inr h))
                have HE10 := Lib.hid (HE9.out.turn ht10 (fun h => hGe.1 h.symm) (fun h => hGe.2 h.symm) (fun i h => by rw [h]; exact HNG.out))
                have HZT := Lib.hid ht10
                rw [← hw10]
                clear hw10 ht10 HTH9 HE9 HTH8 HE8 c9 z9 HC9
                have HIN := Lib.hid (show inE lk = 0 by unfold inE; rw [if_neg h32, ← HL2.out, ← HL3.out, if_neg (by rw [HH15.out]; omega), if_neg (by rw [HHT.out]; omega), HHX.out])
                have HIV := Lib.hid (show inV lk = ⟨lk.take 32, (x : Int), y, (numR l3).take (numV l3)⟩ by unfold inV; rw [← HL2.out, ← HL3.out, ← HXX.out, ← HYY.out])
                have HIR := Lib.hid (show inR lk = (numR l3).drop (numV l3) by unfold inR; rw [← HL2.out, ← HL3.out])
                have HTL := Lib.hid (show ((numR l3).take (numV l3)).length = numV l3 by rw [List.length_take]; omega)
                go_wp2
                go_roundw
                case rel =>
                  refine ⟨k + 1, by omega, by go_num, HNXT.out HIN.out, HTH10.out, ?_, by rw [HRS.out, HIR.out]; exact HE10.out, HTR.out.trans HT10.out (fun _ _ h => h)⟩
                  have hs2 := HT2.out.size
                  have hs3 := HTR.out.size
                  have hs4 := HGlt.out
                  rw [HVS.out]
                  intro i p hi
                  by_cases hik : i < k
                  · rw [List.getElem?_append_left (by rw [HKT.out]; exact hik)] at hi
                    obtain ⟨hok, S, c, hs, hr⟩ := HRW.out i p hi
                    refine ⟨hok, S, c, hs.turn HT10.out (fun i h => by rcases h with h | h <;> omega) (fun _ _ h => h), ?_⟩
                    have hl := p.len S c hok.d
                    exact (((HK4.out.trans (HK6.out.less (by omega))).trans (HK8.out.less (by omega))).trans (HK10.out.less (by omega))).range hr (by omega)
                  · obtain rfl : i = k := by have := (List.getElem?_eq_some_iff.1 hi).1; simp [HKT.out] at this; omega
                    rw [List.getElem?_append_right (by rw [HKT.out]; exact Nat.le_refl _), HKT.out, Nat.sub_self] at hi
                    simp only [List.getElem?_cons_zero, Option.some.injEq] at hi
                    rw [← hi, HIV.out]
                    refine ⟨⟨HD32.out, by simp only; omega, by simp only; omega, hy64, by simp only [HTL.out]; unfold maxLen; omega⟩, A9, k9, ⟨?_, HKA.out.2, by simp only [HTL.out]; exact HKA.out.1⟩, ?_⟩
                    · exact (own_sln HO9.out).turn HZT.out (fun i h => by have := HZ8.out; have h' : i = G := h; show i < _; omega) (fun i _ h => by have := HZ8.out; have h' : i < w2.heap.size := h; show i < _; omega)
                    · have r0 := ((HK6.out.trans (HK8.out.less (by omega))).trans (HK10.out.less (by omega))).range HR4.out (by rw [List.length_map, HD32.out]; exact Nat.le_refl _)
                      have r1 := range_one ((HK8.out.trans (HK10.out.less (by omega))) _ _ (by omega) HC6.out)
                      have r2 := range_one (HK10.out _ _ (by omega) HC8.out)
                      have r3 := range_one HC10.out
                      unfold Pin.cells
                      simp only [HTL.out]
                      refine range_app r0 ?_
                      rw [List.length_map, HD32.out]
                      exact range_app (xs := [_]) r1 (range_app (xs := [_]) r2 r3)
                case measure => simp [intOf]; omega
              · have T := Lib.hid (text_no e E N 64 l3 w8 HE8.out htx (by decide) (by decide))
                have HE2 := Lib.hid (show inE lk = eText 64 l3 by unfold inE; rw [if_neg h32, ← HL2.out, ← HL3.out, if_neg (by rw [HH15.out]; omega), if_neg (by rw [HHT.out]; omega)])
                have HHX := Lib.hid htx
                clear htx
                go_wp2_with (go_at_call 63; refine T.out.mono ?_; rintro r w9 ⟨rfl, he9, ht9⟩; dsimp only [pan]; have HE9 := Lib.hid he9; have HT9 := Lib.hid ht9; clear he9 ht9)
                have hz := HERR.out (by rw [HE2.out]; exact HHX.out)
                exact ⟨rfl, rins_no (hz.trans HE2.out) HHX.out HE9.out HT2.out (HTR.out.trans HT8.out (fun _ _ h => h)) HT9.out HS1.out⟩
            · have T := Lib.hid (num_no e E N topN l2 w6 HE6.out htop)
              have HE2 := Lib.hid (show inE lk = eNum topN l2 by unfold inE; rw [if_neg h32, ← HL2.out, if_neg (by rw [HH15.out]; omega), if_pos htop])
              have HHT := Lib.hid htop
              clear htop
              go_wp2_with (go_at_call 37; refine T.out.mono ?_; rintro r w7 ⟨rfl, he7, ht7⟩; dsimp only [pan]; have HE7 := Lib.hid he7; have HT7 := Lib.hid ht7; clear he7 ht7)
              have hz := HERR.out (by rw [HE2.out]; exact HHT.out)
              exact ⟨rfl, rins_no (hz.trans HE2.out) HHT.out HE7.out HT2.out (HTR.out.trans HT6.out (fun _ _ h => h)) HT7.out HS1.out⟩
          · have T := Lib.hid (num_no e E N 15 (lk.drop 32) w4 HE4.out h15)
            have HE2 := Lib.hid (show inE lk = eNum 15 (lk.drop 32) by unfold inE; rw [if_neg h32, if_pos h15])
            have HH15 := Lib.hid h15
            clear h15
            go_wp2_with (go_at_call 37; refine T.out.mono ?_; rintro r w5 ⟨rfl, he5, ht5⟩; dsimp only [pan]; have HE5 := Lib.hid he5; have HT5 := Lib.hid ht5; clear he5 ht5)
            have hz := HERR.out (by rw [HE2.out]; exact HH15.out)
            exact ⟨rfl, rins_no (hz.trans HE2.out) HH15.out HE5.out HT2.out (HTR.out.trans HT4.out (fun _ _ h => h)) HT5.out HS1.out⟩
      · obtain rfl : k = n := by omega
        have H0 := Lib.hid h0
        have HRW := Lib.hid hrow
        have HE := Lib.hid he
        have HT := Lib.hid ht
        clear h0 hrow he ht hth
        go_wp2
        go_ret
        refine Or.inl ⟨by rw [HX.out, H0.out], G, by rw [← HNN.out]; rfl, ?_, by rw [HR.out]; exact HE.out, HT2.out.trans HT.out (fun i hi h => ?_)⟩
        · rw [HV.out]
          intro i p hi
          obtain ⟨hok, S, c, hs, hr⟩ := HRW.out i p hi
          refine ⟨hok, G, 0, S, c, rfl, by have := HS1.out; omega, hs.turn (Turn.refl (fun _ => False) _) (fun _ h => h.elim) (fun i _ h => ?_), by rw [Nat.zero_add]; exact hr⟩
          have := HT2.out.size; omega
        · have := HS1.out
          omega
  · have T0 := Lib.hid (num_no e E N 16 l w h hx)
    have HX := Lib.hid (show rinsE l = eNum 16 l by unfold rinsE; rw [if_pos hx])
    have HNZ := Lib.hid hx
    clear h hN hx
    go_enter Tryd.func35, Tryd.ntmps35
    go_wp2_with (go_at_call 37; refine T0.out.mono ?_; rintro r w1 ⟨rfl, he1, ht1⟩; dsimp only [pan]; have HE1 := Lib.hid he1; have HT1 := Lib.hid ht1; clear he1 ht1)
    exact ⟨rfl, Or.inr ⟨by rw [HX.out]; exact HNZ.out, rfl, by rw [HX.out]; exact HE1.out, HT1.out⟩⟩

end
section
set_option linter.unusedVariables false
set_option linter.unusedSimpArgs false

open Go.RowKit
/-- What reading outputs comes to. -/
def RousPost (e E : Nat) (N : Nat → Prop) (l : List B8) (w : World) (r : Ending) (w' : World) : Prop :=
  (rousE l = 0 ∧ ∃ G, r = .returned (.slice (some ⟨G, 0, none⟩) (numV l) (numV l)) ∧ OusN w' (fun i => i < w.heap.size) (some ⟨G, 0, none⟩) (rousV l) ∧ Eye0 w' e E N (rousR l) ∧ Turn (fun i => i = e) w w') ∨
  (rousE l ≠ 0 ∧ r = pan E ∧ EyeX w' e E (rousE l) ∧ Turn (fun i => i = e ∨ i = E) w w')
set_option maxRecDepth 100000 in
theorem rous_no {e E G : Nat} {N : Nat → Prop} {l : List B8} {w w2 wj w' : World} {x : Nat} (hX : rousE l = x) (hx : x ≠ 0) (he : EyeX w' e E x) (t2 : Turn (fun i => i = e) w w2) (t3 : Turn (fun i => i = e ∨ i = G) w2 wj) (t4 : Turn (fun i => i = e ∨ i = E) wj w') (hG : w.heap.size ≤ G) : RousPost e E N l w (pan E) w' := by
  refine Or.inr ⟨by rw [hX]; exact hx, rfl, by rw [hX]; exact he, ?_⟩
  exact ((t2.mono (fun _ _ h => .inl h)).trans t3 (fun i hi h => by rcases h with h | h; exact .inl h; omega)).trans t4 (fun _ _ h => h)
/-- The first k outputs of a row. -/
def RowOus (w : World) (G : Nat) (l : List Pout) : Prop := ∀ i p, l[i]? = some p → p.ok ∧ w.rangeAt G (i * 33) p.cells
set_option maxRecDepth 100000 in
set_option maxHeartbeats 4000000 in
theorem readOuts_any (e E : Nat) (N : Nat → Prop) (l : List B8) (w : World) (h : Eye0 w e E N l) (hN : ∀ i, w.heap.size ≤ i → N i) :
    Calls Tryd.prog 36 #[.pointer (some ⟨e, 0, none⟩)] w (RousPost e E N l w) := by
  obtain ⟨i0, hi, hz0, hz1, hz2⟩ := info_parts info_out
  obtain ⟨hle, hlE, hne, hNe, hNE, hll⟩ := h.lt
  by_cases hx : eNum 16 l = 0
  · have T0 := Lib.hid (num_yes e E N 16 l w h hx)
    have hnv : numV l ≤ 16 := by unfold eNum at hx; split at hx <;> (try split at hx) <;> omega
    have HX := Lib.hid (show rousE l = ousE (numV l) (numR l) by unfold rousE; rw [if_neg (by omega)])
    have HV := Lib.hid (show rousV l = ousV (numV l) (numR l) from rfl)
    have HR := Lib.hid (show rousR l = ousR (numV l) (numR l) from rfl)
    have HN := Lib.hid hN
    obtain ⟨n, hn⟩ : ∃ n, n = numV l := ⟨_, rfl⟩
    rw [← hn] at T0 HX HV HR hnv
    have HNN := Lib.hid hn
    clear h hN hx hn
    generalize numR l = l1 at *
    go_enter Tryd.func36, Tryd.ntmps36
    go_wp2_with fail
    refine T0.out.mono ?_
    rintro r w1 ⟨rfl, he1, ht1⟩
    have HE1 := Lib.hid he1
    have HT1 := Lib.hid ht1
    clear he1 ht1 T0
    go_wp2_with (at_make; refine wpList_make_full _ rfl _ _ 23 rfl w1.heap.size 49 i0 (.agg ZOut) 33 Tryd.underlying23 hi hz0 hz1 _ _ _ _ n rfl rfl rfl rfl ?b2 ?b3 ?b4 ?_)
    case b2 => rw [hz2]; omega
    case b3 => unfold maxLen; omega
    case b4 => simp
    intro w2 hown2 hgrow2
    have HTH := Lib.hid (own_there hown2)
    have ht2 : Turn (fun _ => False) w1 w2 := (Turn.refl _ w1).grown hgrow2 (fun _ _ e => by cases e)
    have HGlt := Lib.hid (show w1.heap.size < w2.heap.size from by
      rcases hown2.2 with ⟨e, -⟩ | ⟨g', cap, cur, e, hB, hg, -⟩
      · cases e
      · injection e with e1 e2 e3
        injection e1 with e1
        injection e1 with e1
        rw [e1]; exact lt_of_block hg)
    have HE2 := Lib.hid (HE1.out.turn ht2 (fun h => h) (fun h => h) (fun _ h => h.elim))
    have HT2 := Lib.hid (HT1.out.trans ht2 (fun _ _ h => h.elim))
    have HS1 := Lib.hid HT1.out.size
    clear hown2 hgrow2 ht2 HE1 HT1
    generalize w1.heap.size = G at *
    go_wp2
    go_loopw [10] (fun i wr => ∃ k : Nat, k ≤ n ∧ i = .int .i64 k ∧ ousE k l1 = 0 ∧ wr.there G 0 (n * 33) ∧ RowOus wr G (ousV k l1) ∧ Eye0 wr e E N (ousR k l1) ∧ Turn (fun i => i = e ∨ i = G) w2 wr) (fun i _ => n - (intOf i).toNat)
    case atStart => exact ⟨0, Nat.zero_le _, rfl, rfl, HTH.out, (fun i p hi => by simp [ousV] at hi), HE2.out, Turn.refl _ _⟩
    case round =>
      clear HTH HE2
      obtain ⟨k, hk, rfl, h0, hth, hrow, he, ht⟩ := hrel
      by_cases hlt : k < n
      · have hkn : k * 33 + 33 ≤ n * 33 := by omega
        obtain ⟨lk, hlk⟩ : ∃ lk, lk = ousR k l1 := ⟨_, rfl⟩
        have HVS := Lib.hid (show ousV (k + 1) l1 = ousV k l1 ++ [ouV lk] by rw [hlk]; rfl)
        have HRS := Lib.hid (show ousR (k + 1) l1 = ouR lk by rw [hlk]; rfl)
        have HERR := Lib.hid (fun (h1 : ouE lk ≠ 0) => show rousE l = ouE lk by rw [HX.out, hlk] at *; exact ousE_here h0 (by rw [← hlk]; exact h1) hlt)
        have HNXT := Lib.hid (fun (h1 : ouE lk = 0) => ousE_next h0 (by rw [← hlk]; exact h1))
        rw [← hlk] at he
        have hlkl := he.lt.2.2.2.2.2
        have HRW := Lib.hid hrow
        have HTR := Lib.hid ht
        have HTH := Lib.hid hth
        have HNG := Lib.hid (show N G from HN.out G HS1.out)
        have hGe : G ≠ e ∧ G ≠ E := by have := HS1.out; omega
        have hGw : G < wr.heap.size := by have := ht.size; have := HGlt.out; omega
        have HKT := Lib.hid (ousV_len k l1)
        clear hrow ht h0 hlk hth
        by_cases h32 : lk.length < 32
        · have T := Lib.hid (id_no e E N lk wr he h32)
          have HE2 := Lib.hid (show ouE lk = 2 by unfold ouE; rw [if_pos h32])
          clear he h32
          go_wp2_with (go_at_call 62; refine T.out.mono ?_; rintro r w3 ⟨rfl, he3, ht3⟩; dsimp only [pan]; have HE3 := Lib.hid he3; have HT3 := Lib.hid ht3; clear he3 ht3)
          have hz := HERR.out (by rw [HE2.out]; decide)
          exact ⟨rfl, rous_no (hz.trans HE2.out) (by decide) HE3.out HT2.out HTR.out HT3.out HS1.out⟩
        · have T := Lib.hid (id_yes e E N lk wr he (by omega))
          obtain ⟨D, hD⟩ : ∃ D, D = ((lk.take 32).map bv).toArray := ⟨_, rfl⟩
          have hd32 : (lk.take 32).length = 32 := by rw [List.length_take]; omega
          have sD : D.size = 32 := by rw [hD]; simp; omega
          rw [← hD] at T
          have H1 := Lib.hid (show (Tryd.prog.info? 35).map (·.size) = some D.size by rw [sD]; kernel_rfl)
          have H3 := Lib.hid (show D.all (·.oneCell') = true by rw [hD]; exact all_oneCell_toArray (bv_one _))
          have HD := Lib.hid hD
          have HSD := Lib.hid sD
          have HD32 := Lib.hid hd32
          clear he hD sD hd32
          go_wp2_with fail
          refine T.out.mono ?_
          rintro r w3 ⟨rfl, he3, ht3⟩
          have hth3 := there_turn HTH.out ht3 hGe.1
          have HTS := Lib.hid (show w3.there G (k * 33) D.size by rw [HSD.out]; exact there_sub hth3 _ _ (by omega))
          have HTH3 := Lib.hid hth3
          have HE3 := Lib.hid he3
          have HT3 := Lib.hid ht3
          clear he3 ht3 hth3 T
          go_wp2_with (refine wpList_store_mid rfl _ _ _ rfl G (k * 33) D rfl rfl HTS.out H1.out H3.out ?_; refine stop ?_)
          unfold Stop
          obtain ⟨w4, hw4⟩ : ∃ w4, w4 = w3.setCells G (k * 33) D.toList := ⟨_, rfl⟩
          have hr4 : w4.rangeAt G (k * 33) ((lk.take 32).map bv) := by
            rw [hw4]
            have h := World.rangeAt_setCells_same w3 G (k * 33) D.toList (by simpa using HTS.out)
            rw [HD.out] at h ⊢
            simpa using h
          have HR4 := Lib.hid hr4
          have HTH4 := Lib.hid (show w4.there G 0 (n * 33) by rw [hw4]; exact World.there_setCells HTH3.out _ _ _)
          have HK4 := Lib.hid (show KeepLo wr w4 G (k * 33) by rw [hw4]; exact (KeepLo.turn HT3.out hGe.1).trans (KeepLo.setCells _ _ _ _))
          have ht4 : Turn (fun i => i = G) w3 w4 := by rw [hw4]; exact Turn.setCells (S := fun i => i = G) G (fun _ => rfl) _ _ _ (Turn.refl _ _)
          have HT4 := Lib.hid (show Turn (fun i => i = e ∨ i = G) wr w4 from (HT3.out.mono (fun _ _ h => .inl h)).trans ht4 (fun _ _ h => .inr h))
          have HE4 := Lib.hid (HE3.out.turn ht4 (fun h => hGe.1 h.symm) (fun h => hGe.2 h.symm) (fun i h => by rw [h]; exact HNG.out))
          have HZ4 := Lib.hid (Nat.le_trans HT3.out.size ht4.size)
          rw [← hw4]
          clear hw4 hr4 ht4 HTS HTH3 HE3 HTH
          obtain ⟨l2, hl2⟩ : ∃ l2, l2 = lk.drop 32 := ⟨_, rfl⟩
          rw [← hl2] at HE4
          have HL2 := Lib.hid hl2
          clear hl2
          by_cases htop : eNum topN l2 = 0
          · have T := Lib.hid (num_yes e E N topN l2 w4 HE4.out htop)
            have hy64 : numV l2 < 18446744073709551616 := numV_lt l2 (by unfold eNum at htop; split at htop <;> omega)
            have HHT := Lib.hid htop
            obtain ⟨y, hy⟩ : ∃ y, y = numV l2 := ⟨_, rfl⟩
            rw [← hy] at T hy64
            have HYY := Lib.hid hy
            clear htop hy
            go_wp2_with fail
            refine T.out.mono ?_
            rintro r w5 ⟨rfl, he5, ht5⟩
            have hth5 := there_turn HTH4.out ht5 hGe.1
            obtain ⟨v5, c5, z5⟩ := there_cell hth5 (k * 33 + 32) (by omega)
            have HC5 := Lib.hid c5
            have HTH5 := Lib.hid hth5
            have HE5 := Lib.hid he5
            have HT5 := Lib.hid ht5
            clear he5 ht5 hth5 T
            go_upto_region 7 with fail
            obtain ⟨w6, hw6⟩ : ∃ w6, w6 = w5.setCell ⟨G, k * 33 + 32, none⟩ (.int .u64 (y : Int)) := ⟨_, rfl⟩
            have ht6 : Turn (fun i => i = G) w5 w6 := by rw [hw6]; exact (Turn.refl _ _).setCell _ _ (fun _ => rfl)
            have HTH6 := Lib.hid (show w6.there G 0 (n * 33) by rw [hw6]; exact World.there_setCells HTH5.out G (k * 33 + 32) [.int .u64 (y : Int)])
            have HK6 := Lib.hid (show KeepLo w4 w6 G (k * 33 + 32) by rw [hw6]; exact (KeepLo.turn HT5.out hGe.1).trans (KeepLo.setCell _ _ _ _))
            have HC6 := Lib.hid (show w6.cell? ⟨G, k * 33 + 32, none⟩ = some (.int .u64 (y : Int)) by rw [hw6]; exact cell_set HC5.out)
            have HT6 := Lib.hid (show Turn (fun i => i = e ∨ i = G) wr w6 from (HT4.out.trans HT5.out (fun _ _ h => .inl h)).trans ht6 (fun _ _ h => .inr h))
            have HE6 := Lib.hid (HE5.out.turn ht6 (fun h => hGe.1 h.symm) (fun h => hGe.2 h.symm) (fun i h => by rw [h]; exact HNG.out))
            rw [← hw6]
            clear hw6 ht6 HTH5 HE5 HTH4 HE4 c5 z5 HC5
            have HIN := Lib.hid (show ouE lk = 0 by unfold ouE; rw [if_neg h32, ← HL2.out, HHT.out])
            have HIV := Lib.hid (show ouV lk = ⟨lk.take 32, y⟩ by unfold ouV; rw [← HL2.out, ← HYY.out])
            have HIR := Lib.hid (show ouR lk = numR l2 by unfold ouR; rw [← HL2.out])
            go_wp2
            go_roundw
            case rel =>
              refine ⟨k + 1, by omega, by go_num, HNXT.out HIN.out, HTH6.out, ?_, by rw [HRS.out, HIR.out]; exact HE6.out, HTR.out.trans HT6.out (fun _ _ h => h)⟩
              rw [HVS.out]
              intro i p hi
              by_cases hik : i < k
              · rw [List.getElem?_append_left (by rw [HKT.out]; exact hik)] at hi
                obtain ⟨hok, hr⟩ := HRW.out i p hi
                have hl := p.len hok.d
                exact ⟨hok, (HK4.out.trans (HK6.out.less (by omega))).range hr (by omega)⟩
              · obtain rfl : i = k := by have := (List.getElem?_eq_some_iff.1 hi).1; simp [HKT.out] at this; omega
                rw [List.getElem?_append_right (by rw [HKT.out]; exact Nat.le_refl _), HKT.out, Nat.sub_self] at hi
                simp only [List.getElem?_cons_zero, Option.some.injEq] at hi
                rw [← hi, HIV.out]
                refine ⟨⟨HD32.out, hy64⟩, ?_⟩
                have r0 := HK6.out.range HR4.out (by rw [List.length_map, HD32.out]; exact Nat.le_refl _)
                unfold Pout.cells
                refine range_app r0 ?_
                rw [List.length_map, HD32.out]
                exact range_one HC6.out
            case measure => simp [intOf]; omega
          · have T := Lib.hid (num_no e E N topN l2 w4 HE4.out htop)
            have HE2 := Lib.hid (show ouE lk = eNum topN l2 by unfold ouE; rw [if_neg h32, ← HL2.out])
            have HHT := Lib.hid htop
            clear htop
            go_wp2_with (go_at_call 37; refine T.out.mono ?_; rintro r w7 ⟨rfl, he7, ht7⟩; dsimp only [pan]; have HE7 := Lib.hid he7; have HT7 := Lib.hid ht7; clear he7 ht7)
            have hz := HERR.out (by rw [HE2.out]; exact HHT.out)
            exact ⟨rfl, rous_no (hz.trans HE2.out) HHT.out HE7.out HT2.out (HTR.out.trans HT4.out (fun _ _ h => h)) HT7.out HS1.out⟩
      · obtain rfl : k = n := by omega
        have H0 := Lib.hid h0
        have HRW := Lib.hid hrow
        have HE := Lib.hid he
        have HT := Lib.hid ht
        clear h0 hrow he ht hth
        go_wp2
        go_ret
        refine Or.inl ⟨by rw [HX.out, H0.out], G, by rw [← HNN.out]; rfl, ?_, by rw [HR.out]; exact HE.out, HT2.out.trans HT.out (fun i hi h => ?_)⟩
        · rw [HV.out]
          intro i p hi
          obtain ⟨hok, hr⟩ := HRW.out i p hi
          exact ⟨hok, G, 0, rfl, by have := HS1.out; omega, by rw [Nat.zero_add]; exact hr⟩
        · have := HS1.out
          omega
  · have T0 := Lib.hid (num_no e E N 16 l w h hx)
    have HX := Lib.hid (show rousE l = eNum 16 l by unfold rousE; rw [if_pos hx])
    have HNZ := Lib.hid hx
    clear h hN hx
    go_enter Tryd.func36, Tryd.ntmps36
    go_wp2_with (go_at_call 37; refine T0.out.mono ?_; rintro r w1 ⟨rfl, he1, ht1⟩; dsimp only [pan]; have HE1 := Lib.hid he1; have HT1 := Lib.hid ht1; clear he1 ht1)
    exact ⟨rfl, Or.inr ⟨by rw [HX.out]; exact HNZ.out, rfl, by rw [HX.out]; exact HE1.out, HT1.out⟩⟩

end
section
set_option linter.unusedVariables false
set_option linter.unusedSimpArgs false

open Go.RowKit
def txC (Ai : Option Addr) (ci : Nat) (Ao : Option Addr) (co : Nat) (t : Ptx) : Array Value := #[.slice Ai t.ins.length ci, .slice Ao t.outs.length co, .int .u64 (t.fee : Int), .int .i64 t.exp]
/-- What the reader of a transaction comes to. -/
def BodPost (e E x : Nat) (N : Nat → Prop) (b : List B8) (w : World) (r : Ending) (w' : World) : Prop :=
  (bodE b = 0 ∧ r = .returned (.tuple #[]) ∧ (∃ G1 G2, w'.heap[x]? = some (.cells (txC (some ⟨G1, 0, none⟩) (bodV b).ins.length (some ⟨G2, 0, none⟩) (bodV b).outs.length (bodV b)) 26 (0, 0)) ∧ InsN w' (fun i => i < w.heap.size) (some ⟨G1, 0, none⟩) (bodV b).ins ∧ OusN w' (fun i => i < w.heap.size) (some ⟨G2, 0, none⟩) (bodV b).outs) ∧ Eye0 w' e E N (bodR b) ∧ Turn (fun i => i = e ∨ i = x) w w') ∨
  (bodE b ≠ 0 ∧ r = pan E ∧ EyeX w' e E (bodE b) ∧ Turn (fun i => i = e ∨ i = E ∨ i = x) w w')
set_option maxRecDepth 100000 in
theorem row4 {w : World} {x : Nat} {a b c d : Value} {t : TypeId} (h : w.heap[x]? = some (.cells #[a, b, c, d] t (0, 0))) :
    (w.cell? ⟨x, 0, none⟩ = some a ∧ w.cell? ⟨x, 1, none⟩ = some b ∧ w.cell? ⟨x, 2, none⟩ = some c ∧ w.cell? ⟨x, 3, none⟩ = some d) ∧ (w.frozen? ⟨x, 0, none⟩ = false ∧ w.frozen? ⟨x, 1, none⟩ = false ∧ w.frozen? ⟨x, 2, none⟩ = false ∧ w.frozen? ⟨x, 3, none⟩ = false) := by
  refine ⟨⟨?_, ?_, ?_, ?_⟩, frozen_of_row w x 0 _ _ h, frozen_of_row w x 1 _ _ h, frozen_of_row w x 2 _ _ h, frozen_of_row w x 3 _ _ h⟩ <;> rw [cell_of_row _ _ _ _ _ _ h] <;> rfl
set_option maxRecDepth 100000 in
theorem set_turn (w : World) (x o : Nat) (v : Value) : Turn (fun i => i = x) w (w.setCell ⟨x, o, none⟩ v) := (Turn.refl _ _).setCell _ _ (fun _ => rfl)
set_option maxRecDepth 100000 in
theorem bod_no {e E x : Nat} {N : Nat → Prop} {b : List B8} {w w1 w' : World} {k : Nat} (hX : bodE b = k) (hk : k ≠ 0) (he : EyeX w' e E k) (t1 : Turn (fun i => i = e ∨ i = x) w w1) (t2 : Turn (fun i => i = e ∨ i = E) w1 w') : BodPost e E x N b w (pan E) w' :=
  Or.inr ⟨by rw [hX]; exact hk, rfl, by rw [hX]; exact he, (t1.mono (fun _ _ h => by omega)).trans t2 (fun _ _ h => by omega)⟩
set_option maxRecDepth 100000 in
set_option maxHeartbeats 4000000 in
theorem read1_any (e E x : Nat) (N : Nat → Prop) (b : List B8) (a0 a1 a2 a3 : Value) (w : World) (h : Eye0 w e E N b) (hN : ∀ i, w.heap.size ≤ i → N i) (hx : w.heap[x]? = some (.cells #[a0, a1, a2, a3] 26 (0, 0))) (hxe : x ≠ e) (hxE : x ≠ E) (hNx : N x) :
    Calls Tryd.prog 34 #[.pointer (some ⟨e, 0, none⟩), .pointer (some ⟨x, 0, none⟩)] w (BodPost e E x N b w) := by
  obtain ⟨hle, hlE, hne, hNe, hNE, hll⟩ := h.lt
  have hlx := lt_of_block hx
  have T0 := Lib.hid (readIns_any e E N b w h hN)
  have HN := Lib.hid hN
  have HX := Lib.hid hx
  clear h hN hx
  go_enter Tryd.func34, Tryd.ntmps34
  go_wp2_with fail
  refine T0.out.mono ?_
  rintro r w1 (⟨hz, G1, rfl, hI1, he1, ht1⟩ | ⟨hz, rfl, he1, ht1⟩)
  · have hx1 := ht1.heap HX.out hxe
    obtain ⟨⟨c0, c1, c2, c3⟩, z0, z1, z2, z3⟩ := row4 hx1
    obtain ⟨n1, hn1⟩ : ∃ n1, n1 = numV b := ⟨_, rfl⟩
    rw [← hn1]
    have hlen1 : (rinsV b).length = n1 := by rw [hn1]; exact insV_len _ _
    have HLEN1 := Lib.hid hlen1
    have HZ1 := Lib.hid hz
    obtain ⟨w2, hw2⟩ : ∃ w2, w2 = w1.setCell ⟨x, 0, none⟩ (.slice (some ⟨G1, 0, none⟩) n1 n1) := ⟨_, rfl⟩
    have ht2 : Turn (fun i => i = x) w1 w2 := by rw [hw2]; exact set_turn _ _ _ _
    have HX2 := Lib.hid (show w2.heap[x]? = some (.cells #[.slice (some ⟨G1, 0, none⟩) n1 n1, a1, a2, a3] 26 (0, 0)) by rw [hw2, heap_setCell_same w1 x 0 _ _ _ hx1]; rfl)
    have HT2 := Lib.hid (show Turn (fun i => i = e ∨ i = x) w w2 from (ht1.mono (fun _ _ h => .inl h)).trans ht2 (fun _ _ h => .inr h))
    have HI2 := Lib.hid (hI1.turn (N' := fun i => i < w.heap.size) ht2 (fun i h => by have h' : i = x := h; show i < _; omega) (fun _ _ h => h))
    have he2 := he1.turn ht2 (fun h => hxe h.symm) (fun h => hxE h.symm) (fun i h => by rw [h]; exact hNx)
    have hs2 := HT2.out.size
    obtain ⟨l1, hl1⟩ : ∃ l1, l1 = rinsR b := ⟨_, rfl⟩
    rw [← hl1] at he2
    have HL1 := Lib.hid hl1
    have T2 := Lib.hid (readOuts_any e E N l1 w2 he2 (fun i h => HN.out i (by omega)))
    clear he1 ht1 hI1 hz hlen1 hx1 he2 ht2 hl1 T0 hn1
    go_upto_region 1 with fail
    rw [← hw2]
    clear hw2 c0 c1 c2 c3 z0 z1 z2 z3
    go_wp2_with fail
    refine T2.out.mono ?_
    rintro r w3 (⟨hz, G2, rfl, hI3, he3, ht3⟩ | ⟨hz, rfl, he3, ht3⟩)
    · have hx3 := ht3.heap HX2.out hxe
      obtain ⟨⟨c0, c1, c2, c3⟩, z0, z1, z2, z3⟩ := row4 hx3
      obtain ⟨n2, hn2⟩ : ∃ n2, n2 = numV l1 := ⟨_, rfl⟩
      rw [← hn2]
      have HLEN2 := Lib.hid (show (rousV l1).length = n2 by rw [hn2]; exact ousV_len _ _)
      have HZ2 := Lib.hid hz
      obtain ⟨w4, hw4⟩ : ∃ w4, w4 = w3.setCell ⟨x, 1, none⟩ (.slice (some ⟨G2, 0, none⟩) n2 n2) := ⟨_, rfl⟩
      have ht4 : Turn (fun i => i = x) w3 w4 := by rw [hw4]; exact set_turn _ _ _ _
      have HX4 := Lib.hid (show w4.heap[x]? = some (.cells #[.slice (some ⟨G1, 0, none⟩) n1 n1, .slice (some ⟨G2, 0, none⟩) n2 n2, a2, a3] 26 (0, 0)) by rw [hw4, heap_setCell_same w3 x 1 _ _ _ hx3]; rfl)
      have HT4 := Lib.hid (show Turn (fun i => i = e ∨ i = x) w w4 from (HT2.out.trans ht3 (fun _ _ h => .inl h)).trans ht4 (fun _ _ h => .inr h))
      have HI4 := Lib.hid ((HI2.out.turn (N' := fun i => i < w.heap.size) ht3 (fun i h => by have h' : i = e := h; show i < _; omega) (fun _ _ h => h)).turn (N' := fun i => i < w.heap.size) ht4 (fun i h => by have h' : i = x := h; show i < _; omega) (fun _ _ h => h))
      have HO4 := Lib.hid (hI3.turn (N' := fun i => i < w.heap.size) ht4 (fun i h => by have h' : i = x := h; show i < _; omega) (fun i _ h => by have h' : i < w.heap.size := h; show i < _; omega))
      have he4 := he3.turn ht4 (fun h => hxe h.symm) (fun h => hxE h.symm) (fun i h => by rw [h]; exact hNx)
      obtain ⟨l2, hl2⟩ : ∃ l2, l2 = rousR l1 := ⟨_, rfl⟩
      rw [← hl2] at he4
      have HL2 := Lib.hid hl2
      have HE4 := Lib.hid he4
      clear he3 ht3 hI3 hz hx3 he4 ht4 hl2 T2 hn2
      go_upto_region 2 with fail
      rw [← hw4]
      clear hw4 c0 c1 c2 c3 z0 z1 z2 z3
      by_cases htop : eNum topN l2 = 0
      · have T := Lib.hid (num_yes e E N topN l2 w4 HE4.out htop)
        have hy64 : numV l2 < 18446744073709551616 := numV_lt l2 (by unfold eNum at htop; split at htop <;> omega)
        have HHT := Lib.hid htop
        obtain ⟨y, hy⟩ : ∃ y, y = numV l2 := ⟨_, rfl⟩
        rw [← hy] at T hy64
        have HYY := Lib.hid hy
        clear htop hy
        go_wp2_with fail
        refine T.out.mono ?_
        rintro r w5 ⟨rfl, he5, ht5⟩
        have hx5 := ht5.heap HX4.out hxe
        obtain ⟨⟨c0, c1, c2, c3⟩, z0, z1, z2, z3⟩ := row4 hx5
        obtain ⟨w6, hw6⟩ : ∃ w6, w6 = w5.setCell ⟨x, 2, none⟩ (.int .u64 (y : Int)) := ⟨_, rfl⟩
        have ht6 : Turn (fun i => i = x) w5 w6 := by rw [hw6]; exact set_turn _ _ _ _
        have HX6 := Lib.hid (show w6.heap[x]? = some (.cells #[.slice (some ⟨G1, 0, none⟩) n1 n1, .slice (some ⟨G2, 0, none⟩) n2 n2, .int .u64 (y : Int), a3] 26 (0, 0)) by rw [hw6, heap_setCell_same w5 x 2 _ _ _ hx5]; rfl)
        have HV6 := Lib.hid (show Turn (fun i => i = e ∨ i = x) w4 w6 from (ht5.mono (fun _ _ h => .inl h)).trans ht6 (fun _ _ h => .inr h))
        have he6 := he5.turn ht6 (fun h => hxe h.symm) (fun h => hxE h.symm) (fun i h => by rw [h]; exact hNx)
        obtain ⟨l3, hl3⟩ : ∃ l3, l3 = numR l2 := ⟨_, rfl⟩
        rw [← hl3] at he6
        have HL3 := Lib.hid hl3
        have HE6 := Lib.hid he6
        clear he5 ht5 hx5 he6 ht6 hl3 T
        go_upto_region 3 with fail
        rw [← hw6]
        clear hw6 c0 c1 c2 c3 z0 z1 z2 z3
        by_cases h40 : eNum 1099511627776 l3 = 0
        · have T := Lib.hid (num_yes e E N 1099511627776 l3 w6 HE6.out h40)
          have hq40 : numV l3 ≤ 1099511627776 := by unfold eNum at h40; split at h40 <;> (try split at h40) <;> omega
          have HH4 := Lib.hid h40
          obtain ⟨q, hq⟩ : ∃ q, q = numV l3 := ⟨_, rfl⟩
          rw [← hq] at T hq40
          have HQQ := Lib.hid hq
          clear h40 hq
          go_wp2_with fail
          refine T.out.mono ?_
          rintro r w7 ⟨rfl, he7, ht7⟩
          have hx7 := ht7.heap HX6.out hxe
          obtain ⟨⟨c0, c1, c2, c3⟩, z0, z1, z2, z3⟩ := row4 hx7
          have ht8 := set_turn w7 x 3 (.int .i64 (q : Int))
          have HX8 := Lib.hid (show (w7.setCell ⟨x, 3, none⟩ (.int .i64 (q : Int))).heap[x]? = some (.cells #[.slice (some ⟨G1, 0, none⟩) n1 n1, .slice (some ⟨G2, 0, none⟩) n2 n2, .int .u64 (y : Int), .int .i64 (q : Int)] 26 (0, 0)) by rw [heap_setCell_same w7 x 3 _ _ _ hx7]; rfl)
          have HV8 := Lib.hid (show Turn (fun i => i = e ∨ i = x) w4 (w7.setCell ⟨x, 3, none⟩ (.int .i64 (q : Int))) from (HV6.out.trans ht7 (fun _ _ h => .inl h)).trans ht8 (fun _ _ h => .inr h))
          have HE8 := Lib.hid (he7.turn ht8 (fun h => hxe h.symm) (fun h => hxE h.symm) (fun i h => by rw [h]; exact hNx))
          have HB0 := Lib.hid (show bodE b = 0 by unfold bodE; rw [if_neg (by rw [HZ1.out]; omega), ← HL1.out, if_neg (by rw [HZ2.out]; omega), ← HL2.out, if_neg (by rw [HHT.out]; omega), ← HL3.out, HH4.out])
          have HBV := Lib.hid (show bodV b = ⟨rinsV b, rousV l1, y, (q : Int)⟩ by unfold bodV; rw [← HL1.out, ← HL2.out, ← HL3.out, ← HYY.out, ← HQQ.out])
          have HBR := Lib.hid (show bodR b = numR l3 by unfold bodR; rw [← HL1.out, ← HL2.out, ← HL3.out])
          clear he7 ht7 hx7 ht8 T
          go_wp2
          first | go_end0 | refine bodyPost_ret (results_none rfl _ _ _) rfl ?_
          refine Or.inl ⟨HB0.out, rfl, ⟨G1, G2, ?_, ?_, ?_⟩, by rw [HBR.out]; exact HE8.out, HT4.out.trans HV8.out (fun _ _ h => h)⟩
          · rw [HBV.out]
            unfold txC
            simp only [HLEN1.out, HLEN2.out]
            exact HX8.out
          · rw [HBV.out]
            exact HI4.out.turn HV8.out (fun i h => by show i < _; rcases h with h | h <;> omega) (fun _ _ h => h)
          · rw [HBV.out]
            exact HO4.out.turn HV8.out (fun i h => by show i < _; rcases h with h | h <;> omega) (fun _ _ h => h)
        · have T := Lib.hid (num_no e E N 1099511627776 l3 w6 HE6.out h40)
          have HX1 := Lib.hid (show bodE b = eNum 1099511627776 l3 by unfold bodE; rw [if_neg (by rw [HZ1.out]; omega), ← HL1.out, if_neg (by rw [HZ2.out]; omega), ← HL2.out, if_neg (by rw [HHT.out]; omega), ← HL3.out])
          have HH4 := Lib.hid h40
          clear h40
          go_wp2_with (go_at_call 37; refine T.out.mono ?_; rintro r w7 ⟨rfl, he7, ht7⟩; dsimp only [pan]; have HE7 := Lib.hid he7; have HT7 := Lib.hid ht7; clear he7 ht7)
          exact ⟨rfl, bod_no HX1.out HH4.out HE7.out (HT4.out.trans HV6.out (fun _ _ h => h)) HT7.out⟩
      · have T := Lib.hid (num_no e E N topN l2 w4 HE4.out htop)
        have HX1 := Lib.hid (show bodE b = eNum topN l2 by unfold bodE; rw [if_neg (by rw [HZ1.out]; omega), ← HL1.out, if_neg (by rw [HZ2.out]; omega), ← HL2.out, if_pos htop])
        have HHT := Lib.hid htop
        clear htop
        go_wp2_with (go_at_call 37; refine T.out.mono ?_; rintro r w7 ⟨rfl, he7, ht7⟩; dsimp only [pan]; have HE7 := Lib.hid he7; have HT7 := Lib.hid ht7; clear he7 ht7)
        exact ⟨rfl, bod_no HX1.out HHT.out HE7.out HT4.out HT7.out⟩
    · have HX1 := Lib.hid (show bodE b = rousE l1 by unfold bodE; rw [if_neg (by rw [HZ1.out]; omega), ← HL1.out, if_pos hz])
      have HE3 := Lib.hid he3
      have HT3 := Lib.hid ht3
      have HZ2 := Lib.hid hz
      clear he3 ht3 hz T2
      dsimp only [pan]
      go_wp2_with fail
      exact ⟨rfl, bod_no HX1.out HZ2.out HE3.out HT2.out HT3.out⟩
  · have HX1 := Lib.hid (show bodE b = rinsE b by unfold bodE; rw [if_pos hz])
    have HE1 := Lib.hid he1
    have HT1 := Lib.hid ht1
    have HZ1 := Lib.hid hz
    clear he1 ht1 hz T0
    dsimp only [pan]
    go_wp2_with fail
    exact ⟨rfl, bod_no HX1.out HZ1.out HE1.out (Turn.refl _ _) HT1.out⟩

end
section
set_option linter.unusedVariables false
set_option linter.unusedSimpArgs false

open Go.RowKit
set_option maxRecDepth 100000 in
theorem eNum_le {m : Nat} {l : List B8} (h : eNum m l = 0) : numV l ≤ m ∧ numV l < 18446744073709551616 := by
  unfold eNum at h
  split at h
  · omega
  · rename_i h0
    have := numV_lt l (by omega)
    split at h <;> omega
set_option maxRecDepth 100000 in
theorem bodV_ok {b : List B8} (h : bodE b = 0) : (bodV b).ins.length ≤ 16 ∧ (bodV b).outs.length ≤ 16 ∧ (bodV b).fee < 18446744073709551616 ∧ 0 ≤ (bodV b).exp ∧ (bodV b).exp ≤ 1099511627776 := by
  unfold bodE at h
  split at h
  · omega
  · rename_i h1
    split at h
    · omega
    · rename_i h2
      split at h
      · omega
      · rename_i h3
        have a1 : eNum 16 b = 0 := by
          have h1' : rinsE b = 0 := by omega
          unfold rinsE at h1'
          split at h1' <;> omega
        have a2 : eNum 16 (rinsR b) = 0 := by
          have h2' : rousE (rinsR b) = 0 := by omega
          unfold rousE at h2'
          split at h2' <;> omega
        have b1 := eNum_le a1
        have b2 := eNum_le a2
        have b3 := eNum_le (m := topN) (l := rousR (rinsR b)) (by omega)
        have b4 := eNum_le h
        unfold bodV rinsV rousV
        simp only [insV_len, ousV_len]
        omega
set_option maxRecDepth 100000 in
theorem set4 {w : World} {x : Nat} {a b c d : Value} {t : TypeId} (h : w.heap[x]? = some (.cells #[a, b, c, d] t (0, 0))) (a' b' c' d' : Value) :
    ((((w.setCell ⟨x, 0, none⟩ a').setCell ⟨x, 1, none⟩ b').setCell ⟨x, 2, none⟩ c').setCell ⟨x, 3, none⟩ d').heap[x]? = some (.cells #[a', b', c', d'] t (0, 0)) ∧
    Turn (fun i => i = x) w ((((w.setCell ⟨x, 0, none⟩ a').setCell ⟨x, 1, none⟩ b').setCell ⟨x, 2, none⟩ c').setCell ⟨x, 3, none⟩ d') := by
  have h1 := heap_setCell_same w x 0 _ _ a' h
  have h2 := heap_setCell_same _ x 1 _ _ b' h1
  have h3 := heap_setCell_same _ x 2 _ _ c' h2
  have h4 := heap_setCell_same _ x 3 _ _ d' h3
  refine ⟨by rw [h4]; rfl, ?_⟩
  exact ((((Turn.refl (fun i => i = x) w).setCell _ _ (fun _ => rfl)).setCell _ _ (fun _ => rfl)).setCell _ _ (fun _ => rfl)).setCell _ _ (fun _ => rfl)
set_option maxRecDepth 100000 in
theorem results_tx {fn : Func} {p u : Tmp} (h : fn.results = #[.cell p 26, .tmp u]) (tmps : Array Value) (w : World) (g : Nat) (cs : Array Value) (v : Value)
    (hp : tmps.getD p undef = .pointer (some ⟨g, 0, none⟩)) (hv : tmps.getD u undef = v) (hg : w.heap[g]? = some (.cells cs 26 (0, 0))) (hc : cs.size = 4) :
    (results fn tmps).run Tryd.prog w = .ok (.tuple #[.agg cs, v]) w := by
  rw [results_cell_tmp h, hp, hv]
  simp [asAddr, run_loadVar_row w g 26 26 cs (0, 0) _ hg Tryd.underlying26 rfl (by rw [hc]; kernel_rfl), Result.andThen]
set_option maxRecDepth 100000 in
theorem exZ_at (w : World) (B : Nat) : TxAt w B none 0 none 0 exZ := ⟨fun i p hp => by simp [exZ] at hp, fun _ => rfl, by simp [exZ], by simp [exZ], fun i p hp => by simp [exZ] at hp, fun _ => rfl, by simp [exZ], by simp [exZ], by simp [exZ], by simp [exZ], by simp [exZ]⟩
set_option maxRecDepth 100000 in
set_option maxHeartbeats 4000000 in
theorem tread_any (A : Option Addr) (c : Nat) (b : List B8) (w : World) (hs : Sl w w.heap.size A (b.map bv)) (hA : A = none → c = 0) (hc : b.length ≤ c) (hlen : b.length ≤ 1099511627776) :
    Calls Tryd.prog 13 #[.slice A b.length c] w fun r w' => ∃ Ai ci Ao co, r = .returned (.tuple #[txV Ai ci Ao co (readV b), .int .i64 ((readE b : Nat) : Int)]) ∧ TxAt w' w'.heap.size Ai ci Ao co (readV b) ∧ Turn (fun _ => False) w w' := by
  have hmf : ∀ (fn : Fn) (first cap : Array Value) (w : World), (Instr.makeFunc fn first cap).run Tryd.prog w = .ok (.func fn first cap) w := fun _ _ _ _ => rfl
  obtain ⟨w2, hw2⟩ : ∃ w2, w2 = (w.alloc (.cells #[.slice none 0 0, .slice none 0 0, .int .u64 0, .int .i64 0] 26)).alloc (.cells #[.slice none 0 0, .slice none 0 0, .int .u64 0, .int .i64 0] 26) := ⟨_, rfl⟩
  have s2 : w2.heap.size = w.heap.size + 2 := by rw [hw2]; simp
  have t2 : Turn (fun _ => False) w w2 := by rw [hw2]; exact ((Turn.refl _ _).alloc _).alloc _
  have gr : w2.heap[w.heap.size]? = some (.cells #[.slice none 0 0, .slice none 0 0, .int .u64 0, .int .i64 0] 26 (0, 0)) := by rw [hw2]; exact heap_alloc2_old _ _ _
  have gx : w2.heap[w.heap.size + 1]? = some (.cells #[.slice none 0 0, .slice none 0 0, .int .u64 0, .int .i64 0] 26 (0, 0)) := by rw [hw2]; exact heap_alloc2_new _ _ _
  have T := Lib.hid (read_cap 34 (.pointer (some ⟨w.heap.size + 1, 0, none⟩)) A c b w2 (fun i => i = w2.heap.size + 1 ∨ i = w2.heap.size ∨ i = w.heap.size + 1) (fun i => w.heap.size ≤ i)
    (fun l w3 => bodE b = 0 ∧ l = bodR b ∧ (∃ G1 G2, w3.heap[w.heap.size + 1]? = some (.cells (txC (some ⟨G1, 0, none⟩) (bodV b).ins.length (some ⟨G2, 0, none⟩) (bodV b).outs.length (bodV b)) 26 (0, 0)) ∧ InsN w3 (fun i => i < w2.heap.size + 4) (some ⟨G1, 0, none⟩) (bodV b).ins ∧ OusN w3 (fun i => i < w2.heap.size + 4) (some ⟨G2, 0, none⟩) (bodV b).outs) ∧ Turn (fun i => i = w.heap.size + 1) w2 w3)
    (fun k w3 => bodE b = k ∧ Turn (fun i => i = w.heap.size + 1) w2 w3) (fun _ _ => by kernel_rfl)
    ((SlN.of hs (N := fun i => w.heap.size ≤ i) (fun i hi => by omega)).turn t2 (fun _ h => h.elim) (fun _ _ h => h)) hA hc hlen (by omega)
    (by
      intro w1 t1 s1 e1
      refine (read1_any (w2.heap.size + 1) w2.heap.size (w.heap.size + 1) _ b _ _ _ _ w1 e1 (fun i hi => .inr (by omega)) (t1.heap gx (fun h => h)) (by omega) (by omega) (.inl (by omega))).mono ?_
      rintro r w3 (⟨hz, rfl, ⟨G1, G2, hx, hI, hO⟩, he, ht⟩ | ⟨hz, rfl, he, ht⟩)
      · refine ⟨ht.mono (fun i _ h => by omega), .inl ⟨rfl, _, he, hz, rfl, ⟨G1, G2, hx, ?_, ?_⟩, (t1.mono (fun _ _ h => h.elim)).trans ht (fun i hi h => by omega)⟩⟩
        · rw [s1] at hI; exact hI
        · rw [s1] at hO; exact hO
      · exact ⟨ht.mono (fun i _ h => by omega), .inr ⟨rfl, _, hz, he, rfl, (t1.mono (fun _ _ h => h.elim)).trans ht (fun i hi h => by omega)⟩⟩))
  have GR := Lib.hid gr
  have T2 := Lib.hid t2
  have HS2 := Lib.hid s2
  clear hs hlen gr gx t2 s2
  go_enter Tryd.func13, Tryd.ntmps13
  go_upto_region 2 with fail
  change Code.wp _ _ _ _ ((w.alloc (.cells #[.slice none 0 0, .slice none 0 0, .int .u64 0, .int .i64 0] 26)).alloc (.cells #[.slice none 0 0, .slice none 0 0, .int .u64 0, .int .i64 0] 26))
  rw [← hw2]
  clear hw2
  go_wp2_with fail
  refine T.out.mono ?_
  rintro r w4 ⟨w3, ht4, (⟨l, ⟨hz, rfl, ⟨G1, G2, hx, hI, hO⟩, ht3⟩, rfl⟩ | ⟨k, hk, ⟨hz, ht3⟩, rfl⟩)⟩
  · have hg4 := ht4.heap (ht3.heap GR.out (by omega)) (by have := HS2.out; omega)
    have hx4 := ht4.heap hx (by have := HS2.out; omega)
    have HG4 := Lib.hid hg4
    have HX4 := Lib.hid hx4
    have HT4 := Lib.hid (show Turn (fun _ => False) w w4 from (T2.out.trans ht3 (fun i hi h => by omega)).trans ht4 (fun i hi h => by have := HS2.out; omega))
    have hI4 := hI.turn (N' := fun i => i < w2.heap.size) ht4 (fun i h => by have h' : i = w2.heap.size + 1 := h; show i < _; omega) (fun i _ h => by have h' : i < w2.heap.size := h; show i < _; omega)
    have hO4 := hO.turn (N' := fun i => i < w2.heap.size) ht4 (fun i h => by have h' : i = w2.heap.size + 1 := h; show i < _; omega) (fun i _ h => by have h' : i < w2.heap.size := h; show i < _; omega)
    have hbv := bodV_ok hz
    obtain ⟨b1, b2, b3, b4, b5⟩ := hbv
    have HTX := Lib.hid (fun (w' : World) (k : Turn (fun i => i = w.heap.size) w4 w') => show TxAt w' w'.heap.size (some ⟨G1, 0, none⟩) (bodV b).ins.length (some ⟨G2, 0, none⟩) (bodV b).outs.length (bodV b) from
      ⟨(hI4.turn (N' := fun _ => False) k (fun i h => by have h' : i = w.heap.size := h; have := HS2.out; show i < _; omega) (fun i _ h => h.elim)).at, (fun h => by cases h), Nat.le_refl _, by unfold maxLen; omega, (hO4.turn (N' := fun _ => False) k (fun i h => by have h' : i = w.heap.size := h; have := HS2.out; show i < _; omega) (fun i _ h => h.elim)).at, (fun h => by cases h), Nat.le_refl _, by unfold maxLen; omega, b3, by omega, by omega⟩)
    by_cases hl : bodR b = []
    · have HCK := Lib.hid (check_any _ _ _ _ _ _ w4 (HTX.out w4 (Turn.refl _ _)))
      have HIF := Lib.hid (show (if bodR b = [] then (0 : Int) else 3) = 0 by rw [if_pos hl])
      have HRE := Lib.hid (show readE b = chk (bodV b) by unfold readE; rw [if_neg (by omega), if_neg (by rw [hl]; simp)])
      have HRV := Lib.hid (show readV b = if chk (bodV b) ≠ 0 then exZ else bodV b by unfold readV; rw [HRE.out])
      clear T hz ht3 ht4 hg4 hx hx4 hI hO hI4 hO4 hl
      rw [HIF.out]
      obtain ⟨tv, htv⟩ : ∃ tv, tv = bodV b := ⟨_, rfl⟩
      rw [← htv] at HCK HRE HRV HTX HX4 b3 b4 b5
      clear htv b1 b2 HIF
      obtain ⟨z, hz⟩ : ∃ z, z = chk tv := ⟨_, rfl⟩
      rw [← hz] at HCK HRE HRV
      clear hz
      unfold txC at HX4
      obtain ⟨⟨c0, c1, c2, c3⟩, z0, z1, z2, z3⟩ := row4 HX4.out
      by_cases hz : z = 0
      · subst hz
        have HRV' := Lib.hid (show readV b = tv by rw [HRV.out]; simp)
        unfold txV at HCK
        clear HRV
        go_wp2_with fail
        refine HCK.out.mono ?_
        rintro r w5 ⟨rfl, t5⟩
        have hx5 := t5.heap HX4.out (fun h => h)
        have hg5 := t5.heap HG4.out (fun h => h)
        clear c0 c1 c2 c3 z0 z1 z2 z3
        obtain ⟨⟨c0, c1, c2, c3⟩, z0, z1, z2, z3⟩ := row4 hx5
        obtain ⟨⟨d0, d1, d2, d3⟩, y0, y1, y2, y3⟩ := row4 hg5
        have HG5 := Lib.hid hg5
        have HT5 := Lib.hid t5
        clear hx5 hg5 t5
        go_wp2_with fail
        have h5 := set4 HG5.out (.slice (some ⟨G1, 0, none⟩) tv.ins.length tv.ins.length) (.slice (some ⟨G2, 0, none⟩) tv.outs.length tv.outs.length) (.int .u64 (tv.fee : Int)) (.int .i64 tv.exp)
        refine bodyPost_ret (v := .tuple #[.agg #[.slice (some ⟨G1, 0, none⟩) tv.ins.length tv.ins.length, .slice (some ⟨G2, 0, none⟩) tv.outs.length tv.outs.length, .int .u64 (tv.fee : Int), .int .i64 tv.exp], .int .i64 0]) ?_ rfl ⟨_, tv.ins.length, _, tv.outs.length, by rw [HRV'.out, HRE.out]; rfl, by rw [HRV'.out]; exact HTX.out _ ((HT5.out.mono (fun _ _ h => h.elim)).trans h5.2 (fun _ _ h => h)), (HT4.out.trans HT5.out (fun _ _ h => h)).trans h5.2 (fun i hi h => absurd hi (by have h' : i = w.heap.size := h; omega))⟩
        exact results_tx Tryd.results13 _ _ w.heap.size _ _ rfl rfl h5.1 rfl
      · have HRV' := Lib.hid (show readV b = exZ by rw [HRV.out, if_pos hz])
        have hk1 : ((z : Int) != 0) = true := by simp; omega
        unfold txV at HCK
        clear HRV hz
        go_wp2_with fail
        refine HCK.out.mono ?_
        rintro r w5 ⟨rfl, t5⟩
        have hg5 := t5.heap HG4.out (fun h => h)
        clear c0 c1 c2 c3 z0 z1 z2 z3
        obtain ⟨⟨d0, d1, d2, d3⟩, y0, y1, y2, y3⟩ := row4 hg5
        have HG5 := Lib.hid hg5
        have HT5 := Lib.hid t5
        clear hg5 t5
        go_wp2_with fail
        have h5 := set4 HG5.out (.slice none 0 0) (.slice none 0 0) (.int .u64 0) (.int .i64 0)
        refine bodyPost_ret (v := .tuple #[.agg #[.slice none 0 0, .slice none 0 0, .int .u64 0, .int .i64 0], .int .i64 (z : Int)]) ?_ rfl ⟨none, 0, none, 0, by rw [HRV'.out, HRE.out]; rfl, by rw [HRV'.out]; exact exZ_at _ _, (HT4.out.trans HT5.out (fun _ _ h => h)).trans h5.2 (fun i hi h => absurd hi (by have h' : i = w.heap.size := h; omega))⟩
        exact results_tx Tryd.results13 _ _ w.heap.size _ _ rfl rfl h5.1 rfl
    · have HIF := Lib.hid (show (if bodR b = [] then (0 : Int) else 3) = 3 by rw [if_neg hl])
      have HRE := Lib.hid (show readE b = 3 by unfold readE; rw [if_neg (by omega), if_pos hl])
      have HRV := Lib.hid (show readV b = exZ by unfold readV; rw [HRE.out]; rfl)
      obtain ⟨⟨c0, c1, c2, c3⟩, z0, z1, z2, z3⟩ := row4 hg4
      clear T hz ht3 ht4 hg4 hx hx4 hI hO hI4 hO4 hl HTX b1 b2 b3 b4 b5
      rw [HIF.out]
      clear HIF
      go_wp2_with fail
      have h5 := set4 HG4.out (.slice none 0 0) (.slice none 0 0) (.int .u64 0) (.int .i64 0)
      refine bodyPost_ret (v := .tuple #[.agg #[.slice none 0 0, .slice none 0 0, .int .u64 0, .int .i64 0], .int .i64 (3 : Int)]) ?_ rfl ⟨none, 0, none, 0, by rw [HRV.out, HRE.out]; rfl, by rw [HRV.out]; exact exZ_at _ _, HT4.out.trans h5.2 (fun i hi h => absurd hi (by have h' : i = w.heap.size := h; omega))⟩
      exact results_tx Tryd.results13 _ _ w.heap.size _ _ rfl rfl h5.1 rfl
  · have hRE : readE b = k := by unfold readE; rw [if_pos (by rw [hz]; exact hk), hz]
    have hRV : readV b = exZ := by unfold readV; rw [if_pos (by rw [hRE]; exact hk)]
    have hg4 := ht4.heap (ht3.heap GR.out (by omega)) (by have := HS2.out; omega)
    obtain ⟨⟨c0, c1, c2, c3⟩, z0, z1, z2, z3⟩ := row4 hg4
    have HG4 := Lib.hid hg4
    have HT4 := Lib.hid (show Turn (fun _ => False) w w4 from (T2.out.trans ht3 (fun i hi h => by omega)).trans ht4 (fun i hi h => by have := HS2.out; omega))
    have HRE := Lib.hid hRE
    have HRV := Lib.hid hRV
    have hk1 : ((k : Int) == 0) = false := by simp; omega
    have hk2 : ((k : Int) != 0) = true := by simp; omega
    clear T hz ht3 ht4 hg4 hRE hRV hk
    go_wp2_with fail
    have h5 := set4 HG4.out (.slice none 0 0) (.slice none 0 0) (.int .u64 0) (.int .i64 0)
    refine bodyPost_ret (v := .tuple #[.agg #[.slice none 0 0, .slice none 0 0, .int .u64 0, .int .i64 0], .int .i64 (k : Int)]) ?_ rfl ⟨none, 0, none, 0, by rw [HRV.out, HRE.out]; rfl, by rw [HRV.out]; exact exZ_at _ _, HT4.out.trans h5.2 (fun i hi h => absurd hi (by have h' : i = w.heap.size := h; omega))⟩
    exact results_tx Tryd.results13 _ _ w.heap.size _ _ rfl rfl h5.1 rfl

end
section
set_option linter.unusedVariables false

open Go.RowKit
def ptLoad (v : Value) : Sem Value := Instr.loadAt 45 v
set_option maxRecDepth 100000 in
theorem loadAt_pt (v : Value) : Instr.loadAt 45 v = ptLoad v := rfl
set_option maxRecDepth 100000 in
theorem run_ptLoad (w : World) (b o : Nat) : (ptLoad (.pointer (some ⟨b, o, none⟩))).run Tryd.prog w = (match rowOf w b o 33 with | some C => .ok (.agg C) w | none => loadRest Tryd.prog 45 b o w) := by
  unfold ptLoad
  cases h : rowOf w b o 33 with
  | none => rfl
  | some C =>
    obtain ⟨hs, hr⟩ := rowOf_some h
    have := run_loadAt_mid w b o 45 C.toList _ hr Tryd.underlying45 rfl (by rw [Array.length_toList, hs]; kernel_rfl)
    simpa using this
def outLoad (v : Value) : Sem Value := Instr.loadAt 49 v
set_option maxRecDepth 100000 in
theorem loadAt_out (v : Value) : Instr.loadAt 49 v = outLoad v := rfl
set_option maxRecDepth 100000 in
theorem run_outLoad (w : World) (b o : Nat) : (outLoad (.pointer (some ⟨b, o, none⟩))).run Tryd.prog w = (match rowOf w b o 33 with | some C => .ok (.agg C) w | none => loadRest Tryd.prog 49 b o w) := by
  unfold outLoad
  cases h : rowOf w b o 33 with
  | none => rfl
  | some C =>
    obtain ⟨hs, hr⟩ := rowOf_some h
    have := run_loadAt_mid w b o 49 C.toList _ hr Tryd.underlying49 rfl (by rw [Array.length_toList, hs]; kernel_rfl)
    simpa using this
set_option maxRecDepth 100000 in
/-- The point of an input in a row. -/
theorem Pin.ptAt {w : World} {b o : Nat} {p : Pin} {S : Option Addr} {c : Nat} (h : w.rangeAt b o (p.cells S c)) (hd : p.d.length = 32) : rowOf w b o 33 = some (recV p.d (.int .i64 p.x)).toArray := by
  refine rowOf_eq (recV_len _ _ hd) (fun j v hj => h j v ?_)
  have e : p.cells S c = recV p.d (.int .i64 p.x) ++ [.int .u64 (p.n : Int), .slice S p.b.length c] := by simp [Pin.cells, recV]
  rw [e, List.getElem?_append_left (List.getElem?_eq_some_iff.1 hj).1]; exact hj
set_option maxRecDepth 100000 in
theorem Pin.rc {w : World} {b o : Nat} {p : Pin} {S : Option Addr} {c : Nat} (h : w.rangeAt b o (p.cells S c)) (hd : p.d.length = 32) :
    w.cell? ⟨b, o + 32, none⟩ = some (.int .i64 p.x) ∧ w.cell? ⟨b, o + 33, none⟩ = some (.int .u64 (p.n : Int)) ∧ w.cell? ⟨b, o + 34, none⟩ = some (.slice S p.b.length c) := by
  obtain ⟨a, b', d⟩ := p.at S c hd
  exact ⟨h 32 _ a, h 33 _ b', h 34 _ d⟩
set_option maxRecDepth 100000 in
theorem Pout.rc {w : World} {b o : Nat} {p : Pout} (h : w.rangeAt b o p.cells) (hd : p.d.length = 32) : w.cell? ⟨b, o + 32, none⟩ = some (.int .u64 (p.n : Int)) := h 32 _ (p.at hd)
set_option maxRecDepth 100000 in
theorem Pout.rowAt {w : World} {b o : Nat} {p : Pout} (h : w.rangeAt b o p.cells) (hd : p.d.length = 32) : rowOf w b o 33 = some (recV p.d (.int .u64 (p.n : Int))).toArray := rowOf_eq (recV_len _ _ hd) h
set_option maxRecDepth 100000 in
theorem eql_out (p q : Pout) (hp : p.d.length = 32) (hq : q.d.length = 32) (w : World) :
    (binOp .eql 49 (.agg (recV p.d (.int .u64 (p.n : Int))).toArray) (.agg (recV q.d (.int .u64 (q.n : Int))).toArray)).run Tryd.prog w = .ok (.bool (decide (p = q))) w := by
  have h := eq_rec 49 24 .u64 "Owner" "Amount" (by kernel_rfl) (by decide) (by decide) (by kernel_rfl) (by kernel_rfl) Tryd.underlying24 p.d q.d (p.n : Int) (q.n : Int) hp hq w
  rw [h]
  congr 2
  rw [decide_eq_decide]
  cases p; cases q; simp; omega

end
section
set_option linter.unusedVariables false
set_option linter.unusedSimpArgs false

open Go.RowKit
attribute [local go_sem ↓] loadAt_pt
attribute [local go_sem] rowOf_drew rowOf_drewN run_ptLoad
set_option maxRecDepth 100000 in
theorem newOne (w : World) (x : Value) (t : TypeId) : ∀ (j : Nat) (u : Value), [x][j]? = some u → ∃ ad, some (⟨w.heap.size, 0, none⟩ : Addr) = some ad ∧ (w.alloc (.cells #[x] t)).cell? (ad.add j) = some u := fun j u hu => ⟨_, rfl, World.news_of_block (heap_alloc_new w (.cells #[x] t)) j u hu⟩
set_option maxRecDepth 100000 in
theorem any_take_false {g : Pin → Bool} {l : List Pin} {k : Nat} (hk : k < l.length) (h : g l[k] = true) : l.any g = true := List.any_eq_true.2 ⟨_, List.getElem_mem hk, h⟩
set_option maxRecDepth 100000 in
theorem insN_take_succ {l : List Pin} {k : Nat} (h : k < l.length) : insN (l.take (k + 1)) = insN (l.take k) ++ [l[k].n] := by unfold insN; rw [List.take_succ_eq_append_getElem h, List.map_append]; rfl
set_option maxRecDepth 100000 in
theorem outsN_take_succ {l : List Pout} {k : Nat} (h : k < l.length) : outsN (l.take (k + 1)) = outsN (l.take k) ++ [l[k].n] := by unfold outsN; rw [List.take_succ_eq_append_getElem h, List.map_append]; rfl
set_option maxRecDepth 100000 in
theorem zeroB_app (a b : List Nat) : zeroB (a ++ b) = (zeroB a || zeroB b) := by unfold zeroB; rw [List.any_append]
set_option maxRecDepth 100000 in
theorem zeroB_one (n : Nat) : zeroB [n] = ((n : Int) == 0) := by
  unfold zeroB; rw [Bool.eq_iff_iff]; simp
set_option maxRecDepth 100000 in
theorem u64s_app (a : List Nat) (n : Nat) : u64s (a ++ [n]) = u64s a ++ [.int .u64 (n : Int)] := by unfold u64s; rw [List.map_append]; rfl
set_option maxRecDepth 100000 in
theorem u64s_len (a : List Nat) : (u64s a).length = a.length := by simp [u64s]
set_option maxRecDepth 100000 in
theorem chk4 {t : Ptx} (h : withinB t = false) : chk t = 4 := by unfold chk; rw [if_pos h]
set_option maxRecDepth 100000 in
theorem chk7 {t : Ptx} (h : withinB t = true) (h2 : twiceB t.ins = true) : chk t = 7 := by unfold chk; rw [if_neg (by rw [h]; decide), if_pos h2]
set_option maxRecDepth 100000 in
theorem chk8 {t : Ptx} (h : withinB t = true) (h2 : twiceB t.ins = false) (h3 : (zeroB (insN t.ins) || zeroB (outsN t.outs)) = true) : chk t = 8 := by
  unfold chk; rw [if_neg (by rw [h]; decide), if_neg (by rw [h2]; decide), if_pos (by simpa using h3)]
set_option maxRecDepth 100000 in
theorem chk9 {t : Ptx} (h : withinB t = true) (h2 : twiceB t.ins = false) (h3 : (zeroB (insN t.ins) || zeroB (outsN t.outs)) = false) : chk t = balE (insN t.ins) (outsN t.outs ++ [t.fee]) := by
  unfold chk; rw [if_neg (by rw [h]; decide), if_neg (by rw [h2]; decide), if_neg (by simp at h3; simp [h3])]
set_option maxRecDepth 100000 in
set_option maxHeartbeats 8000000 in
theorem rcheck_any (Ai Ao : Option Addr) (ci co B : Nat) (t : Ptx) (w : World) (h : TxAt w B Ai ci Ao co t) :
    Calls Tryd.prog 8 #[txV Ai ci Ao co t] w fun e w' => e = .returned (.int .i64 ((chk t : Nat) : Int)) ∧ Turn (fun _ => False) w w' := by
  obtain ⟨i0, hi, hz0, hz1, hz2⟩ := info_parts info_u64
  obtain ⟨w0, hw0⟩ : ∃ w0, w0 = w.alloc (.cells #[.slice Ai t.ins.length ci, .slice Ao t.outs.length co, .int .u64 (t.fee : Int), .int .i64 t.exp] 26) := ⟨_, rfl⟩
  have hT0 : Turn (fun _ => False) w w0 := by rw [hw0]; exact (Turn.refl _ _).alloc _
  have hg0 : w0.heap[w.heap.size]? = some (.cells #[.slice Ai t.ins.length ci, .slice Ao t.outs.length co, .int .u64 (t.fee : Int), .int .i64 t.exp] 26 (0, 0)) := by rw [hw0]; exact heap_alloc_new _ _
  have HGX := Lib.hid hg0
  have CF := Lib.hid (fun (w' : World) (k : Turn (fun _ => False) w0 w') => (row4 (k.heap hg0 (fun h => h))).1)
  obtain ⟨c0, c1, c2, c3⟩ := CF.out w0 (Turn.refl _ _)
  have him := h.im
  have hom := h.om
  unfold maxLen at him hom
  have x0 := h.x0
  have x1 := h.x1
  have hfee := h.fee
  have HI := Lib.hid (h.ins.turn hT0 (fun _ _ h => h))
  have HO := Lib.hid (h.outs.turn hT0 (fun _ _ h => h))
  have HT0 := Lib.hid hT0
  have K4 := Lib.hid (@chk4 t)
  have K7 := Lib.hid (@chk7 t)
  have K8 := Lib.hid (@chk8 t)
  have K9 := Lib.hid (@chk9 t)
  have HL1 := Lib.hid (u64s_lt fun p hp => (h.ins.oks p hp).n)
  have HL2 := Lib.hid (show ∀ x ∈ outsN t.outs ++ [t.fee], x < 18446744073709551616 from fun x hx => by
    rcases List.mem_append.1 hx with hx | hx
    · simp only [outsN, List.mem_map] at hx
      obtain ⟨p, hp, rfl⟩ := hx
      exact (h.outs.oks p hp).n
    · simp at hx; omega)
  generalize chk t = zc at *
  unfold txV
  by_cases hcnt : 1 ≤ t.ins.length ∧ t.ins.length ≤ 16 ∧ 1 ≤ t.outs.length ∧ t.outs.length ≤ 16 ∧ 0 ≤ t.exp ∧ t.exp ≤ 1099511627776
  · have HW := Lib.hid (withinB_yes1 hcnt)
    obtain ⟨h1, h2, h3, h4, h5, h6⟩ := hcnt
    have e1 : ¬ (t.ins.length : Int) < 1 := by omega
    have e2 : ¬ (16 : Int) < (t.ins.length : Int) := by omega
    have e3 : ¬ (t.outs.length : Int) < 1 := by omega
    have e4 : ¬ (16 : Int) < (t.outs.length : Int) := by omega
    have e5 : ¬ t.exp < 0 := by omega
    have e6 : ¬ (1099511627776 : Int) < t.exp := by omega
    clear h hT0 hg0
    go_enter Tryd.func8, Tryd.ntmps8
    go_upto_region 1 with fail
    change Code.wp _ _ _ _ (w.alloc (.cells #[.slice Ai t.ins.length ci, .slice Ao t.outs.length co, .int .u64 (t.fee : Int), .int .i64 t.exp] 26))
    rw [← hw0]
    clear hw0
    go_wp2
    go_loop [3] (fun i => ∃ k : Nat, k ≤ t.ins.length ∧ i = .int .i64 k ∧ (t.ins.take k).any outB = false) (fun i => t.ins.length - (intOf i).toNat)
    case atStart => exact ⟨0, Nat.zero_le _, rfl, rfl⟩
    case round =>
      obtain ⟨k, hk, rfl, ha⟩ := hrel
      by_cases hlt : k < t.ins.length
      · obtain ⟨hok, b, o, S, cp, rfl, hbb, hs, hr⟩ := HI.out k t.ins[k] (List.getElem?_eq_getElem hlt)
        obtain ⟨d0, d1, d2⟩ := Pin.rc hr hok.d
        have HNX := Lib.hid (fun h1 => any_take_succ outB t.ins k hlt ha h1)
        have HHIT := Lib.hid (fun h1 => any_take_false (g := outB) hlt h1)
        obtain ⟨p, hp⟩ : ∃ p, p = t.ins[k] := ⟨_, rfl⟩
        rw [← hp] at d0 d1 d2 hok HNX HHIT
        have hpm := hok.m
        unfold maxLen at hpm
        have y0 := hok.x0
        have y1 := hok.x1
        cases hob : outB p
        · obtain ⟨f1, f2, f3⟩ := outB_false hob
          have HN := Lib.hid (HNX.out hob)
          have g1 : ¬ (64 : Int) < (p.b.length : Int) := by omega
          have g2 : ¬ p.x < 0 := by omega
          have g3 : ¬ (15 : Int) < p.x := by omega
          clear hr hok hp hs ha hob HNX HHIT
          go_wp2
          go_round
          case rel => exact ⟨k + 1, by omega, by go_num, HN.out⟩
          case measure => simp [intOf]; omega
        · have HWF := Lib.hid (K4.out (by rw [HW.out, HHIT.out hob]; rfl))
          have HOB := Lib.hid (show ¬ (p.b.length ≤ 64 ∧ 0 ≤ p.x ∧ p.x ≤ 15) from fun h => by rw [outB_no (by omega)] at hob; cases hob)
          generalize p.b.length = bl at *
          clear hr hok hp hs ha hob HNX HHIT
          go_wp2
          all_goals
            first
              | (go_ret; exact ⟨ret_int (by rw [HWF.out]; rfl), HT0.out⟩)
              | (exfalso; have := HOB.out; omega)
      · obtain rfl : k = t.ins.length := by omega
        rw [List.take_length] at ha
        have hw1 : withinB t = true := by rw [HW.out, ha]; rfl
        have HW1 := Lib.hid hw1
        clear ha hw1 HW
        go_wp2
        go_loopw [4, 6, 7] (fun v z i wr => ∃ k : Nat, k ≤ t.ins.length ∧ i = .int .i64 k ∧ z = .bool (zeroB (insN (t.ins.take k))) ∧ (List.range k).any (twAt t.ins) = false ∧ wr.ownsRow w0.heap.size 24 1 v k (u64s (insN (t.ins.take k))) ∧ Turn (fun _ => False) w0 wr) (fun _ _ i _ => t.ins.length - (intOf i).toNat)
        case atStart => exact ⟨0, Nat.zero_le _, rfl, rfl, rfl, World.ownsRow_nil _ _ _ _, Turn.refl _ _⟩
        case round =>
          clear c0 c1 c2 c3
          obtain ⟨k, hk, rfl, rfl, htw, hown, ht⟩ := hrel
          obtain ⟨c0, c1, c2, c3⟩ := CF.out _ ht
          have HTR := Lib.hid ht
          have HOW := Lib.hid hown
          have HTW := Lib.hid htw
          clear hown htw
          by_cases hlt : k < t.ins.length
          · obtain ⟨hok, b, o, S, cp, rfl, hbb, hs, hr⟩ := (HI.out.turn ht (fun _ _ h => h)) k t.ins[k] (List.getElem?_eq_getElem hlt)
            have hrk := Pin.ptAt hr hok.d
            have HRK := Lib.hid hr
            have HTA := Lib.hid (twAt_at hlt)
            have HH7 := Lib.hid (fun h1 => K7.out HW1.out (twiceB_hit hlt h1))
            have HNX := Lib.hid (fun h1 => range_any_succ (twAt t.ins) k HTW.out h1)
            have HINS := Lib.hid (insN_take_succ hlt)
            obtain ⟨q, hq⟩ : ∃ q, q = t.ins[k] := ⟨_, rfl⟩
            rw [← hq] at hrk hok HTA HRK HINS
            have HQK := Lib.hid hok
            have HQL := Lib.hid (show t.ins[k]? = some q by rw [hq]; exact List.getElem?_eq_getElem hlt)
            obtain ⟨PK, hPK⟩ : ∃ PK, PK = (recV q.d (.int .i64 q.x)).toArray := ⟨_, rfl⟩
            rw [← hPK] at hrk
            have HPK := Lib.hid hPK
            have HIR := Lib.hid (HI.out.turn ht (fun _ _ h => h))
            clear hr hok hs hq hPK ht
            go_wp2
            go_loopw [8] (fun i wr2 => ∃ (j m : Nat), j ≤ k ∧ i = .int .i64 j ∧ (t.ins.take j).any (fun p => samePt p q) = false ∧ wr2 = wr.drewN m) (fun i _ => k - (intOf i).toNat)
            case atStart => exact ⟨0, 0, Nat.zero_le _, rfl, rfl, rfl⟩
            case round =>
              obtain ⟨j, m, hj, rfl, haj, rfl⟩ := hrel
              by_cases hjk : j < k
              · have hjl : j < t.ins.length := by omega
                obtain ⟨hokj, b', o', S', cp', e', hbb', hs', hr'⟩ := HIR.out j t.ins[j] (List.getElem?_eq_getElem hjl)
                injection e' with e'
                injection e' with e1' e2' e3'
                subst e1' e2'
                have hrj := Pin.ptAt hr' hokj.d
                have HNJ := Lib.hid (fun h1 => any_take_succ (fun p => samePt p q) t.ins j hjl haj h1)
                have HHJ := Lib.hid (fun h1 : samePt t.ins[j] q = true => show twAt t.ins k = true from by
                  rw [HTA.out]
                  exact List.any_eq_true.2 ⟨t.ins[j], by rw [List.mem_take_iff_getElem]; exact ⟨j, by omega, rfl⟩, h1⟩)
                obtain ⟨p, hp⟩ : ∃ p, p = t.ins[j] := ⟨_, rfl⟩
                rw [← hp] at hrj hokj HNJ HHJ
                have he := eql_point p q hokj.d HQK.out.d
                obtain ⟨PJ, hPJ⟩ : ∃ PJ, PJ = (recV p.d (.int .i64 p.x)).toArray := ⟨_, rfl⟩
                rw [← hPJ] at hrj he
                rw [← HPK.out] at he
                have c0' : (wr.drewN m).cell? ⟨w.heap.size, 0, none⟩ = some (.slice (some ⟨b, o, none⟩) t.ins.length ci) := c0
                clear hr' hs' hokj hp hPJ haj
                cases hsp : samePt p q
                · rw [hsp] at he
                  have HN := Lib.hid (HNJ.out hsp)
                  clear hsp HNJ HHJ
                  go_wp2
                  go_quiet (fail)
                  go_wp2
                  go_roundw
                  case rel => exact ⟨j + 1, m + nq, by omega, by go_num, HN.out, by first | rfl | rw [drewN_add]⟩
                  case measure => simp [intOf]; omega
                · rw [hsp] at he
                  have HN := Lib.hid (HH7.out (HHJ.out hsp))
                  clear hsp HNJ HHJ
                  go_wp2
                  go_quiet (fail)
                  go_wp2
                  go_ret
                  exact ⟨ret_int (by rw [HN.out]; rfl), HT0.out.trans ((HTR.out.drewN m).drewN nq) (fun _ _ h => h)⟩
              · obtain rfl : j = k := by omega
                have HTF := Lib.hid (HNX.out (by rw [HTA.out]; exact haj))
                have ht1 : Turn (fun _ => False) wr (wr.drewN m) := (Turn.refl _ _).drewN m
                have HOW1 := Lib.hid (ht1.own HOW.out (fun _ _ h => h))
                have HT1 := Lib.hid (HTR.out.trans ht1 (fun _ _ h => h))
                have hrc := Pin.rc (ht1.range HRK.out (fun h => h)) HQK.out.d
                have hqn := HQK.out.n
                clear c0 c1 c2 c3 hrk haj ht1
                obtain ⟨d32, d33, d34⟩ := hrc
                obtain ⟨c0, c1, c2, c3⟩ := CF.out _ HT1.out
                have HZ := Lib.hid (show zeroB (insN (t.ins.take (j + 1))) = (zeroB (insN (t.ins.take j)) || ((q.n : Int) == 0)) by rw [HINS.out, zeroB_app, zeroB_one])
                have HU := Lib.hid (show u64s (insN (t.ins.take (j + 1))) = u64s (insN (t.ins.take j)) ++ [.int .u64 (q.n : Int)] by rw [HINS.out, u64s_app])
                have HRK1 := Lib.hid (show (wr.drewN m).rangeAt b (o + j * 35) (q.cells S cp) from HRK.out)
                generalize wr.drewN m = w1 at *
                generalize zeroB (insN (t.ins.take j)) = zb at *
                go_wp2_with (at_builtin; refine stop ?_)
                unfold Stop
                refine wpList_append_any (o := ⟨some 114, _, _, _, _, _⟩) rfl _ _ 50 rfl w0.heap.size 24 i0 (.int .u64 0) 8 Tryd.underlying50 hi hz0 hz1 hz2 rfl _ j _ rfl (HOW1.out.alloc _) (some ⟨w1.heap.size, 0, none⟩) 1 1 [.int .u64 (q.n : Int)] rfl (fun h => by cases h) rfl (newOne w1 _ _) (by intro u hu; simp at hu; rw [hu]; rfl) (by unfold maxLen; omega) (by omega) (by have := HT1.out.size; simp; omega) ?_
                intro v3 w3 g1 g2
                have HO3 := Lib.hid g1
                have ht3 : Turn (fun _ => False) w0 w3 := (HT1.out.alloc _).grown g2 (fun i hi e => by have := (HOW1.out.lt i e.symm).1; omega)
                obtain ⟨-, b2, o2, S2, cp2, e2', -, -, hr2⟩ := (HI.out.turn ht3 (fun _ _ h => h)) j q HQL.out
                injection e2' with e2'
                injection e2' with e21 e22 e23
                subst e21 e22
                obtain ⟨-, f33, -⟩ := Pin.rc hr2 HQK.out.d
                have HT3 := Lib.hid ht3
                clear c0 c1 c2 c3 d32 d33 d34 g1 g2 hr2
                obtain ⟨c0, c1, c2, c3⟩ := CF.out _ ht3
                clear ht3
                cases zb
                · go_wp2
                  go_roundw
                  case rel => exact ⟨j + 1, by omega, by go_num, by rw [HZ.out]; rfl, HTF.out, by rw [HU.out]; exact HO3.out, HT3.out⟩
                  case measure => simp [intOf]; omega
                · go_wp2
                  go_roundw
                  case rel => exact ⟨j + 1, by omega, by go_num, by rw [HZ.out]; rfl, HTF.out, by rw [HU.out]; exact HO3.out, HT3.out⟩
                  case measure => simp [intOf]; omega
          · obtain rfl : k = t.ins.length := by omega
            have HOW2 := Lib.hid (show wr.ownsRow w0.heap.size 24 1 u4 t.ins.length (u64s (insN t.ins)) by have := HOW.out; rwa [List.take_length] at this)
            obtain ⟨A4, k4, rfl, hs4, -, hk4, ha4⟩ := own_sl HOW2.out
            have HS4 := Lib.hid hs4
            have HTWF := Lib.hid (show twiceB t.ins = false by rw [twiceB_eq]; exact HTW.out)
            rw [List.take_length]
            generalize hzb : zeroB (insN t.ins) = zb at *
            clear HOW HOW2 HTW hs4 ht hk4 ha4
            clear c0 c1 c2 c3
            obtain ⟨c0, c1, c2, c3⟩ := CF.out _ HTR.out
            go_wp2
            generalize wr = wk at *
            go_loopw [5, 6, 9] (fun v z i wr => ∃ k : Nat, k ≤ t.outs.length ∧ i = .int .i64 k ∧ z = .bool (zb || zeroB (outsN (t.outs.take k))) ∧ wr.ownsRow wk.heap.size 24 1 v k (u64s (outsN (t.outs.take k))) ∧ Turn (fun _ => False) wk wr) (fun _ _ i _ => t.outs.length - (intOf i).toNat)
            case atStart => exact ⟨0, Nat.zero_le _, rfl, by cases zb <;> rfl, World.ownsRow_nil _ _ _ _, Turn.refl _ _⟩
            case round =>
              clear c0 c1 c2 c3
              obtain ⟨k, hk, rfl, rfl, hown, ht5⟩ := hrel
              have HT5 := Lib.hid (HTR.out.trans ht5 (fun _ _ h => h))
              have HV5 := Lib.hid ht5
              have HO5 := Lib.hid hown
              obtain ⟨c0, c1, c2, c3⟩ := CF.out _ HT5.out
              clear hown ht5
              by_cases hlt : k < t.outs.length
              · obtain ⟨hok, b, o, rfl, hbb, hr⟩ := (HO.out.turn HT5.out (fun _ _ h => h)) k t.outs[k] (List.getElem?_eq_getElem hlt)
                have d33 := Pout.rc hr hok.d
                have HINS := Lib.hid (outsN_take_succ hlt)
                obtain ⟨q, hq⟩ : ∃ q, q = t.outs[k] := ⟨_, rfl⟩
                rw [← hq] at d33 hok HINS
                have HQK := Lib.hid hok
                have HQL := Lib.hid (show t.outs[k]? = some q by rw [hq]; exact List.getElem?_eq_getElem hlt)
                have hqn := hok.n
                have HZ := Lib.hid (show (zb || zeroB (outsN (t.outs.take (k + 1)))) = ((zb || zeroB (outsN (t.outs.take k))) || ((q.n : Int) == 0)) by rw [HINS.out, zeroB_app, zeroB_one, Bool.or_assoc])
                have HU := Lib.hid (show u64s (outsN (t.outs.take (k + 1))) = u64s (outsN (t.outs.take k)) ++ [.int .u64 (q.n : Int)] by rw [HINS.out, u64s_app])
                generalize (zb || zeroB (outsN (t.outs.take k))) = z5 at *
                clear hr hok hq
                go_wp2_with (at_builtin; refine stop ?_)
                unfold Stop
                refine wpList_append_any (o := ⟨some 140, _, _, _, _, _⟩) rfl _ _ 50 rfl wk.heap.size 24 i0 (.int .u64 0) 8 Tryd.underlying50 hi hz0 hz1 hz2 rfl _ k _ rfl (HO5.out.alloc _) (some ⟨wr.heap.size, 0, none⟩) 1 1 [.int .u64 (q.n : Int)] rfl (fun h => by cases h) rfl (newOne wr _ _) (by intro u hu; simp at hu; rw [hu]; rfl) (by unfold maxLen; omega) (by omega) (by have := HV5.out.size; simp; omega) ?_
                intro v3 w3 g1 g2
                have HO3 := Lib.hid g1
                have hv3 : Turn (fun _ => False) wk w3 := (HV5.out.alloc _).grown g2 (fun i hi e => by have := (HO5.out.lt i e.symm).1; omega)
                have ht3 := HTR.out.trans hv3 (S := fun _ => False) (fun _ _ h => h)
                obtain ⟨-, b2, o2, e2', -, hr2⟩ := (HO.out.turn ht3 (fun _ _ h => h)) k q HQL.out
                injection e2' with e2'
                injection e2' with e21 e22 e23
                subst e21 e22
                have f33 := Pout.rc hr2 HQK.out.d
                have HV3 := Lib.hid hv3
                clear c0 c1 c2 c3 d33 g1 g2 hr2
                obtain ⟨c0, c1, c2, c3⟩ := CF.out _ ht3
                clear ht3 hv3
                cases z5
                · go_wp2
                  go_roundw
                  case rel => exact ⟨k + 1, by omega, by go_num, by rw [HZ.out]; rfl, by rw [HU.out]; exact HO3.out, HV3.out⟩
                  case measure => simp [intOf]; omega
                · go_wp2
                  go_roundw
                  case rel => exact ⟨k + 1, by omega, by go_num, by rw [HZ.out]; rfl, by rw [HU.out]; exact HO3.out, HV3.out⟩
                  case measure => simp [intOf]; omega
              · obtain rfl : k = t.outs.length := by omega
                rw [List.take_length] at *
                have HO6 := Lib.hid (show wr.ownsRow wk.heap.size 24 1 u5 t.outs.length (u64s (outsN t.outs)) from HO5.out)
                have HS5 := Lib.hid (HV5.out.sl HS4.out (fun _ _ h => h))
                generalize hz5 : (zb || zeroB (outsN t.outs)) = z5 at *
                cases z5
                · have HCK := Lib.hid (K9.out HW1.out HTWF.out (by first | rfl | rw [hzb, hz5]))
                  have HN1 := Lib.hid (insN_len t.ins)
                  have HN2 := Lib.hid (outsN_len t.outs)
                  have RC1 := Lib.hid (fun w' (k : Turn (fun _ => False) wr w') => rall_any A4 k4 wk.heap.size (insN t.ins) w' (k.sl HS5.out (fun _ _ h => h)) (by rw [HN1.out]; unfold maxLen; omega) HL1.out)
                  rw [HN1.out] at RC1
                  have hb : balE (insN t.ins) (outsN t.outs ++ [t.fee]) = if (allV 0 (insN t.ins)).2 ≠ 0 then (allV 0 (insN t.ins)).2 else if (allV 0 (outsN t.outs ++ [t.fee])).2 ≠ 0 then (allV 0 (outsN t.outs ++ [t.fee])).2 else if (allV 0 (insN t.ins)).1 ≠ (allV 0 (outsN t.outs ++ [t.fee])).1 then 9 else 0 := rfl
                  have HRC2 := Lib.hid (fun (A' : Option Addr) (c' B' : Nat) (w' : World) (hs : Sl w' B' A' (u64s (outsN t.outs ++ [t.fee]))) => rall_any A' c' B' (outsN t.outs ++ [t.fee]) w' hs (by rw [List.length_append, HN2.out]; unfold maxLen; simp; omega) HL2.out)
                  have hl2 : (outsN t.outs ++ [t.fee]).length = t.outs.length + 1 := by rw [List.length_append, HN2.out]; rfl
                  rw [hl2] at HRC2
                  rw [← HCK.out] at hb
                  generalize (allV 0 (insN t.ins)).1 = a1 at *
                  generalize (allV 0 (insN t.ins)).2 = a2 at *
                  generalize (allV 0 (outsN t.outs ++ [t.fee])).1 = b1 at *
                  generalize (allV 0 (outsN t.outs ++ [t.fee])).2 = b2 at *
                  have HBE := Lib.hid hb
                  clear hb hl2 HCK hzb hz5
                  go_wp2_with fail
                  refine (RC1.out _ (Turn.refl _ _)).mono ?_
                  rintro r w6 ⟨rfl, rfl⟩
                  by_cases ha2 : a2 ≠ 0
                  · have t1 : ((a2 : Int) != 0) = true := by simp; omega
                    have HZ := Lib.hid (show ((a2 : Nat) : Int) = zc by rw [HBE.out, if_pos ha2])
                    clear ha2
                    go_wp2
                    go_ret
                    exact ⟨ret_int HZ.out, HT0.out.trans HT5.out (fun _ _ h => h)⟩
                  · have t1 : ((a2 : Int) != 0) = false := by simp; omega
                    have HA2 := Lib.hid ha2
                    clear ha2
                    go_wp2_with (at_builtin; refine stop ?_)
                    unfold Stop
                    refine wpList_append_any (o := ⟨some 165, _, _, _, _, _⟩) rfl _ _ 50 rfl wk.heap.size 24 i0 (.int .u64 0) 8 Tryd.underlying50 hi hz0 hz1 hz2 rfl _ t.outs.length _ rfl (HO6.out.alloc _) (some ⟨wr.heap.size, 0, none⟩) 1 1 [.int .u64 (t.fee : Int)] rfl (fun h => by cases h) rfl (newOne wr _ _) (by intro u hu; simp at hu; rw [hu]; rfl) (by unfold maxLen; omega) (by omega) (by have := HV5.out.size; simp; omega) ?_
                    intro v7 w7 g1 g2
                    have hv7 : Turn (fun _ => False) wk w7 := (HV5.out.alloc _).grown g2 (fun i hi e => by have := (HO6.out.lt i e.symm).1; omega)
                    have HV7 := Lib.hid ((HT0.out.trans HTR.out (fun _ _ h => h)).trans hv7 (S := fun _ => False) (fun _ _ h => h))
                    obtain ⟨A7, k7, rfl, hs7, -⟩ := own_sl g1
                    have RC2 := Lib.hid (HRC2.out A7 k7 w7.heap.size w7 (by rw [u64s_app]; exact hs7))
                    clear hv7 g1 g2 hs7
                    go_wp2_with fail
                    refine RC2.out.mono ?_
                    rintro r w8 ⟨rfl, rfl⟩
                    by_cases hb2 : b2 ≠ 0
                    · have t2 : ((b2 : Int) != 0) = true := by simp; omega
                      have HZ := Lib.hid (show ((b2 : Nat) : Int) = zc by rw [HBE.out, if_neg HA2.out, if_pos hb2])
                      clear hb2
                      go_wp2
                      go_ret
                      exact ⟨ret_int HZ.out, HV7.out⟩
                    · have t2 : ((b2 : Int) != 0) = false := by simp; omega
                      by_cases hab : a1 ≠ b1
                      · have t3 : ((a1 : Int) != (b1 : Int)) = true := by simp; omega
                        have HZ := Lib.hid (show (9 : Int) = zc by rw [HBE.out, if_neg HA2.out, if_neg hb2, if_pos hab]; rfl)
                        clear hb2 hab
                        go_wp2
                        go_ret
                        exact ⟨ret_int HZ.out, HV7.out⟩
                      · have t3 : ((a1 : Int) != (b1 : Int)) = false := by simp; omega
                        have HZ := Lib.hid (show (0 : Int) = zc by rw [HBE.out, if_neg HA2.out, if_neg hb2, if_neg hab]; rfl)
                        clear hb2 hab
                        go_wp2
                        go_ret
                        exact ⟨ret_int HZ.out, HV7.out⟩
                · have HCK := Lib.hid (K8.out HW1.out HTWF.out (by first | rfl | rw [hzb, hz5]))
                  clear hzb hz5
                  go_wp2
                  go_ret
                  exact ⟨ret_int (by rw [HCK.out]; rfl), HT0.out.trans HT5.out (fun _ _ h => h)⟩
  · have HWF := Lib.hid (K4.out (withinB_no1 hcnt))
    have HC := Lib.hid hcnt
    generalize t.ins.length = n at *
    generalize t.outs.length = m at *
    generalize t.exp = x at *
    generalize t.fee = f at *
    clear h hcnt hT0 hg0
    go_enter Tryd.func8, Tryd.ntmps8
    go_upto_region 1 with fail
    change Code.wp _ _ _ _ (w.alloc (.cells #[.slice Ai n ci, .slice Ao m co, .int .u64 (f : Int), .int .i64 x] 26))
    rw [← hw0]
    clear hw0
    go_wp2
    all_goals
      first
        | (go_ret; exact ⟨ret_int (by rw [HWF.out]; rfl), HT0.out⟩)
        | (exfalso; have := HC.out; omega)

end
section
set_option linter.unusedVariables false
set_option linter.unusedSimpArgs false

open Go.RowKit
attribute [local go_sem ↓] loadAt_pt loadAt_out
attribute [local go_sem] rowOf_drew rowOf_drewN run_ptLoad run_outLoad
set_option maxRecDepth 100000 in
theorem neq_rec (t ti : TypeId) (k : IntKind) (n0 n1 : String) (hf : (Tryd.prog.fieldsOf t).toList.map (fun f => (f.name, f.type, f.offset)) = [(n0, 35, 0), (n1, ti, 32)]) (h0 : n0 ≠ "_") (h1 : n1 ≠ "_")
    (ht : Tryd.prog.underlying t = some (.struct (Tryd.prog.fieldsOf t))) (hp : Tryd.prog.stoodInHeld t = false) (hi : Tryd.prog.underlying ti = some (.int k)) (a b : List B8) (x y : Int) (ha : a.length = 32) (hb : b.length = 32) (w : World) :
    (binOp .neq t (.agg (recV a (.int k x)).toArray) (.agg (recV b (.int k y)).toArray)).run Tryd.prog w = .ok (.bool (!decide (a = b ∧ x = y))) w := by
  have h := eq_rec t ti k n0 n1 hf h0 h1 ht hp hi a b x y ha hb w
  rw [run_eql_struct] at h
  rw [run_neq_struct]
  generalize (Op.equalIn 10000 t (.agg (recV a (.int k x)).toArray) (.agg (recV b (.int k y)).toArray)).run Tryd.prog w = r at *
  cases r with
  | ok v w1 =>
    simp only [Result.andThen_ok] at h ⊢
    injection h with e1 e2
    injection e1 with e1
    rw [e1, e2]
  | halt v w1 => simp [Result.andThen] at h
set_option maxRecDepth 100000 in
theorem neq_point (p q : Pin) (hp : p.d.length = 32) (hq : q.d.length = 32) (w : World) :
    (binOp .neq 45 (.agg (recV p.d (.int .i64 p.x)).toArray) (.agg (recV q.d (.int .i64 q.x)).toArray)).run Tryd.prog w = .ok (.bool (!samePt p q)) w :=
  neq_rec 45 3 .i64 "Tx" "Index" (by kernel_rfl) (by decide) (by decide) (by kernel_rfl) (by kernel_rfl) Tryd.underlying3 _ _ _ _ hp hq w
set_option maxRecDepth 100000 in
theorem neq_out (p q : Pout) (hp : p.d.length = 32) (hq : q.d.length = 32) (w : World) :
    (binOp .neq 49 (.agg (recV p.d (.int .u64 (p.n : Int))).toArray) (.agg (recV q.d (.int .u64 (q.n : Int))).toArray)).run Tryd.prog w = .ok (.bool (!decide (p = q))) w := by
  rw [neq_rec 49 24 .u64 "Owner" "Amount" (by kernel_rfl) (by decide) (by decide) (by kernel_rfl) (by kernel_rfl) Tryd.underlying24 p.d q.d (p.n : Int) (q.n : Int) hp hq w]
  congr 3
  rw [decide_eq_decide]
  cases p; cases q; simp; omega
def sameB (s t : Ptx) : Bool := decide (s = t)
set_option maxRecDepth 100000 in
theorem same_len {s t : Ptx} (h : ¬ (s.ins.length = t.ins.length ∧ s.outs.length = t.outs.length ∧ s.fee = t.fee ∧ s.exp = t.exp)) : sameB s t = false := by
  unfold sameB; rw [decide_eq_false_iff_not]; rintro rfl; exact h ⟨rfl, rfl, rfl, rfl⟩
set_option maxRecDepth 100000 in
theorem same_in {s t : Ptx} {k : Nat} (hs : k < s.ins.length) (ht : k < t.ins.length) (h : ¬ s.ins[k] = t.ins[k]) : sameB s t = false := by
  unfold sameB; rw [decide_eq_false_iff_not]; rintro rfl; exact h rfl
set_option maxRecDepth 100000 in
theorem same_out {s t : Ptx} {k : Nat} (hs : k < s.outs.length) (ht : k < t.outs.length) (h : ¬ s.outs[k] = t.outs[k]) : sameB s t = false := by
  unfold sameB; rw [decide_eq_false_iff_not]; rintro rfl; exact h rfl
set_option maxRecDepth 100000 in
theorem same_all {s t : Ptx} (h1 : s.ins = t.ins) (h2 : s.outs = t.outs) (h3 : s.fee = t.fee) (h4 : s.exp = t.exp) : sameB s t = true := by
  unfold sameB; rw [decide_eq_true_eq]; cases s; cases t; simp_all
set_option maxRecDepth 100000 in
theorem take_next {α : Type} {a b : List α} {k : Nat} (ha : k < a.length) (hb : k < b.length) (h : a.take k = b.take k) (hk : a[k] = b[k]) : a.take (k + 1) = b.take (k + 1) := by
  rw [List.take_succ_eq_append_getElem ha, List.take_succ_eq_append_getElem hb, h, hk]
set_option maxRecDepth 100000 in
theorem pin_eq {p q : Pin} (h1 : samePt p q = true) (h2 : p.n = q.n) (h3 : p.b = q.b) : p = q := by
  unfold samePt at h1; rw [decide_eq_true_eq] at h1
  cases p; cases q; simp_all
set_option maxRecDepth 100000 in
set_option maxHeartbeats 8000000 in
theorem rsame_any (A1 A2 A3 A4 : Option Addr) (k1 k2 k3 k4 B : Nat) (s t : Ptx) (w : World) (h : TxAt w B A1 k1 A2 k2 s) (h' : TxAt w B A3 k3 A4 k4 t) :
    Calls Tryd.prog 17 #[txV A1 k1 A2 k2 s, txV A3 k3 A4 k4 t] w fun e w' => e = .returned (.bool (sameB s t)) ∧ Turn (fun _ => False) w w' := by
  obtain ⟨w0, hw0⟩ : ∃ w0, w0 = (w.alloc (.cells #[.slice A1 s.ins.length k1, .slice A2 s.outs.length k2, .int .u64 (s.fee : Int), .int .i64 s.exp] 26)).alloc (.cells #[.slice A3 t.ins.length k3, .slice A4 t.outs.length k4, .int .u64 (t.fee : Int), .int .i64 t.exp] 26) := ⟨_, rfl⟩
  have hT0 : Turn (fun _ => False) w w0 := by rw [hw0]; exact ((Turn.refl _ _).alloc _).alloc _
  have hg0 : w0.heap[w.heap.size]? = some (.cells #[.slice A1 s.ins.length k1, .slice A2 s.outs.length k2, .int .u64 (s.fee : Int), .int .i64 s.exp] 26 (0, 0)) := by rw [hw0]; exact heap_alloc2_old _ _ _
  have hg1 : w0.heap[w.heap.size + 1]? = some (.cells #[.slice A3 t.ins.length k3, .slice A4 t.outs.length k4, .int .u64 (t.fee : Int), .int .i64 t.exp] 26 (0, 0)) := by rw [hw0]; exact heap_alloc2_new _ _ _
  have CF := Lib.hid (fun (m : Nat) => show (w0.drewN m).cell? ⟨w.heap.size, 0, none⟩ = some (.slice A1 s.ins.length k1) ∧ (w0.drewN m).cell? ⟨w.heap.size, 1, none⟩ = some (.slice A2 s.outs.length k2) ∧ (w0.drewN m).cell? ⟨w.heap.size + 1, 0, none⟩ = some (.slice A3 t.ins.length k3) ∧ (w0.drewN m).cell? ⟨w.heap.size + 1, 1, none⟩ = some (.slice A4 t.outs.length k4) from
    ⟨(row4 hg0).1.1, (row4 hg0).1.2.1, (row4 hg1).1.1, (row4 hg1).1.2.1⟩)
  obtain ⟨⟨c0, c1, c2, c3⟩, -⟩ := row4 hg0
  obtain ⟨⟨d0, d1, d2, d3⟩, -⟩ := row4 hg1
  have im := h.im
  have om := h.om
  have im' := h'.im
  have om' := h'.om
  unfold maxLen at im om im' om'
  have x0 := h.x0
  have x1 := h.x1
  have y0 := h'.x0
  have y1 := h'.x1
  have hf := h.fee
  have hf' := h'.fee
  have I1 := Lib.hid (h.ins.turn hT0 (fun _ _ h => h))
  have I2 := Lib.hid (h'.ins.turn hT0 (fun _ _ h => h))
  have O1 := Lib.hid (h.outs.turn hT0 (fun _ _ h => h))
  have O2 := Lib.hid (h'.outs.turn hT0 (fun _ _ h => h))
  have HT0 := Lib.hid hT0
  have SL := Lib.hid (@same_len s t)
  have SI := Lib.hid (fun (k : Nat) (hs : k < s.ins.length) (ht : k < t.ins.length) (h : ¬ s.ins[k] = t.ins[k]) => same_in hs ht h)
  have SO := Lib.hid (fun (k : Nat) (hs : k < s.outs.length) (ht : k < t.outs.length) (h : ¬ s.outs[k] = t.outs[k]) => same_out hs ht h)
  have SA := Lib.hid (@same_all s t)
  unfold txV
  generalize sameB s t = rr at *
  clear h h' hT0 hg0 hg1
  by_cases hl : s.ins.length = t.ins.length ∧ s.outs.length = t.outs.length ∧ s.fee = t.fee ∧ s.exp = t.exp
  · obtain ⟨hl1, hl2, hl3, hl4⟩ := hl
    have t1 : ((s.ins.length : Int) != (t.ins.length : Int)) = false := by rw [hl1]; simp
    have t2 : ((s.outs.length : Int) != (t.outs.length : Int)) = false := by rw [hl2]; simp
    have t3 : ((s.fee : Int) != (t.fee : Int)) = false := by rw [hl3]; simp
    have t4 : (s.exp != t.exp) = false := by rw [hl4]; simp
    have HL1 := Lib.hid hl1
    have HL2 := Lib.hid hl2
    have HL3 := Lib.hid hl3
    have HL4 := Lib.hid hl4
    clear hl1 hl2 hl3 hl4
    go_enter Tryd.func17, Tryd.ntmps17
    go_upto_region 1 with fail
    change Code.wp _ _ _ _ ((w.alloc (.cells #[.slice A1 s.ins.length k1, .slice A2 s.outs.length k2, .int .u64 (s.fee : Int), .int .i64 s.exp] 26)).alloc (.cells #[.slice A3 t.ins.length k3, .slice A4 t.outs.length k4, .int .u64 (t.fee : Int), .int .i64 t.exp] 26))
    rw [← hw0]
    clear hw0
    go_wp2
    clear c0 c1 c2 c3 d0 d1 d2 d3
    go_loopw [5] (fun i wr => ∃ k m : Nat, k ≤ s.ins.length ∧ i = .int .i64 k ∧ s.ins.take k = t.ins.take k ∧ wr = w0.drewN m) (fun i _ => s.ins.length - (intOf i).toNat)
    case atStart => exact ⟨0, 0, Nat.zero_le _, rfl, rfl, rfl⟩
    case round =>
      obtain ⟨k, m, hk, rfl, htk, rfl⟩ := hrel
      obtain ⟨c0, c1, d0, d1⟩ := CF.out m
      have HTK := Lib.hid htk
      by_cases hlt : k < s.ins.length
      · have hlt' : k < t.ins.length := by have := HL1.out; omega
        obtain ⟨hokp, b, o, S, cp, rfl, -, hsp, hrp⟩ := I1.out k s.ins[k] (List.getElem?_eq_getElem hlt)
        obtain ⟨hokq, b', o', S', cq, rfl, -, hsq, hrq⟩ := I2.out k t.ins[k] (List.getElem?_eq_getElem hlt')
        have rp := Pin.ptAt hrp hokp.d
        have rq := Pin.ptAt hrq hokq.d
        obtain ⟨-, p33, p34⟩ := Pin.rc hrp hokp.d
        obtain ⟨-, q33, q34⟩ := Pin.rc hrq hokq.d
        have HNO := Lib.hid (fun hne => SI.out k hlt hlt' hne)
        have HYES := Lib.hid (fun hne => take_next hlt hlt' HTK.out hne)
        obtain ⟨p, hp⟩ : ∃ p, p = s.ins[k] := ⟨_, rfl⟩
        obtain ⟨q, hq⟩ : ∃ q, q = t.ins[k] := ⟨_, rfl⟩
        rw [← hp] at hokp rp p33 p34 hsp HNO HYES
        rw [← hq] at hokq rq q33 q34 hsq HNO HYES
        have hne := neq_point p q hokp.d hokq.d
        obtain ⟨PP, hPP⟩ : ∃ PP, PP = (recV p.d (.int .i64 p.x)).toArray := ⟨_, rfl⟩
        obtain ⟨PQ, hPQ⟩ : ∃ PQ, PQ = (recV q.d (.int .i64 q.x)).toArray := ⟨_, rfl⟩
        rw [← hPP] at rp hne
        rw [← hPQ] at rq hne
        obtain ⟨w1, hw1⟩ : ∃ w1, w1 = w0.drewN m := ⟨_, rfl⟩
        rw [← hw1] at c0 c1 d0 d1 ⊢
        have HW1 := Lib.hid hw1
        have rp1 : rowOf w1 b (o + k * 35) 33 = some PP := by rw [hw1]; exact rp
        have rq1 : rowOf w1 b' (o' + k * 35) 33 = some PQ := by rw [hw1]; exact rq
        have p33 : w1.cell? ⟨b, o + k * 35 + 33, none⟩ = some (.int .u64 (p.n : Int)) := by rw [hw1]; exact p33
        have p34 : w1.cell? ⟨b, o + k * 35 + 34, none⟩ = some (.slice S p.b.length cp) := by rw [hw1]; exact p34
        have q33 : w1.cell? ⟨b', o' + k * 35 + 33, none⟩ = some (.int .u64 (q.n : Int)) := by rw [hw1]; exact q33
        have q34 : w1.cell? ⟨b', o' + k * 35 + 34, none⟩ = some (.slice S' q.b.length cq) := by rw [hw1]; exact q34
        have RB := Lib.hid (fun (n : Nat) => rbytes_any S S' cp cq _ _ p.b q.b (w1.drewN n) (show Sl (w1.drewN n) B S (p.b.map bv) by rw [hw1]; exact hsp.s) (show Sl (w1.drewN n) B S' (q.b.map bv) by rw [hw1]; exact hsq.s) hokp.m hokq.m)
        have HPE := Lib.hid (fun h1 h2 h3 => @pin_eq p q h1 h2 h3)
        have HPX := Lib.hid (fun (e : p = q) => show samePt p q = true ∧ p.n = q.n ∧ p.b = q.b by subst e; exact ⟨by simp [samePt], rfl, rfl⟩)
        clear hokp hokq hrp hrq hsp hsq hp hq hPP hPQ hw1 htk
        have hpn : ((p.n : Int) != (q.n : Int)) = !(decide (p.n = q.n)) := by rw [Bool.eq_iff_iff]; simp; omega
        generalize hs1 : samePt p q = s1 at *
        generalize hs2 : decide (p.n = q.n) = s2 at *
        generalize hs3 : decide (p.b = q.b) = s3 at *
        cases s1
        · have HR := Lib.hid (HNO.out (fun e => by have := (HPX.out e).1; cases this))
          clear hs1 hs2 hs3
          go_wp2
          go_quiet (fail)
          go_wp2
          go_ret
          exact ⟨ret_bool HR.out.symm, (by rw [HW1.out]; exact (HT0.out.drewN m).drewN nq)⟩
        · cases s2
          · have HR := Lib.hid (HNO.out (fun e => by have := (HPX.out e).2.1; simp [this] at hs2))
            clear hs1 hs2 hs3
            go_wp2
            go_quiet (fail)
            go_wp2
            go_ret
            exact ⟨ret_bool HR.out.symm, (by rw [HW1.out]; exact (HT0.out.drewN m).drewN nq)⟩
          · cases s3
            · have HR := Lib.hid (HNO.out (fun e => by have := (HPX.out e).2.2; simp [this] at hs3))
              clear hs1 hs2 hs3
              go_wp2
              go_quiet ((go_at_call 14; exact Calls.quiet_of (RB.out _)))
              go_wp2
              go_ret
              exact ⟨ret_bool HR.out.symm, (by rw [HW1.out]; exact (HT0.out.drewN m).drewN nq)⟩
            · have HR := Lib.hid (HYES.out (HPE.out rfl (by simpa using hs2) (by simpa using hs3)))
              clear hs1 hs2 hs3
              go_wp2
              go_quiet ((go_at_call 14; exact Calls.quiet_of (RB.out _)))
              go_wp2
              go_roundw
              case rel => exact ⟨k + 1, m + nq, by omega, by go_num, HR.out, by rw [HW1.out, drewN_add]⟩
              case measure => simp [intOf]; omega
      · obtain rfl : k = s.ins.length := by omega
        have HIN := Lib.hid (show s.ins = t.ins by
          have h1 := HTK.out
          rw [List.take_length, HL1.out, List.take_length] at h1
          exact h1)
        clear htk
        obtain ⟨w1, hw1⟩ : ∃ w1, w1 = w0.drewN m := ⟨_, rfl⟩
        rw [← hw1] at c0 c1 d0 d1 ⊢
        have HW1 := Lib.hid hw1
        clear hw1
        go_wp2
        clear c0 c1 d0 d1
        go_loopw [6] (fun i wr => ∃ k m : Nat, k ≤ s.outs.length ∧ i = .int .i64 k ∧ s.outs.take k = t.outs.take k ∧ wr = w0.drewN m) (fun i _ => s.outs.length - (intOf i).toNat)
        case atStart => exact ⟨0, m, Nat.zero_le _, rfl, rfl, HW1.out⟩
        case round =>
          obtain ⟨k, m2, hk, rfl, htk, rfl⟩ := hrel
          obtain ⟨c0, c1, d0, d1⟩ := CF.out m2
          have HTK2 := Lib.hid htk
          by_cases hlt : k < s.outs.length
          · have hlt' : k < t.outs.length := by have := HL2.out; omega
            obtain ⟨hokp, b, o, rfl, -, hrp⟩ := O1.out k s.outs[k] (List.getElem?_eq_getElem hlt)
            obtain ⟨hokq, b', o', rfl, -, hrq⟩ := O2.out k t.outs[k] (List.getElem?_eq_getElem hlt')
            have rp := Pout.rowAt hrp hokp.d
            have rq := Pout.rowAt hrq hokq.d
            have HNO := Lib.hid (fun hne => SO.out k hlt hlt' hne)
            have HYES := Lib.hid (fun hne => take_next hlt hlt' HTK2.out hne)
            obtain ⟨p, hp⟩ : ∃ p, p = s.outs[k] := ⟨_, rfl⟩
            obtain ⟨q, hq⟩ : ∃ q, q = t.outs[k] := ⟨_, rfl⟩
            rw [← hp] at hokp rp HNO HYES
            rw [← hq] at hokq rq HNO HYES
            have hne := neq_out p q hokp.d hokq.d
            obtain ⟨PP, hPP⟩ : ∃ PP, PP = (recV p.d (.int .u64 (p.n : Int))).toArray := ⟨_, rfl⟩
            obtain ⟨PQ, hPQ⟩ : ∃ PQ, PQ = (recV q.d (.int .u64 (q.n : Int))).toArray := ⟨_, rfl⟩
            rw [← hPP] at rp hne
            rw [← hPQ] at rq hne
            obtain ⟨w2, hw2⟩ : ∃ w2, w2 = w0.drewN m2 := ⟨_, rfl⟩
            rw [← hw2] at c0 c1 d0 d1 ⊢
            have HW2 := Lib.hid hw2
            have rp1 : rowOf w2 b (o + k * 33) 33 = some PP := by rw [hw2]; exact rp
            have rq1 : rowOf w2 b' (o' + k * 33) 33 = some PQ := by rw [hw2]; exact rq
            clear hokp hokq hrp hrq hp hq hPP hPQ hw2 htk
            by_cases hpq : p = q
            · have HR := Lib.hid (HYES.out hpq)
              rw [show decide (p = q) = true by simp [hpq]] at hne
              clear hpq
              go_wp2
              go_quiet (fail)
              go_wp2
              go_roundw
              case rel => exact ⟨k + 1, m2 + nq, by omega, by go_num, HR.out, by rw [HW2.out, drewN_add]⟩
              case measure => simp [intOf]; omega
            · have HR := Lib.hid (HNO.out hpq)
              rw [show decide (p = q) = false by simp [hpq]] at hne
              clear hpq
              go_wp2
              go_quiet (fail)
              go_wp2
              go_ret
              exact ⟨ret_bool HR.out.symm, (by rw [HW2.out]; exact (HT0.out.drewN m2).drewN nq)⟩
          · obtain rfl : k = s.outs.length := by omega
            have HOU := Lib.hid (show s.outs = t.outs by
              have h1 := HTK2.out
              rw [List.take_length, HL2.out, List.take_length] at h1
              exact h1)
            have HR := Lib.hid (SA.out HIN.out HOU.out HL3.out HL4.out)
            clear htk
            go_wp2
            go_ret
            exact ⟨ret_bool HR.out.symm, HT0.out.drewN m2⟩
  · have HR := Lib.hid (SL.out hl)
    have HL := Lib.hid (show ¬ ((s.ins.length : Int) = t.ins.length ∧ (s.outs.length : Int) = t.outs.length ∧ (s.fee : Int) = t.fee ∧ s.exp = t.exp) from fun h => hl ⟨by omega, by omega, by omega, h.2.2.2⟩)
    clear SI SO SL SA CF I1 I2 O1 O2 hl
    generalize s.ins.length = n1 at *
    generalize s.outs.length = n2 at *
    generalize s.fee = n3 at *
    generalize s.exp = n4 at *
    generalize t.ins.length = m1 at *
    generalize t.outs.length = m2 at *
    generalize t.fee = m3 at *
    generalize t.exp = m4 at *
    have t4 : (n4 != m4) = decide (n4 ≠ m4) := by rw [Bool.eq_iff_iff]; simp
    by_cases h4 : n4 = m4
    · rw [show decide (n4 ≠ m4) = false by simp [h4]] at t4
      have H4 := Lib.hid h4
      clear h4
      go_enter Tryd.func17, Tryd.ntmps17
      go_upto_region 1 with fail
      change Code.wp _ _ _ _ ((w.alloc (.cells #[.slice A1 n1 k1, .slice A2 n2 k2, .int .u64 (n3 : Int), .int .i64 n4] 26)).alloc (.cells #[.slice A3 m1 k3, .slice A4 m2 k4, .int .u64 (m3 : Int), .int .i64 m4] 26))
      rw [← hw0]
      clear hw0
      go_wp2
      all_goals
        first
          | (go_ret; exact ⟨ret_bool HR.out.symm, HT0.out⟩)
          | (exfalso; have := HL.out; have := H4.out; omega)
    · rw [show decide (n4 ≠ m4) = true by simp [h4]] at t4
      have H4 := Lib.hid h4
      clear h4
      go_enter Tryd.func17, Tryd.ntmps17
      go_upto_region 1 with fail
      change Code.wp _ _ _ _ ((w.alloc (.cells #[.slice A1 n1 k1, .slice A2 n2 k2, .int .u64 (n3 : Int), .int .i64 n4] 26)).alloc (.cells #[.slice A3 m1 k3, .slice A4 m2 k4, .int .u64 (m3 : Int), .int .i64 m4] 26))
      rw [← hw0]
      clear hw0
      go_wp2
      all_goals
        first
          | (go_ret; exact ⟨ret_bool HR.out.symm, HT0.out⟩)
          | (exfalso; have := HL.out; have := H4.out; omega)

end
end Go.Proofs.YtpoddemokeppmaaDoor
