/- Merged: What waits, gone through from behind: the library's iterator. -/
import Derived.Test.YtajdcekkmikbcaaDoorM22
import Derived.RangeFuncNested
import Derived.RangeFuncBound
import Derived.RangeFuncCalls
import Derived.RangeFuncLeaves
import Derived.Shelf.Abstract
import Derived.Shelf.RegionOpen
import Derived.WalkKit
import Derived.OwnWalkIn
import Derived.TacticsInMore
import Derived.LoopNIn
import Derived.LoopIn
namespace Go.Proofs.YtajdcekkmikbcaaDoor
section
set_option linter.unusedVariables false
open Go.RowKit Go.Shelf
attribute [local go_sem] Oper.semAt_some
attribute [local go_sem ↓] loadAt_sec loadAt_wr
attribute [local go_sem] zero_sec zero_wr ZSec_size ZWr_size run_secLoad run_wrLoad rowOf_drew rowOf_drewN
/-- A write that waits, with its index. -/
abbrev Wt := Nat × { x : Nat × Sec // x.2.length = 64 }
def wtA (x : Nat × Sec) : Array Value := (wtV x).toArray
def Wt.vals (p : Wt) : Array Value := #[.int .i64 (p.1 : Int), .agg (wtA p.2.1)]
def wtAt (W : List (Nat × Sec)) (i : Nat) : { x : Nat × Sec // x.2.length = 64 } := if h : ((W[i]?).getD (0, zeros 64)).2.length = 64 then ⟨(W[i]?).getD (0, zeros 64), h⟩ else ⟨(0, zeros 64), by simp [zeros]⟩
set_option maxRecDepth 100000 in
theorem wtAt_eq (W : List (Nat × Sec)) (h : ∀ x ∈ W, x.2.length = 64) (i : Nat) (hi : i < W.length) : (wtAt W i).1 = W[i] := by
  unfold wtAt
  rw [List.getElem?_eq_getElem hi]
  have := h _ (List.getElem_mem hi)
  simp [this]
/-- The j-th that comes. -/
def wtF (W : List (Nat × Sec)) (j : Nat) : Wt := (W.length - 1 - j, wtAt W (W.length - 1 - j))
def upto {α : Type} (f : Nat → α) (k : Nat) : List α := (List.range k).map f
set_option maxRecDepth 100000 in
theorem upto_succ {α : Type} (f : Nat → α) (k : Nat) : upto f (k + 1) = upto f k ++ [f k] := by simp [upto, List.range_succ]
set_option maxRecDepth 100000 in
theorem upto_length {α : Type} (f : Nat → α) (k : Nat) : (upto f k).length = k := by simp [upto]
set_option maxRecDepth 100000 in
set_option maxHeartbeats 2000000 in
theorem back1_in (F : Fence) (n : Nat) (h8 : F.fn 93) (hro : F.round = none) (hn : 1 ≤ n) (l Bs n₀ c : Nat) (A : Option Addr) (Z : List Value) (Ws : List (Nat × Sec)) (hW : ∀ x ∈ Ws, x.2.length = 64) (hfew : Ws.length ≤ 10000) (J Jx : List Wt → World → Prop)
    (hY : ∀ pre x W, J pre W → pre.length < Ws.length → YieldAt F (n - 1) Tryd.prog l (Wt.vals x) W fun e W' =>
      (e = .returned (.bool true) ∧ J (pre ++ [x]) W' ∧ Below n₀ W W') ∨ (e = .returned (.bool false) ∧ Jx (pre ++ [x]) W'))
    (W : World) (hBn : Bs < n₀) (hBs : W.cell? ⟨Bs, 0, none⟩ = some (.slice A Ws.length c)) (hc : 0 < Ws.length → ∃ g, A = some ⟨g, 0, none⟩ ∧ g < n₀ ∧ W.heap[g]? = some (.cells (wtsV Ws ++ Z).toArray 94 (0, 0))) (h0 : J [] W) :
    CallsIn F n Tryd.prog 93 #[.func (.yield l) #[] #[], .pointer (some ⟨Bs, 0, none⟩)] W fun e W' => (∃ v, e = .returned v) ∧
      ((∃ ys, ys = upto (wtF Ws) Ws.length ∧ J ys W') ∨ (∃ pre, (∃ k, k ≤ Ws.length ∧ pre = upto (wtF Ws) k) ∧ Jx pre W')) := by
  refine callsIn_of_wp Tryd.func93 rfl h8 ?_ hro
  simp only [Tryd.ntmps93, List.size_toArray, List.length_cons, List.length_nil, Nat.reduceAdd, Nat.reduceSub, Array.replicate_succ, Array.replicate_zero, List.push_toArray, List.append_toArray, List.nil_append, List.cons_append]
  gi_wp2
  gi_loopw [3] (fun i wr => ∃ k : Nat, k ≤ Ws.length ∧ i = .int .i64 ((Ws.length : Int) - 1 - (k : Int)) ∧ J (upto (wtF Ws) k) wr ∧ Below n₀ W wr)
    (fun i _ => (intOf i + 1).toNat)
  case atStart => exact ⟨0, Nat.zero_le _, by simp, h0, Below.refl _ _⟩
  case round =>
    obtain ⟨k, hk, rfl, hJs, hnx⟩ := hrel
    have hbs := (hnx.cell (p := ⟨Bs, 0, none⟩) hBn).trans hBs
    by_cases hlt : k < Ws.length
    · obtain ⟨g, rfl, hg, hh⟩ := hc (by omega)
      have hi : Ws.length - 1 - k < Ws.length := by omega
      have hrow : rowOf wr g ((Ws.length - 1 - k) * 65) 65 = some (wtA (wtF Ws k).2.1) := by
        have hh2 := (hnx.block g hg).trans hh
        have hlen := wtsV_len Ws hW
        rw [rowOf_block hh2 ((Ws.length - 1 - k) * 65) 65 (by rw [List.length_append, hlen]; omega), wtsV_split Ws _ hi, List.append_assoc]
        have h1 : (wtsV (Ws.take (Ws.length - 1 - k))).length = (Ws.length - 1 - k) * 65 := by rw [wtsV_len _ fun x hx => hW x (List.mem_of_mem_take hx), List.length_take, Nat.min_eq_left (by omega)]
        have h2 : (wtV Ws[Ws.length - 1 - k]).length = 65 := by simp [wtV, hW _ (List.getElem_mem hi)]
        rw [← h1, List.drop_left, List.append_assoc, ← h2, List.take_left]
        unfold wtA
        rw [show (wtF Ws k).2.1 = Ws[Ws.length - 1 - k] from wtAt_eq Ws hW _ hi]
      obtain ⟨i, hi'⟩ : ∃ i : Nat, i = Ws.length - 1 - k := ⟨_, rfl⟩
      have hie : (Ws.length : Int) - 1 - (k : Int) = (i : Int) := by omega
      obtain ⟨fn, tmps, assign, body, hy, hR⟩ := hY _ (wtF Ws k) wr hJs (by rw [upto_length]; exact hlt)
      have hv : Wt.vals (wtF Ws k) = #[.int .i64 (i : Int), .agg (wtA (wtF Ws k).2.1)] := by unfold Wt.vals; rw [show (wtF Ws k).1 = i from hi'.symm]
      rw [hv] at hy
      rw [← hi'] at hrow hi
      rw [hie]
      have HI := Lib.hid hi'
      have HE := Lib.hid hie
      clear hv hi' hie
      obtain ⟨C, hC⟩ : ∃ C, C = wtA (wtF Ws k).2.1 := ⟨_, rfl⟩
      rw [← hC] at hrow hy
      clear hC
      gi_wp2
      refine hR.mono ?_
      rintro e W3 (⟨rfl, hJ3, hk3⟩ | ⟨rfl, hJx3⟩)
      · gi_wp2
        go_roundw
        case rel => exact ⟨k + 1, by omega, by have := HE.out; go_num, by rw [upto_succ]; exact hJ3, hnx.trans hk3⟩
        case measure => simp [intOf]
      · gi_wp2
        refine bodyPost_ret (results_none rfl _ _ _) rfl ?_
        exact ⟨⟨_, rfl⟩, .inr ⟨_, ⟨k + 1, by omega, (upto_succ _ _).symm⟩, hJx3⟩⟩
    · obtain rfl : k = Ws.length := by omega
      have e : (Ws.length : Int) - 1 - (Ws.length : Int) = -1 := by omega
      rw [e]
      gi_wp2
      go_end0
      exact ⟨⟨_, rfl⟩, .inl ⟨_, rfl, hJs⟩⟩
set_option maxRecDepth 100000 in
theorem back_stops (F : Fence) (n : Nat) (h8 : F.fn 93) (hro : F.round = none) (hn : 1 ≤ n) (Bs n₀ c : Nat) (A : Option Addr) (Z : List Value) (Ws : List (Nat × Sec)) (hW : ∀ x ∈ Ws, x.2.length = 64) (hfew : Ws.length ≤ 10000)
    (W : World) (hBn : Bs < n₀) (hn₀ : n₀ ≤ W.heap.size) (hBs : W.cell? ⟨Bs, 0, none⟩ = some (.slice A Ws.length c)) (hc : 0 < Ws.length → ∃ g, A = some ⟨g, 0, none⟩ ∧ g < n₀ ∧ W.heap[g]? = some (.cells (wtsV Ws ++ Z).toArray 94 (0, 0))) :
    SeqStopsK F n Tryd.prog 93 #[.pointer (some ⟨Bs, 0, none⟩)] Wt.vals (Below n₀) (fun ys => ys = upto (wtF Ws) Ws.length) (fun pre => ∃ k, k ≤ Ws.length ∧ pre = upto (wtF Ws) k) Ws.length W := fun l J Jx W' hW' _ _ hY h0 =>
  back1_in F n h8 hro hn l Bs n₀ c A Z Ws hW hfew J Jx hY W' hBn ((hW'.cell (p := ⟨Bs, 0, none⟩) (Nat.lt_of_lt_of_le hBn hn₀)).trans hBs) (fun hp => by obtain ⟨g, e, hg, hh⟩ := hc hp; exact ⟨g, e, hg, (hW'.block g (Nat.lt_of_lt_of_le hg hn₀)).trans hh⟩) h0
set_option maxRecDepth 100000 in
theorem back_in (F : Fence) (n : Nat) (h5 : F.fn 83) (hro : F.round = none) (a : Option Addr) (len cap : Nat) (w : World) :
    CallsIn F n Tryd.prog 83 #[.slice a len cap] w fun e w' => e = .returned (.func (.func 93) #[] #[.pointer (some ⟨w.heap.size, 0, none⟩)]) ∧ w' = w.alloc (.cells #[.slice a len cap] 69) := by
  refine callsIn_of_wp Tryd.func83 rfl h5 ?_ hro
  simp only [Tryd.ntmps83, List.size_toArray, List.length_cons, List.length_nil, Nat.reduceAdd, Nat.reduceSub, Array.replicate_succ, Array.replicate_zero, List.push_toArray, List.append_toArray, List.nil_append, List.cons_append]
  gi_wp2
  go_ret
  exact ⟨rfl, rfl⟩
end
end Go.Proofs.YtajdcekkmikbcaaDoor
