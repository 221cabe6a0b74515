/- The document's Constants. -/
import Derived.Test.YtoafgpoiikpcfaaDoorShaC6
set_option linter.unusedVariables false
namespace Go.Proofs.YtoafgpoiikpcfaaDoor
open Go.RowKit
theorem constN_zero (k n p : Nat) (l : List Nat) : constN k 0 n l p = l := by rw [constN]
theorem constN_more {k m n p : Nat} {l : List Nat} (h : l.length < n) : constN k (m + 1) n l p = constN k m n (if primeN p = true then l ++ [rootN p k] else l) (p + 1) := by rw [constN, if_pos h]
theorem constN_end {k m n p : Nat} {l : List Nat} (h : ¬ l.length < n) : constN k m n l p = l := by
  cases m with
  | zero => rw [constN]
  | succ m => rw [constN, if_neg h]
def uv32 (x : Nat) : Value := .int .u32 (x : Int)
theorem info_w32 : (Tryd.prog.info? 34).map (fun i => (i.zero, i.size, i.bytes)) = some (some (.int .u32 0), 1, 4) := by kernel_rfl
set_option maxRecDepth 100000 in
set_option maxHeartbeats 2000000 in
theorem constants_any (n k : Nat) (w : World) (hn : n ≤ 100) (hk2 : 2 ≤ k) (hk3 : k ≤ 3) (F : List Nat) (hF : constN k 400 n [] 2 = F) (hfl : F.length = n) :
    Calls Tryd.prog 7 #[.int .i64 (n : Int), .int .i64 (k : Int)] w fun e w' => ∃ v, e = .returned v ∧ w'.ownsRow w.heap.size 34 1 v n (F.map uv32) ∧ Below w.heap.size w w' := by
  obtain ⟨i0, hi, hz0, hz1, hz2⟩ := info_parts info_w32
  go_enter Tryd.func7, Tryd.ntmps7
  go_wp2
  go_loopw [5, 6] (fun vv pv wr => ∃ (m p : Nat) (l : List Nat), m + p = 402 ∧ pv = .int .i64 (p : Int) ∧ constN k m n l p = F ∧ l.length ≤ n ∧ wr.ownsRow w.heap.size 34 1 vv l.length (l.map uv32) ∧ Below w.heap.size w wr) (fun _ pv _ => 402 - (intOf pv).toNat)
  case atStart => exact ⟨400, 2, [], rfl, rfl, hF, by simp, World.ownsRow_nil _ _ _ _, Below.refl _ _⟩
  case round =>
    obtain ⟨m, p, l, hmp, rfl, hc, hln, ho, hb⟩ := hrel
    obtain ⟨A5, c5, rfl⟩ := own_slice' ho
    have hsr : w.heap.size ≤ wr.heap.size := hb.size
    by_cases hlt : l.length < n
    · have t0 : decide ((l.length : Int) < (n : Int)) = true := by rw [decide_eq_true_eq]; omega
      obtain ⟨m', rfl⟩ : ∃ m', m = m' + 1 := by
        cases m with
        | zero => rw [constN_zero] at hc; rw [hc, hfl] at hlt; omega
        | succ m' => exact ⟨m', rfl⟩
      rw [constN_more hlt] at hc
      have PR := Lib.hid (prime_any p wr (by omega))
      have HO := Lib.hid ho
      have HBW := Lib.hid hb
      have HC := Lib.hid hc
      clear ho hb hc hF
      go_wp2_with (go_at_call 13; refine stopR ?_)
      unfold StopR
      refine PR.out.mono ?_
      rintro e w' ⟨rfl, hw⟩
      rw [hw]
      clear hw w' PR
      cases hp : primeN p with
      | false =>
        rw [hp, if_neg (by decide)] at HC
        clear hp
        go_wp2_with fail
        go_roundw
        case rel => exact ⟨m', p + 1, l, by omega, by go_num, HC.out, hln, HO.out, HBW.out⟩
        case measure => simp [intOf]; omega
      | true =>
        rw [hp, if_pos rfl] at HC
        have RT := Lib.hid (root_any p k wr (by omega) hk2 hk3)
        clear hp
        obtain ⟨x, hx⟩ : ∃ x, x = rootN p k := ⟨_, rfl⟩
        rw [← hx] at HC RT
        clear hx
        go_wp2_with (go_at_call 14; refine stopR ?_)
        unfold StopR
        refine RT.out.mono ?_
        rintro e w3 ⟨rfl, hx32, hb3⟩
        have HO3 := Lib.hid (own_below' HO.out hb3)
        have HB3 := Lib.hid (HBW.out.trans (hb3.mono hsr))
        have hs3 : w.heap.size ≤ w3.heap.size := HB3.out.size
        clear hb3 RT
        go_wp2_with (at_builtin; refine stopR ?_)
        unfold StopR
        have ha : Below w3.heap.size w3 (w3.alloc (.cells #[.int .u32 (x : Int)] 34)) := (Below.refl _ _).alloc (Nat.le_refl _) _
        have HO4 := Lib.hid (own_below' HO3.out ha)
        have HB4 := Lib.hid (HB3.out.trans (ha.mono hs3))
        clear ha
        refine wpList_append_any (o := ⟨some 20, _, _, _, _, _⟩) rfl _ _ 28 rfl w.heap.size 34 i0 (.int .u32 0) 4 Tryd.underlying28 hi hz0 hz1 hz2 rfl _ l.length _ rfl HO4.out (some ⟨w3.heap.size, 0, none⟩) 1 1 [uv32 x] rfl (fun h => by cases h) rfl ?_ (fun u hu => by obtain rfl := List.mem_singleton.1 hu; rfl) ?_ ?_ ?_ ?_
        · intro j u hu
          refine ⟨_, rfl, ?_⟩
          match j, hu with
          | 0, hu =>
            obtain rfl : uv32 x = u := by simpa using hu
            show World.cell? _ ⟨w3.heap.size, 0, none⟩ = _
            rw [cell_of_row _ _ _ _ _ _ (heap_alloc_new w3 _)]; rfl
        · unfold maxLen; omega
        · omega
        · simp; omega
        intro v4 w4 g1 g2
        have HO5 := Lib.hid (show w4.ownsRow w.heap.size 34 1 v4 (l ++ [x]).length ((l ++ [x]).map uv32) by rw [List.length_append, List.map_append]; exact g1)
        have HB5 := Lib.hid (HB4.out.grown g2 (by simp; omega) (fun k hk => (HO4.out.lt k hk).1))
        clear g1 g2
        go_wp2_with fail
        go_roundw
        case rel => exact ⟨m', p + 1, l ++ [x], by omega, by go_num, HC.out, by simp; omega, HO5.out, HB5.out⟩
        case measure => simp [intOf]; omega
    · have t0 : decide ((l.length : Int) < (n : Int)) = false := by rw [decide_eq_false_iff_not]; omega
      rw [constN_end hlt] at hc
      have HC := Lib.hid hc
      have HO := Lib.hid ho
      have HBW := Lib.hid hb
      clear ho hb hc hF
      go_wp2_with fail
      go_ret
      refine ⟨.slice A5 l.length c5, rfl, ?_, HBW.out⟩
      have e : l.length = n := by omega
      have h := HO.out
      rw [e] at h ⊢
      rw [← HC.out]
      exact h
end Go.Proofs.YtoafgpoiikpcfaaDoor
