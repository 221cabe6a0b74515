/- The contracts of 'outside' and of the searches over inputs. -/
import Derived.Test.YteaoaabjdgdcmaaTxA
set_option linter.unusedVariables false
namespace Go.Proofs.Yteaoaabjdgdcmaa
open Go.RowKit
set_option maxRecDepth 100000 in
theorem outB_yes {p : Pin} (h : 64 < p.b.length ∨ p.x < 0 ∨ 15 < p.x) : outB p = true := decide_eq_true h
set_option maxRecDepth 100000 in
theorem outB_no {p : Pin} (h : ¬ (64 < p.b.length ∨ p.x < 0 ∨ 15 < p.x)) : outB p = false := decide_eq_false h
set_option maxRecDepth 100000 in
theorem outside_any (p : Pin) (S : Option Addr) (c : Nat) (w : World) (h : p.ok) :
    Calls Try.prog 38 #[.agg (p.cells S c).toArray] w fun e w' => e = .returned (.bool (outB p)) ∧ Turn (fun _ => False) w w' := by
  obtain ⟨C, hC⟩ : ∃ C, C = (p.cells S c).toArray := ⟨_, rfl⟩
  have g1 := heap_alloc_new w (.cells C 41)
  obtain ⟨a0, a1, a2⟩ := p.at S c h.d
  have c0 : (w.alloc (.cells C 41)).cell? ⟨w.heap.size, 32, none⟩ = some (.int .i64 p.x) := by rw [cell_of_row _ _ _ _ _ _ g1, hC, List.getElem?_toArray]; exact a0
  have c2 : (w.alloc (.cells C 41)).cell? ⟨w.heap.size, 34, none⟩ = some (.slice S p.b.length c) := by rw [cell_of_row _ _ _ _ _ _ g1, hC, List.getElem?_toArray]; exact a2
  rw [← hC]
  have T0 := Lib.hid ((Turn.refl (fun _ => False) w).alloc (.cells C 41))
  have HO := Lib.hid (show (decide (64 < (p.b.length : Int)) || decide (p.x < 0) || decide (15 < p.x)) = outB p by
    unfold outB; rw [Bool.eq_iff_iff]; simp; omega)
  have OY := Lib.hid (show (64 < p.b.length ∨ p.x < 0 ∨ 15 < p.x) → outB p = true from outB_yes)
  have hm := h.m
  have x0 := h.x0
  have x1 := h.x1
  unfold maxLen at hm
  generalize p.b.length = n at *
  generalize p.x = x at *
  clear hC g1 a0 a1 a2 h
  go_enter Try.func38, Try.ntmps38
  go_wp2
  all_goals
    go_ret
    refine ⟨ret_bool ?_, T0.out⟩
    first
      | exact HO.out
      | (rw [OY.out (by omega)])
def idxF (g : Pin → Bool) (l : List Pin) : Int := if l.any g = true then (l.findIdx g : Int) else -1
set_option maxRecDepth 100000 in
theorem idxF_hit {g : Pin → Bool} {l : List Pin} {k : Nat} (hk : k < l.length) (h0 : (l.take k).any g = false) (h1 : g l[k] = true) : (k : Int) = idxF g l := by
  have ha : l.any g = true := List.any_eq_true.2 ⟨l[k], List.getElem_mem hk, h1⟩
  unfold idxF
  rw [if_pos ha]
  congr 1
  refine ((List.findIdx_eq hk).2 ⟨h1, fun j hj => ?_⟩).symm
  have := List.any_eq_false.1 h0 (l[j]'(by omega)) (by rw [List.mem_take_iff_getElem]; exact ⟨j, by omega, rfl⟩)
  simpa using this
set_option maxRecDepth 100000 in
theorem idxF_none {g : Pin → Bool} {l : List Pin} (h : l.any g = false) : (-1 : Int) = idxF g l := by unfold idxF; rw [if_neg (by simp [h])]
set_option maxRecDepth 100000 in
theorem idxF_ge (g : Pin → Bool) (l : List Pin) : decide (0 ≤ idxF g l) = l.any g := by
  unfold idxF
  cases l.any g <;> simp
set_option maxRecDepth 100000 in
theorem any_take_succ (g : Pin → Bool) (l : List Pin) (k : Nat) (hk : k < l.length) (h0 : (l.take k).any g = false) (h1 : g l[k] = false) : (l.take (k + 1)).any g = false := by
  rw [List.take_succ_eq_append_getElem hk, List.any_append, h0]; simp [h1]
set_option maxRecDepth 100000 in
set_option maxHeartbeats 1000000 in
theorem indexFunc_any (G : FuncId) (cap : Array Value) (g : Pin → Bool) (B : Nat) (A : Option Addr) (c : Nat) (l : List Pin) (w : World) (hG : ∀ (args : Array Value) (w : World), (callFunc G args).run Try.prog w = .ok (.enter G args) w)
    (hI : InsAt w B A l) (hm : l.length ≤ maxLen)
    (hF : ∀ (wr : World) (k : Nat) (p : Pin) (S : Option Addr) (cp : Nat), l[k]? = some p → p.ok → Turn (fun _ => False) w wr → Calls Try.prog G (#[.agg (p.cells S cp).toArray] ++ cap) wr fun e w' => e = .returned (.bool (g p)) ∧ Turn (fun _ => False) wr w') :
    Calls Try.prog 52 #[.slice A l.length c, .func (.func G) #[] cap] w fun e w' => e = .returned (.int .i64 (idxF g l)) ∧ Turn (fun _ => False) w w' := by
  unfold maxLen at hm
  have HI := Lib.hid hI
  have HF := Lib.hid hF
  clear hI hF
  go_enter Try.func52, Try.ntmps52
  go_wp2
  go_loopw [8] (fun i wr => ∃ k : Nat, k ≤ l.length ∧ i = .int .i64 k ∧ (l.take k).any g = false ∧ Turn (fun _ => False) w wr) (fun i _ => l.length - (intOf i).toNat)
  case atStart => exact ⟨0, Nat.zero_le _, rfl, rfl, Turn.refl _ _⟩
  case round =>
    obtain ⟨k, hk, rfl, ha, ht⟩ := hrel
    by_cases hlt : k < l.length
    · have hlk := List.getElem?_eq_getElem hlt
      obtain ⟨hok, b, o, S, cp, rfl, hb, hs, hr⟩ := HI.out k l[k] hlk
      have hr1 := ht.range hr (fun h => h)
      obtain ⟨p, hp⟩ : ∃ p, p = l[k] := ⟨_, rfl⟩
      have HIT := Lib.hid (fun h1 : g l[k] = true => idxF_hit hlt ha h1)
      have HMS := Lib.hid (fun h1 : g l[k] = false => any_take_succ g l k hlt ha h1)
      rw [← hp] at hok hr1 hlk HIT HMS
      have HL := Lib.hid (show (Try.prog.info? 41).map (·.size) = some (p.cells S cp).length by rw [p.len S cp hok.d]; kernel_rfl)
      have HR := Lib.hid hr1
      have HC := Lib.hid (HF.out wr k p S cp hlk hok ht)
      have HT := Lib.hid ht
      clear hr hr1 hok hp hs ha hlk ht
      go_wp2_with (refine wpList_load_mid (op := ⟨some 15, _, _, _, _, _⟩) rfl _ _ rfl b (o + k * 35) rfl (p.cells S cp) _ HR.out Try.underlying41 rfl HL.out ?_)
      refine HC.out.mono ?_
      rintro r w2 ⟨rfl, ht2⟩
      have HT2 := Lib.hid (HT.out.trans ht2 (fun _ _ h => h))
      clear ht2
      cases hg : g p
      · have HM := Lib.hid (HMS.out hg)
        clear hg
        go_wp2
        go_roundw
        case rel => exact ⟨k + 1, by omega, by go_num, HM.out, HT2.out⟩
        case measure => simp [intOf]; omega
      · have HM := Lib.hid (HIT.out hg)
        clear hg
        go_wp2
        go_ret
        exact ⟨ret_int HM.out, HT2.out⟩
    · obtain rfl : k = l.length := by omega
      rw [List.take_length] at ha
      have HN := Lib.hid (idxF_none ha)
      clear ha
      go_wp2
      go_ret
      exact ⟨ret_int HN.out, ht⟩
end Go.Proofs.Yteaoaabjdgdcmaa
