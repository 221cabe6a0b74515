/- The contracts of 'within' and 'twice'. -/
import Derived.Test.YteaoaabjdgdcmaaTxC
set_option linter.unusedVariables false
namespace Go.Proofs.Yteaoaabjdgdcmaa
open Go.RowKit
set_option maxRecDepth 100000 in
theorem Pin.point {w : World} {g : Nat} {p : Pin} {S : Option Addr} {c : Nat} {t : TypeId} {fr : Nat × Nat} (h : w.heap[g]? = some (.cells (p.cells S c).toArray t fr)) : w.rangeAt g 0 (recV p.d (.int .i64 p.x)) := fun j v hj => by
  rw [cell_of_row w g _ _ _ _ h, List.getElem?_toArray, Nat.zero_add]
  have e : p.cells S c = recV p.d (.int .i64 p.x) ++ [.int .u64 (p.n : Int), .slice S p.b.length c] := by simp [Pin.cells, recV]
  rw [e, List.getElem?_append_left (List.getElem?_eq_some_iff.1 hj).1]; exact hj
set_option maxRecDepth 100000 in
theorem recV_len (d : List B8) (v : Value) (h : d.length = 32) : (recV d v).length = 33 := by simp [recV, h]
set_option maxRecDepth 100000 in
theorem twice1_any (q p : Pin) (S S' : Option Addr) (c c' b : Nat) (w : World) (hq : q.ok) (hp : p.ok) (hb : w.heap[b]? = some (.cells (q.cells S' c').toArray 41 (0, 0))) :
    Calls Try.prog 39 #[.agg (p.cells S c).toArray, .pointer (some ⟨b, 0, none⟩)] w fun e w' => e = .returned (.bool (samePt p q)) ∧ Turn (fun _ => False) w w' := by
  have g1 := heap_alloc_new w (.cells (p.cells S c).toArray 41)
  have T0 := (Turn.refl (fun _ => False) w).alloc (.cells (p.cells S c).toArray 41)
  have R1 := Lib.hid (Pin.point g1)
  have R2 := Lib.hid (Pin.point (T0.heap hb (fun h => h)))
  have L1 := Lib.hid (show (Try.prog.info? 39).map (·.size) = some (recV p.d (.int .i64 p.x)).length by rw [recV_len _ _ hp.d]; kernel_rfl)
  have L2 := Lib.hid (show (Try.prog.info? 39).map (·.size) = some (recV q.d (.int .i64 q.x)).length by rw [recV_len _ _ hq.d]; kernel_rfl)
  have he := eql_point p q hp.d hq.d
  have HT := Lib.hid T0
  generalize samePt p q = s at *
  generalize (p.cells S c).toArray = C at *
  generalize recV p.d (.int .i64 p.x) = P1 at *
  generalize recV q.d (.int .i64 q.x) = P2 at *
  obtain ⟨A1, hA1⟩ : ∃ A1, A1 = P1.toArray := ⟨_, rfl⟩
  obtain ⟨A2, hA2⟩ : ∃ A2, A2 = P2.toArray := ⟨_, rfl⟩
  rw [← hA1, ← hA2] at he
  have HA1 := Lib.hid hA1
  have HA2 := Lib.hid hA2
  clear g1 T0 hb hp hq hA1 hA2
  go_enter Try.func39, Try.ntmps39
  go_wp2_with (first
    | (refine wpList_load_mid (op := ⟨some 5, _, _, _, _, _⟩) rfl _ _ rfl w.heap.size 0 rfl P1 _ R1.out Try.underlying39 rfl L1.out ?_; rw [← HA1.out])
    | (refine wpList_load_mid (op := ⟨some 7, _, _, _, _, _⟩) rfl _ _ rfl b 0 rfl P2 _ R2.out Try.underlying39 rfl L2.out ?_; rw [← HA2.out]))
  go_ret
  exact ⟨rfl, HT.out⟩
set_option maxRecDepth 100000 in
theorem containsFunc_any (G : FuncId) (cap : Array Value) (g : Pin → Bool) (B : Nat) (A : Option Addr) (c : Nat) (l : List Pin) (w : World) (hG : ∀ (args : Array Value) (w : World), (callFunc G args).run Try.prog w = .ok (.enter G args) w)
    (hI : InsAt w B A l) (hm : l.length ≤ maxLen)
    (hF : ∀ (wr : World) (k : Nat) (p : Pin) (S : Option Addr) (cp : Nat), l[k]? = some p → p.ok → Turn (fun _ => False) w wr → Calls Try.prog G (#[.agg (p.cells S cp).toArray] ++ cap) wr fun e w' => e = .returned (.bool (g p)) ∧ Turn (fun _ => False) wr w') :
    Calls Try.prog 37 #[.slice A l.length c, .func (.func G) #[] cap] w fun e w' => e = .returned (.bool (l.any g)) ∧ Turn (fun _ => False) w w' := by
  have C := Lib.hid (indexFunc_any G cap g B A c l w hG hI hm hF)
  have HG := Lib.hid (idxF_ge g l)
  clear hI hF
  generalize idxF g l = z at *
  go_enter Try.func37, Try.ntmps37
  go_wp2_with (go_at_call 52; refine C.out.mono ?_; rintro r w1 ⟨rfl, ht⟩)
  go_ret
  exact ⟨ret_bool HG.out, ht⟩
set_option maxRecDepth 100000 in
theorem outsides_any (B : Nat) (A : Option Addr) (c : Nat) (l : List Pin) (w : World) (hI : InsAt w B A l) (hm : l.length ≤ maxLen) :
    Calls Try.prog 37 #[.slice A l.length c, .func (.func 38) #[] #[]] w fun e w' => e = .returned (.bool (l.any outB)) ∧ Turn (fun _ => False) w w' :=
  containsFunc_any 38 #[] outB B A c l w (fun _ _ => by kernel_rfl) hI hm (fun wr k p S cp _ hok _ => outside_any p S cp wr hok)
set_option maxRecDepth 100000 in
theorem aheads_any (q : Pin) (S' : Option Addr) (c' b : Nat) (B : Nat) (A : Option Addr) (c : Nat) (l : List Pin) (w : World) (hq : q.ok) (hb : w.heap[b]? = some (.cells (q.cells S' c').toArray 41 (0, 0))) (hI : InsAt w B A l) (hm : l.length ≤ maxLen) :
    Calls Try.prog 37 #[.slice A l.length c, .func (.func 39) #[] #[.pointer (some ⟨b, 0, none⟩)]] w fun e w' => e = .returned (.bool (l.any fun p => samePt p q)) ∧ Turn (fun _ => False) w w' :=
  containsFunc_any 39 #[.pointer (some ⟨b, 0, none⟩)] (fun p => samePt p q) B A c l w (fun _ _ => by kernel_rfl) hI hm (fun wr k p S cp _ hok ht => twice1_any q p S S' cp c' b wr hq hok (ht.heap hb (fun h => h)))
end Go.Proofs.Yteaoaabjdgdcmaa
