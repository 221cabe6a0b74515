/- 'Read' with the reader 'held'. -/
import Derived.Test.YtciohmlobknhlaaFrF
set_option linter.unusedVariables false
namespace Go.Proofs.Ytciohmlobknhlaa
open Go.RowKit
theorem read_held (o : Nat) (A : Option Addr) (c : Nat) (bs : List B8) (Af : Option Addr) (cf : Nat) (fs : List Fd) (Aw : Option Addr) (nw cw : Nat) (gs : List Gt) (x0 : Nat) (w : World) (hs : SlN w (fun i => i = o) A (bs.map bv)) (hA : A = none → c = 0) (hc : bs.length ≤ c) (hbs : bs.length ≤ 200)
    (ho : w.heap[o]? = some (.cells (heldC Af fs.length cf Aw nw cw 0 true) 37 (0, 0))) (hl : fs.length ≤ 12)
    (hf : Fds w o Af fs) (hw : WantAt w o Aw gs) (hgs : gs.length = nw) (hwc : nw ≤ cw) (hnf : nw ≤ fs.length)
    (hok : ∀ j f g, fs[j]? = some f → gs[j]? = some g → GOk g f.kd (restJ fs bs j) ∧ sE f.kd (restJ fs bs j) = 0)
    (hx : nw = fs.length ∨ (x0 ≠ 0 ∧ ∃ f, fs[nw]? = some f ∧ sE f.kd (restJ fs bs nw) = x0)) (h40 : ∀ j f, j ≤ nw → fs[j]? = some f → f.k % 3 = 1 → f.n ≤ 1099511627776) (hlen : ∀ j, (restJ fs bs j).length ≤ 200) :
    Calls Try.prog 7 #[.slice A bs.length c, .func (.func 8) #[.pointer (some ⟨o, 0, none⟩)] #[]] w fun r w' => Turn (fun i => i = o) w w' ∧
      w'.heap[o]? = some (.cells (heldC Af fs.length cf Aw nw cw nw true) 37 (0, 0)) ∧
      ((nw = fs.length ∧ r = .returned (.int .i64 (if restJ fs bs nw = [] then 0 else 3))) ∨ (x0 ≠ 0 ∧ nw < fs.length ∧ r = .returned (.int .i64 (x0 : Int)))) := by
  have hlt : o < w.heap.size := lt_of_block ho
  refine (read_any 8 (.pointer (some ⟨o, 0, none⟩)) A c bs w (fun i => i = o ∨ i = w.heap.size ∨ i = w.heap.size + 1) (fun i => i = o)
    (fun l w2 => nw = fs.length ∧ l = restJ fs bs nw ∧ w2.heap[o]? = some (.cells (heldC Af fs.length cf Aw nw cw nw true) 37 (0, 0)) ∧ Turn (fun i => i = o) w w2)
    (fun k w2 => nw < fs.length ∧ k = x0 ∧ w2.heap[o]? = some (.cells (heldC Af fs.length cf Aw nw cw nw true) 37 (0, 0)) ∧ Turn (fun i => i = o) w w2) (fun _ _ => by kernel_rfl) hs hA hc (by omega) (by omega) ?_).mono ?_
  · intro w1 t1 s1 e1
    refine (held_read o _ _ o (fun i => i = o ∨ w.heap.size ≤ i) Af cf fs bs Aw nw cw gs x0 w1 e1 (t1.heap ho (fun h => h)) (by omega) (by omega) (.inl rfl) (fun i hi => .inr (by omega)) hl (hf.turn t1 (fun _ _ h => h)) ⟨Nat.le_refl _, by omega, by omega⟩ (hw.turn t1 (fun _ _ h => h)) hgs hwc hnf hbs hok hx h40 hlen).mono ?_
    rintro r w2 ⟨h1, h2, t2⟩
    refine ⟨t2.mono (fun i _ h => by omega), ?_⟩
    have t3 : Turn (fun i => i = o) w w2 := (t1.mono (fun _ _ h => h.elim)).trans t2 (fun i hi h => by omega)
    rcases h1 with ⟨ha, rfl, hb⟩ | ⟨ha, hb, rfl, hd⟩
    · exact .inl ⟨rfl, _, hb, ha, rfl, h2, t3⟩
    · exact .inr ⟨rfl, x0, ha, hd, hb, rfl, h2, t3⟩
  · rintro r w' ⟨w2, t, (⟨l, ⟨ha, rfl, h2, t2⟩, rfl⟩ | ⟨k, hk, ⟨ha, rfl, h2, t2⟩, rfl⟩)⟩
    · exact ⟨t2.trans t (fun i hi h => by omega), t.heap h2 (by omega), .inl ⟨ha, rfl⟩⟩
    · exact ⟨t2.trans t (fun i hi h => by omega), t.heap h2 (by omega), .inr ⟨hk, ha, rfl⟩⟩
end Go.Proofs.Ytciohmlobknhlaa
