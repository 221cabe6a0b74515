/- The laws' walks over what the landed code comes to. -/
import Derived.Test.YtoagneibaincpaaDoorHlA
import Derived.Test.YtoagneibaincpaaDoorHlW
import Derived.Test.YtoagneibaincpaaDoorHkE
set_option linter.unusedVariables false
namespace Go.Proofs.YtoagneibaincpaaDoor
open Go.RowKit
theorem cleaves : CLeaves := fun A c b e n w h1 h2 h3 h4 h5 h6 => hleaves_any A c b e n w h1 h2 h3 h4 h5 h6
theorem cnext : CNext := fun prev first A c n ls shard epoch w h1 h2 h3 h4 h5 h6 h7 => hnext_any prev first A c n ls shard epoch w h1 h2 h3 h4 h5 h6 h7
theorem fol_eq (a b : Hdr) : decide (folK a b) = decide (fol a b) := decide_eq_decide.2 Iff.rfl
theorem cfollows : CFollows := fun a b w h1 h2 h3 => by
  have := hfollows_any a b w h1 h2 h3
  rw [fol_eq] at this
  exact this
theorem hawake_any (w : World) (hG : Glob w) : Calls Tryd.prog 13 #[] w fun r w' => r = .returned (.bool true) ∧ Turn (fun _ => False) w w' := hawake_of cleaves cnext w hG
theorem to_below {f : FuncId} {args : Array Value} {w : World} (h : Calls Tryd.prog f args w fun r w' => r = .returned (.bool true) ∧ Turn (fun _ => False) w w') : Calls Tryd.prog f args w fun r w' => r = .returned (.bool true) ∧ Below w.heap.size w w' := h.mono fun _ _ ⟨h1, h2⟩ => ⟨h1, turn_stp' h2⟩
theorem forms_walk (e : Hdr) (w : World) (hd : e.L) (hG : Glob w) : Calls Tryd.prog 3 #[.agg e.cells.toArray] w fun r w' => r = .returned (.bool true) ∧ Below w.heap.size w w' := to_below (headerForms_of hawake_any e w hd hG)
theorem reads_walk (A : Option Addr) (c : Nat) (b : List B8) (w : World) (hs : Sl w w.heap.size A (b.map bv)) (hm : b.length ≤ maxLen) (hA : A = none → c = 0) (hc : b.length ≤ c) (hG : Glob w) : Calls Tryd.prog 4 #[.slice A b.length c] w fun r w' => r = .returned (.bool true) ∧ Below w.heap.size w w' := to_below (headerReads_of hawake_any A c b w hs hA hc hm hG)
theorem next_walk (prev : Hdr) (first : Bool) (A : Option Addr) (c : Nat) (b : List B8) (e : Ent) (n : Nat) (shard epoch : Int) (w : World) (hp : prev.L) (hs : Sl w w.heap.size A (b.map bv)) (hm : b.length ≤ maxLen) (hA : A = none → c = 0) (hc : b.length ≤ c) (hd : e.d.length = 32) (hn : n < 18446744073709551616) {p q : Prop} (_ : p) (_ : q) (hG : Glob w) :
    Calls Tryd.prog 5 #[.agg prev.cells.toArray, .bool first, .slice A b.length c, .agg e.cells.toArray, .int .u64 (n : Int), .int .i64 shard, .int .i64 epoch] w fun r w' => r = .returned (.bool true) ∧ Below w.heap.size w w' := to_below (headerNext_of hawake_any prev first A c b e n shard epoch w hp (Bts.of_sl hs) hA hc hm hd hn hG)
theorem follows_walk (a b c : Hdr) (w : World) (ha : a.L) (hb : b.L) (hc : c.L) (hG : Glob w) : Calls Tryd.prog 6 #[.agg a.cells.toArray, .agg b.cells.toArray, .agg c.cells.toArray] w fun r w' => r = .returned (.bool true) ∧ Below w.heap.size w w' := to_below (headerFollows_of hawake_any cfollows a b c w ha hb hc hG)
end Go.Proofs.YtoagneibaincpaaDoor
