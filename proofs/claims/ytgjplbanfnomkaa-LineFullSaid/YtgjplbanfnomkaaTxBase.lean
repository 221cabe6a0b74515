/- What the walks over transactions build on. -/
import Derived.Test.YtgjplbanfnomkaaFldX
import Derived.Test.YtgjplbanfnomkaaSmX
import Derived.Test.YtgjplbanfnomkaaIdEq
import Derived.Test.YtgjplbanfnomkaaRowLoad
import Derived.Test.YtgjplbanfnomkaaFwX
import Derived.Test.YtgjplbanfnomkaaTail
import Derived.Deep.MidRow
import Derived.Deep.WholeRow
import Derived.LoopTactic
import Derived.Outline
namespace Go.Proofs.Ytgjplbanfnomkaa
open Go.RowKit
def Stp (w w' : World) : Prop := Below w.heap.size w w'
set_option maxRecDepth 100000 in
theorem Stp.refl (w : World) : Stp w w := Below.refl _ _
set_option maxRecDepth 100000 in
theorem Stp.trans (a b c : World) (h : Stp a b) (k : Stp b c) : Stp a c := Below.trans h (Below.mono k (Below.size h))
set_option maxRecDepth 100000 in
theorem stp_start {W w w' : World} (h : Stp w.drew w') (hW : Below W.heap.size W w) : Below W.heap.size W w' := hW.drew.trans (h.mono hW.size)
set_option maxRecDepth 100000 in
theorem own_below {w w' : World} {B : Nat} {e : TypeId} {s n : Nat} {v : Value} {xs : List Value} (h : w.ownsRow B e s v n xs) (hb : Below w.heap.size w w') : w'.ownsRow B e s v n xs := by
  obtain ⟨h1, h2⟩ := h
  refine ⟨h1, ?_⟩
  rcases h2 with h2 | ⟨g, cap, cur, rfl, hB, hg, hr⟩
  · exact .inl h2
  · exact .inr ⟨g, cap, cur, rfl, hB, (hb.block g (lt_of_block hg)).trans hg, hr⟩
def Stop (p : Prop) : Prop := p
set_option maxRecDepth 100000 in
theorem stop {p : Prop} (h : Stop p) : p := h
end Go.Proofs.Ytgjplbanfnomkaa
