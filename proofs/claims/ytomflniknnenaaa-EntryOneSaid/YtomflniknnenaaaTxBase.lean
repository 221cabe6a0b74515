/- What the walks over transactions build on. -/
import Derived.Test.YtomflniknnenaaaFldH
import Derived.Test.YtomflniknnenaaaFldK
import Derived.Test.YtomflniknnenaaaAllWalks
import Derived.Test.YtomflniknnenaaaIdEq
import Derived.Test.YtomflniknnenaaaRowLoad
import Derived.Test.YtomflniknnenaaaFwA
import Derived.Test.YtomflniknnenaaaTail
import Derived.Deep.MidRow
import Derived.Deep.WholeRow
import Derived.LoopTactic
import Derived.Outline
namespace Go.Proofs.Ytomflniknnenaaa
open Go.RowKit
def Stp (w w' : World) : Prop := Below w.heap.size w w'
theorem Stp.refl (w : World) : Stp w w := Below.refl _ _
theorem Stp.trans (a b c : World) (h : Stp a b) (k : Stp b c) : Stp a c := Below.trans h (Below.mono k (Below.size h))
theorem stp_start {W w w' : World} (h : Stp w.drew w') (hW : Below W.heap.size W w) : Below W.heap.size W w' := hW.drew.trans (h.mono hW.size)
theorem own_below {w w' : World} {B : Nat} {e : TypeId} {s n : Nat} {v : Value} {xs : List Value} (h : w.ownsRow B e s v n xs) (hb : Below w.heap.size w w') : w'.ownsRow B e s v n xs := by
  obtain ⟨h1, h2⟩ := h
  refine ⟨h1, ?_⟩
  rcases h2 with h2 | ⟨g, cap, cur, rfl, hB, hg, hr⟩
  · exact .inl h2
  · exact .inr ⟨g, cap, cur, rfl, hB, (hb.block g (lt_of_block hg)).trans hg, hr⟩
def Stop (p : Prop) : Prop := p
theorem stop {p : Prop} (h : Stop p) : p := h
end Go.Proofs.Ytomflniknnenaaa
