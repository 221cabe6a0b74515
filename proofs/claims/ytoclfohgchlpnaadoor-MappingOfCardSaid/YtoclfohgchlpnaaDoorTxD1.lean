/- The contracts of the code's Same. -/
import Derived.Test.YtoclfohgchlpnaaDoorTxY
import Derived.Laws.IdiomStrings
import Derived.Laws.BytesArg
set_option linter.unusedVariables false
set_option linter.unusedSimpArgs false
namespace Go.Proofs.YtoclfohgchlpnaaDoor
open Go.RowKit
attribute [local go_sem ↓] loadAt_pt loadAt_out
attribute [local go_sem] rowOf_drew rowOf_drewN run_ptLoad run_outLoad
set_option maxRecDepth 100000 in
theorem u8s_len (b : List B8) : (u8s b).length = b.length := by simp [u8s]
set_option maxRecDepth 100000 in
theorem str_any (A : Option Addr) (c B : Nat) (b : List B8) (w : World) (hs : Sl w B A (b.map bv)) (hA : A = none → c = 0) (hc : b.length ≤ c) :
    (convert 52 9 (.slice A b.length c)).run Tryd.prog w = .ok (.string ⟨(u8s b).toArray⟩) w := by
  cases A with
  | none =>
    have hb : b = [] := by
      have := hA rfl
      exact List.eq_nil_of_length_eq_zero (by omega)
    subst hb
    exact run_convert_bytes_nil w 52 5 Tryd.underlying52 Tryd.underlying5 _ _ _ Tryd.underlying9
  | some ad =>
    have h := run_convert_bytes_back (P := Tryd.prog) w 52 9 5 ad c (u8s b) Tryd.underlying52 Tryd.underlying5 Tryd.underlying9 (fun j hj => by
      rw [u8s_len] at hj
      obtain ⟨ad', e, -, hcell⟩ := hs j _ (bvs_at b j hj)
      injection e with e; subst e
      rw [hcell]
      simp [u8s, bv])
    rw [u8s_len] at h
    exact h
end Go.Proofs.YtoclfohgchlpnaaDoor
