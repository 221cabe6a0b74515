/- The document's drum in memory: its sectors, what waits; keep. -/
import Derived.Test.YtodeblffnbbcaaaDrB
import Derived.LoopTactic
set_option linter.unusedVariables false
namespace Go.Proofs.Ytodeblffnbbcaaa
open Go.RowKit

/-- A sector's bytes, in a block of D and none of N. -/
def SecV (w : World) (N D : Nat → Prop) (v : Value) (s : Sec) : Prop := s.length = 64 ∧ ∃ a c, v = .slice (some a) 64 c ∧ 64 ≤ c ∧ ¬ N a.block ∧ D a.block ∧ ∀ j u, (s.map bv)[j]? = some u → w.cell? (a.add j) = some u
theorem SecV.turn {w w' : World} {N D N' D' S : Nat → Prop} {v : Value} {s : Sec} (h : SecV w N D v s) (t : Turn S w w') (hS : ∀ k, S k → ¬ N k → D k → False) (hN : ∀ k, k < w.heap.size → N' k → N k) (hD : ∀ k, D k → D' k) : SecV w' N' D' v s := by
  obtain ⟨h1, a, c, e, hc, hn, hd, hb⟩ := h
  have hlt : a.block < w.heap.size := by
    have := World.block_lt_of_cell? w _ (hb 0 (bv s[0]) (bvs_at s 0 (by omega)))
    rwa [add_block] at this
  exact ⟨h1, a, c, e, hc, fun h => hn (hN _ hlt h), hD _ hd, fun j u hu => t.cell (hb j u hu) (by rw [add_block]; exact fun h => hS _ h hn hd)⟩
/-- The cells of what waits: a place, a slice. -/
def waitV (us : List (Nat × Value)) : List Value := us.flatMap fun u => [.int .i64 (u.1 : Int), u.2]
theorem waitV_append (us vs : List (Nat × Value)) : waitV (us ++ vs) = waitV us ++ waitV vs := by simp [waitV]
theorem waitV_len (us : List (Nat × Value)) : (waitV us).length = us.length * 2 := by
  induction us with
  | nil => rfl
  | cons u l ih => simp only [waitV, List.flatMap_cons, List.length_append, List.length_cons, List.length_nil] at *; omega
theorem waitV_at : ∀ (us : List (Nat × Value)) (i : Nat) (u : Nat × Value), us[i]? = some u → (waitV us)[i * 2]? = some (.int .i64 (u.1 : Int)) ∧ (waitV us)[i * 2 + 1]? = some u.2
  | [], i, u, h => by simp at h
  | v :: l, 0, u, h => by simp at h; subst h; exact ⟨rfl, rfl⟩
  | v :: l, i + 1, u, h => by
    rw [List.getElem?_cons_succ] at h
    have := waitV_at l i u h
    rw [show (i + 1) * 2 = i * 2 + 2 by omega]
    exact this
/-- The document's drum at g: its rows are vs and us, its blocks D. -/
structure RMem (w : World) (g : Nat) (Lv Wv : Value) (vs : List Value) (us : List (Nat × Value)) (d : Dr) (D : Nat → Prop) : Prop where
  box : RBox w g Lv Wv d.fuse d.off
  fz : d.fuse < 9223372036854775808
  ok : d.Ok vs.length
  small : vs.length ≤ 10000
  rowL : w.ownsRow 0 28 1 Lv vs.length vs
  rowW : w.ownsRow 0 64 2 Wv us.length (waitV us)
  wlen : us.length = d.W.length
  few : us.length ≤ 10000
  secL : ∀ (i : Nat) (v : Value) (s : Sec), vs[i]? = some v → d.L[i]? = some s → SecV w (fun k => k = g ∨ Lv.ownBlock = some k ∨ Wv.ownBlock = some k) D v s
  secW : ∀ (i : Nat) (u : Nat × Value) (x : Nat × Sec), us[i]? = some u → d.W[i]? = some x → u.1 = x.1 ∧ SecV w (fun k => k = g ∨ Lv.ownBlock = some k ∨ Wv.ownBlock = some k) D u.2 x.2
  neL : Lv.ownBlock ≠ some g
  neW : Wv.ownBlock ≠ some g
  ne : ∀ k, Lv.ownBlock = some k → Wv.ownBlock ≠ some k
  ownG : D g
  ownL : ∀ k, Lv.ownBlock = some k → D k
  ownW : ∀ k, Wv.ownBlock = some k → D k
  lt : ∀ k, D k → k < w.heap.size
theorem own_turn {S : Nat → Prop} {w w' : World} {base s n : Nat} {e : TypeId} {v : Value} {xs : List Value} (h : Turn S w w') (ho : w.ownsRow base e s v n xs) (hn : ∀ g, v.ownBlock = some g → ¬ S g) : w'.ownsRow base e s v n xs := by
  obtain ⟨h1, h2⟩ := ho
  refine ⟨h1, ?_⟩
  rcases h2 with h2 | ⟨g, cap, cur, rfl, hg, hh, r⟩
  · exact .inl h2
  · exact .inr ⟨g, cap, cur, rfl, hg, h.heap hh (hn g rfl), r⟩
/-- What turns none of its blocks leaves it. -/
theorem RMem.keep {w w' : World} {g : Nat} {Lv Wv : Value} {vs : List Value} {us : List (Nat × Value)} {d : Dr} {D S : Nat → Prop} (h : RMem w g Lv Wv vs us d D) (t : Turn S w w') (hS : ∀ k, D k → ¬ S k) : RMem w' g Lv Wv vs us d D where
  box := h.box.turn t (hS _ h.ownG)
  fz := h.fz
  ok := h.ok
  small := h.small
  rowL := own_turn t h.rowL fun k hk => hS k (h.ownL k hk)
  rowW := own_turn t h.rowW fun k hk => hS k (h.ownW k hk)
  wlen := h.wlen
  few := h.few
  secL := fun i v s h1 h2 => (h.secL i v s h1 h2).turn t (fun k hs _ hd => hS k hd hs) (fun _ _ h => h) (fun _ h => h)
  secW := fun i u x h1 h2 => ⟨(h.secW i u x h1 h2).1, (h.secW i u x h1 h2).2.turn t (fun k hs _ hd => hS k hd hs) (fun _ _ h => h) (fun _ h => h)⟩
  neL := h.neL
  neW := h.neW
  ne := h.ne
  ownG := h.ownG
  ownL := h.ownL
  ownW := h.ownW
  lt := fun k hk => Nat.lt_of_lt_of_le (h.lt k hk) t.size
/-- A row of one's own is a slice: its address and cells. -/
theorem own_cells {w : World} {base s n : Nat} {e : TypeId} {v : Value} {xs : List Value} (h : w.ownsRow base e s v n xs) : ∃ A c, v = .slice A n c ∧ ∀ j u, xs[j]? = some u → ∃ g, A = some ⟨g, 0, none⟩ ∧ v.ownBlock = some g ∧ w.cell? ⟨g, j, none⟩ = some u := by
  obtain ⟨h1, h2⟩ := h
  rcases h2 with ⟨rfl, rfl⟩ | ⟨g, cap, cur, rfl, hg, hh, hn, hcap, hsz, ht⟩
  · refine ⟨none, 0, rfl, fun j u hu => ?_⟩
    simp at h1; subst h1; simp at hu
  · refine ⟨_, cap, rfl, fun j u hu => ⟨g, rfl, rfl, ?_⟩⟩
    rw [cell_of_row _ _ _ _ _ _ hh]
    rw [← ht, List.getElem?_take] at hu
    split at hu
    · simpa using hu
    · cases hu
end Go.Proofs.Ytodeblffnbbcaaa
