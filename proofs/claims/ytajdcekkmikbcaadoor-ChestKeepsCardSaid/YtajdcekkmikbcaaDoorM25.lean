/- Merged: A landed drum made since a world, and its calls; awake. -/
import Derived.Test.YtajdcekkmikbcaaDoorM24
import Derived.Test.YtajdcekkmikbcaaDoorM10
import Derived.Test.YtajdcekkmikbcaaDoorM13
namespace Go.Proofs.YtajdcekkmikbcaaDoor
section
set_option linter.unusedVariables false
open Go.RowKit
set_option maxRecDepth 100000 in
theorem LMem.wide {w : World} {g n : Nat} {Sv Wv : Value} {d : Dr} {D D' : Nat → Prop} (h : LMem w g Sv Wv d n D) (h1 : ∀ k, D k → D' k) (h2 : ∀ k, D' k → k < w.heap.size) : LMem w g Sv Wv d n D' :=
  ⟨h.box, h.ok, h.small, h.rowL, h.rowW, h.few, h.neL, h.neW, h.ne, h1 _ h.ownG, fun k hk => h1 _ (h.ownL k hk), fun k hk => h1 _ (h.ownW k hk), h2⟩
/-- The landed drum at g, all of it made since w0. -/
def LS (w0 w : World) (g n : Nat) (d : Dr) : Prop := (∃ Sv Wv, LMem w g Sv Wv d n (Since w0 w)) ∧ Turn (fun k => w0.heap.size ≤ k) w0 w
set_option maxRecDepth 100000 in
theorem LS.ok {w0 w : World} {g n : Nat} {d : Dr} (h : LS w0 w g n d) : d.Ok n := by obtain ⟨⟨_, _, h⟩, -⟩ := h; exact h.ok
set_option maxRecDepth 100000 in
theorem LS.quiet {w0 w w' : World} {g n : Nat} {d : Dr} (h : LS w0 w g n d) (t : Turn (fun _ => False) w w') : LS w0 w' g n d := by
  obtain ⟨⟨Sv, Wv, h⟩, ht⟩ := h
  exact ⟨⟨Sv, Wv, (h.keep t (fun _ _ h => h)).wide (fun k hk => ⟨hk.1, Nat.lt_of_lt_of_le hk.2 t.size⟩) (fun k hk => hk.2)⟩, ht.trans t (fun _ _ h => h.elim)⟩
set_option maxRecDepth 100000 in
theorem LS.of {w0 w w2 w' : World} {g n : Nat} {d d' : Dr} (h : LS w0 w g n d) (t : Turn (fun _ => False) w w2) {Sv Wv : Value} {D' : Nat → Prop} (h' : LMem w' g Sv Wv d' n D') (hD : ∀ k, D' k → Dn (Since w0 w) w2 w' k) (t' : Turn (Since w0 w) w2 w') : LS w0 w' g n d' := by
  obtain ⟨-, ht⟩ := h
  have h3 := ht.trans t (S := fun k => w0.heap.size ≤ k) (fun _ _ h => h.elim)
  refine ⟨⟨Sv, Wv, h'.wide (fun k hk => ?_) (fun k hk => hk.2)⟩, h3.trans t' (fun k _ h => h.1)⟩
  rcases hD k hk with h | h
  · exact ⟨h.1, Nat.lt_of_lt_of_le h.2 (Nat.le_trans t.size t'.size)⟩
  · exact ⟨Nat.le_trans h3.size h.1, h.2⟩
set_option maxRecDepth 100000 in
theorem LS.new (w0 w : World) (n : Nat) (h1 : 1 ≤ n) (h2 : n ≤ 8192) (t : Turn (fun _ => False) w0 w) : Calls Tryd.prog 10 #[.int .i64 (n : Int)] w fun r w' => ∃ g, r = .returned (.pointer (some ⟨g, 0, none⟩)) ∧ LS w0 w' g n (Dr.new n) := by
  refine (new_any n h1 h2 w).mono ?_
  rintro r w' ⟨g, rfl, ⟨Sv, h⟩, hb⟩
  exact ⟨g, rfl, ⟨Sv, _, h.wide (fun k hk => ⟨Nat.le_trans t.size hk.1, hk.2⟩) (fun k hk => hk.2)⟩, (t.trans (Turn.of_below hb) (fun _ _ h => h)).mono fun _ _ h => h.elim⟩
section
variable {w0 w w2 : World} {g n : Nat} {d : Dr}
set_option maxRecDepth 100000 in
theorem LS.on (h : LS w0 w g n d) : Calls Tryd.prog 29 #[.pointer (some ⟨g, 0, none⟩)] w fun r w' => r = .returned (.bool (!d.off)) ∧ w' = w := by
  obtain ⟨⟨Sv, Wv, h⟩, -⟩ := h
  exact lon_any g n Sv Wv d _ w h
set_option maxRecDepth 100000 in
theorem LS.len (h : LS w0 w g n d) : Calls Tryd.prog 31 #[.pointer (some ⟨g, 0, none⟩)] w fun r w' => r = .returned (.int .i64 (n : Int)) ∧ w' = w := by
  obtain ⟨⟨Sv, Wv, h⟩, -⟩ := h
  exact llen_any g n Sv Wv d _ w h
set_option maxRecDepth 100000 in
theorem LS.read (h : LS w0 w g n d) (a : Int) : Calls Tryd.prog 49 #[.pointer (some ⟨g, 0, none⟩), .int .i64 a] w fun r w' => ∃ v, r = .returned (.tuple #[v, .int .i64 (d.readE a : Int)]) ∧ RdV w w' d a v ∧ LS w0 w' g n d ∧ Turn (fun _ => False) w w' := by
  have hh := h
  obtain ⟨⟨Sv, Wv, h⟩, -⟩ := h
  refine (lread_any g n Sv Wv d _ a w h).mono ?_
  rintro r w' ⟨v, hr, h1, h2⟩
  exact ⟨v, hr, h1, hh.quiet h2, h2⟩
set_option maxRecDepth 100000 in
theorem LS.write (h : LS w0 w g n d) (t : Turn (fun _ => False) w w2) (a : Int) (A : Option Addr) (c : Nat) (bb : List B8) (hM : SlN w2 (Since w0 w) A (bb.map bv)) (hMl : bb.length ≤ maxLen) (hroom : d.W.length < 10000) :
    Calls Tryd.prog 26 #[.pointer (some ⟨g, 0, none⟩), .int .i64 a, .slice A bb.length c] w2 fun r w' => r = .returned (.int .i64 (d.writeE a bb : Int)) ∧ LS w0 w' g n (d.write a bb) ∧ Turn (fun k => w0.heap.size ≤ k) w2 w' := by
  have hh := h
  obtain ⟨⟨Sv, Wv, h⟩, -⟩ := h
  refine (lwrite_any g n Sv Wv d _ a A c bb w2 (h.keep t (fun _ _ h => h)) hM hMl hroom).mono ?_
  rintro r w' ⟨hr, ⟨Wv', h1⟩, h2⟩
  exact ⟨hr, hh.of t h1 (fun _ h => h) h2, h2.mono fun _ _ h => h.1⟩
set_option maxRecDepth 100000 in
theorem LS.start (h : LS w0 w g n d) (t : Turn (fun _ => False) w w2) (A : Option Addr) (c : Nat) (M : List B8) (hM : SlN w2 (Since w0 w) A (M.map bv)) (hMl : M.length ≤ maxLen) :
    Calls Tryd.prog 22 #[.pointer (some ⟨g, 0, none⟩), .slice A M.length c] w2 fun r w' => (∃ v, r = .returned v) ∧ LS w0 w' g n (d.start M) ∧ Turn (fun k => w0.heap.size ≤ k) w2 w' := by
  have hh := h
  obtain ⟨⟨Sv, Wv, h⟩, -⟩ := h
  refine (lstart_any g n Sv Wv d _ A c M w2 (h.keep t (fun _ _ h => h)) hM hMl).mono ?_
  rintro r w' ⟨hr, h1, h2⟩
  exact ⟨hr, hh.of t h1 (fun _ h => .inl h) h2, h2.mono fun _ _ h => h.1⟩
set_option maxRecDepth 100000 in
theorem LS.sync (h : LS w0 w g n d) : Calls Tryd.prog 59 #[.pointer (some ⟨g, 0, none⟩)] w fun r w' => r = .returned (.int .i64 (d.syncE : Int)) ∧ LS w0 w' g n d.sync ∧ Turn (fun k => w0.heap.size ≤ k) w w' := by
  have hh := h
  obtain ⟨⟨Sv, Wv, h⟩, -⟩ := h
  refine (lsync_any g n Sv Wv d _ w h).mono ?_
  rintro r w' ⟨hr, ⟨Wv', h1⟩, h2⟩
  exact ⟨hr, hh.of (Turn.refl _ _) h1 (fun _ h => .inl h) h2, h2.mono fun _ _ h => h.1⟩
set_option maxRecDepth 100000 in
theorem LS.fuse (h : LS w0 w g n d) (a : Int) (ha : a < 9223372036854775808) : Calls Tryd.prog 20 #[.pointer (some ⟨g, 0, none⟩), .int .i64 a] w fun r w' => (∃ v, r = .returned v) ∧ LS w0 w' g n (d.lay a) ∧ Turn (fun k => w0.heap.size ≤ k) w w' := by
  have hh := h
  obtain ⟨⟨Sv, Wv, h⟩, -⟩ := h
  refine (lfuse_any g n Sv Wv d _ a ha w h).mono ?_
  rintro r w' ⟨hr, h1, h2⟩
  exact ⟨hr, hh.of (Turn.refl _ _) h1 (fun _ h => .inl h) h2, h2.mono fun _ _ h => h.1⟩
end
end
end Go.Proofs.YtajdcekkmikbcaaDoor
