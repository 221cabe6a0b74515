/- The landed drum and the document's, side by side. -/
import Derived.Test.YtodeblffnbbcaaaLdN
set_option linter.unusedVariables false
namespace Go.Proofs.Ytodeblffnbbcaaa
open Go.RowKit
structure Both (w0 w : World) (g1 g2 n : Nat) (d x : Dr) (D1 D2 : Nat → Prop) : Prop where
  one : ∃ Sv Wv, LMem w g1 Sv Wv d n D1
  two : ∃ Lv Wv vs us, RMem w g2 Lv Wv vs us x D2
  apart : ∀ k, D1 k → ¬ D2 k
  new1 : ∀ k, D1 k → w0.heap.size ≤ k
  new2 : ∀ k, D2 k → w0.heap.size ≤ k
  t : Turn (fun k => w0.heap.size ≤ k) w0 w
section
variable {w0 w w2 : World} {g1 g2 n : Nat} {d x : Dr} {D1 D2 : Nat → Prop}
theorem Both.lt1 (h : Both w0 w g1 g2 n d x D1 D2) (k : Nat) (hk : D1 k) : k < w.heap.size := by obtain ⟨_, _, h1⟩ := h.one; exact h1.lt k hk
theorem Both.lt2 (h : Both w0 w g1 g2 n d x D1 D2) (k : Nat) (hk : D2 k) : k < w.heap.size := by obtain ⟨_, _, _, _, h1⟩ := h.two; exact h1.lt k hk
theorem Both.ok (h : Both w0 w g1 g2 n d x D1 D2) : d.Ok n := by obtain ⟨_, _, h1⟩ := h.one; exact h1.ok
theorem Both.quiet (h : Both w0 w g1 g2 n d x D1 D2) (t : Turn (fun _ => False) w w2) : Both w0 w2 g1 g2 n d x D1 D2 := by
  obtain ⟨⟨a, b, h1⟩, ⟨a', b', c', d', h2⟩, h3, h4, h5, h6⟩ := h
  exact ⟨⟨a, b, h1.keep t (fun _ _ h => h)⟩, ⟨a', b', c', d', h2.keep t (fun _ _ h => h)⟩, h3, h4, h5, h6.trans t (fun _ _ h => h.elim)⟩
theorem Both.step1 (h : Both w0 w g1 g2 n d x D1 D2) {w' : World} {d' : Dr} {D' : Nat → Prop} {Sv Wv : Value} (t : Turn D1 w w') (h1 : LMem w' g1 Sv Wv d' n D') (hD : ∀ k, D' k → Dn D1 w w' k) : Both w0 w' g1 g2 n d' x D' D2 := by
  obtain ⟨-, ⟨a', b', c', e', h2⟩, h3, h4, h5, h6⟩ := h
  refine ⟨⟨_, _, h1⟩, ⟨a', b', c', e', h2.keep t (fun k hk h => h3 k h hk)⟩, fun k hk hk2 => ?_, fun k hk => ?_, h5, h6.trans t (fun k _ h => h4 k h)⟩
  · rcases hD k hk with h | h
    · exact h3 k h hk2
    · have := h2.lt k hk2; omega
  · rcases hD k hk with h | h
    · exact h4 k h
    · exact Nat.le_trans h6.size h.1
theorem Both.step2 (h : Both w0 w g1 g2 n d x D1 D2) {w' : World} {x' : Dr} {D' : Nat → Prop} {Lv Wv : Value} {vs : List Value} {us : List (Nat × Value)} (t : Turn D2 w w') (h1 : RMem w' g2 Lv Wv vs us x' D') (hD : ∀ k, D' k → Dn D2 w w' k) : Both w0 w' g1 g2 n d x' D1 D' := by
  obtain ⟨⟨a', b', h2⟩, -, h3, h4, h5, h6⟩ := h
  refine ⟨⟨a', b', h2.keep t (fun k hk h => h3 k hk h)⟩, ⟨_, _, _, _, h1⟩, fun k hk hk2 => ?_, h4, fun k hk => ?_, h6.trans t (fun k _ h => h5 k h)⟩
  · rcases hD k hk2 with h | h
    · exact h3 k hk h
    · have := h2.lt k hk; omega
  · rcases hD k hk with h | h
    · exact h5 k h
    · exact Nat.le_trans h6.size h.1
/-- What came in lies in no block of theirs. -/
theorem Both.came1 (h : Both w0 w g1 g2 n d x D1 D2) {A : Option Addr} {xs : List Value} (hs : Sl w0 w0.heap.size A xs) : SlN w D1 A xs := fun j u hu => by
  obtain ⟨ad, e, hb, hc⟩ := hs j u hu
  exact ⟨ad, e, fun hk => by have := h.new1 _ hk; omega, h.t.cell hc (by rw [add_block]; omega)⟩
theorem Both.came2 (h : Both w0 w g1 g2 n d x D1 D2) {A : Option Addr} {xs : List Value} (hs : Sl w0 w0.heap.size A xs) : SlN w D2 A xs := fun j u hu => by
  obtain ⟨ad, e, hb, hc⟩ := hs j u hu
  exact ⟨ad, e, fun hk => by have := h.new2 _ hk; omega, h.t.cell hc (by rw [add_block]; omega)⟩
theorem Both.on (h : Both w0 w g1 g2 n d x D1 D2) : Calls Try.prog 21 #[.pointer (some ⟨g1, 0, none⟩)] w fun r w' => r = .returned (.bool (!d.off)) ∧ w' = w := by
  obtain ⟨Sv, Wv, h1⟩ := h.one
  exact lon_any g1 n Sv Wv d _ w h1
theorem Both.len (h : Both w0 w g1 g2 n d x D1 D2) : Calls Try.prog 22 #[.pointer (some ⟨g1, 0, none⟩)] w fun r w' => r = .returned (.int .i64 (n : Int)) ∧ w' = w := by
  obtain ⟨Sv, Wv, h1⟩ := h.one
  exact llen_any g1 n Sv Wv d _ w h1
theorem Both.off (h : Both w0 w g1 g2 n d x D1 D2) : w.cell? ⟨g2, 3, none⟩ = some (.bool x.off) := by
  obtain ⟨_, _, _, _, h1⟩ := h.two
  exact h1.box.cells.2.2.2.1
theorem Both.read1 (h : Both w0 w g1 g2 n d x D1 D2) (a : Int) : Calls Try.prog 18 #[.pointer (some ⟨g1, 0, none⟩), .int .i64 a] w fun r w' => ∃ v, r = .returned (.tuple #[v, .int .i64 (d.readE a : Int)]) ∧ RdV w w' d a v ∧ Both w0 w' g1 g2 n d x D1 D2 ∧ Turn (fun _ => False) w w' := by
  obtain ⟨Sv, Wv, h1⟩ := h.one
  refine (lread_any g1 n Sv Wv d _ a w h1).mono ?_
  rintro r w' ⟨v, hr, h2, h3⟩
  exact ⟨v, hr, h2, h.quiet h3, h3⟩
theorem Both.read2 (h : Both w0 w g1 g2 n d x D1 D2) (a : Int) : Calls Try.prog 19 #[.pointer (some ⟨g2, 0, none⟩), .int .i64 a] w fun r w' => ∃ A c, r = .returned (.tuple #[.slice A (x.readV a).length c, .int .i64 (x.readE a : Int)]) ∧ Sl w' w'.heap.size A ((x.readV a).map bv) ∧ Both w0 w' g1 g2 n d x D1 D2 ∧ Turn (fun _ => False) w w' := by
  obtain ⟨_, _, _, _, h1⟩ := h.two
  refine (rread_any g2 _ _ _ _ x _ a w h1).mono ?_
  rintro r w' ⟨v, hr, h2, h3⟩
  obtain ⟨A, c, rfl, hs, -⟩ := own_sl h2
  exact ⟨A, c, hr, hs, h.quiet h3, h3⟩
theorem Both.write1 (h : Both w0 w g1 g2 n d x D1 D2) (a : Int) (A : Option Addr) (c : Nat) (bb : List B8) (hM : Sl w0 w0.heap.size A (bb.map bv)) (hMl : bb.length ≤ maxLen) (hroom : d.W.length < 10000) :
    Calls Try.prog 10 #[.pointer (some ⟨g1, 0, none⟩), .int .i64 a, .slice A bb.length c] w fun r w' => r = .returned (.int .i64 (d.writeE a bb : Int)) ∧ Both w0 w' g1 g2 n (d.write a bb) x (Dn D1 w w') D2 ∧ Turn D1 w w' := by
  obtain ⟨Sv, Wv, h1⟩ := h.one
  refine (lwrite_any g1 n Sv Wv d _ a A c bb w h1 (h.came1 hM) hMl hroom).mono ?_
  rintro r w' ⟨hr, ⟨Wv', h2⟩, h3⟩
  exact ⟨hr, h.step1 h3 h2 (fun _ h => h), h3⟩
theorem Both.write2 (h : Both w0 w g1 g2 n d x D1 D2) (a : Int) (A : Option Addr) (c : Nat) (bb : List B8) (hM : Sl w0 w0.heap.size A (bb.map bv)) (hMl : bb.length ≤ maxLen) (hroom : x.W.length < 10000) :
    Calls Try.prog 11 #[.pointer (some ⟨g2, 0, none⟩), .int .i64 a, .slice A bb.length c] w fun r w' => r = .returned (.int .i64 (x.writeE a bb : Int)) ∧ Both w0 w' g1 g2 n d (x.write a bb) D1 (Dn D2 w w') ∧ Turn D2 w w' := by
  obtain ⟨_, _, _, _, h1⟩ := h.two
  refine (rwrite_any g2 _ _ _ _ x _ a A c bb w h1 (h.came2 hM) hMl (by rw [h1.wlen]; exact hroom)).mono ?_
  rintro r w' ⟨hr, ⟨_, _, _, _, h2⟩, h3⟩
  exact ⟨hr, h.step2 h3 h2 (fun _ h => h), h3⟩
theorem Both.sync1 (h : Both w0 w g1 g2 n d x D1 D2) : Calls Try.prog 12 #[.pointer (some ⟨g1, 0, none⟩)] w fun r w' => r = .returned (.int .i64 (d.syncE : Int)) ∧ Both w0 w' g1 g2 n d.sync x D1 D2 ∧ Turn D1 w w' := by
  obtain ⟨Sv, Wv, h1⟩ := h.one
  refine (lsync_any g1 n Sv Wv d _ w h1).mono ?_
  rintro r w' ⟨hr, ⟨Wv', h2⟩, h3⟩
  exact ⟨hr, h.step1 h3 h2 (fun _ h => .inl h), h3⟩
theorem Both.sync2 (h : Both w0 w g1 g2 n d x D1 D2) : Calls Try.prog 13 #[.pointer (some ⟨g2, 0, none⟩)] w fun r w' => r = .returned (.int .i64 (x.syncE : Int)) ∧ Both w0 w' g1 g2 n d x.sync D1 D2 ∧ Turn D2 w w' := by
  obtain ⟨_, _, _, _, h1⟩ := h.two
  refine (rsync_any g2 _ _ _ _ x _ w h1).mono ?_
  rintro r w' ⟨hr, ⟨_, _, _, _, h2⟩, h3⟩
  exact ⟨hr, h.step2 h3 h2 (fun _ h => .inl h), h3⟩
theorem Both.start1 (h : Both w0 w g1 g2 n d x D1 D2) (A : Option Addr) (c : Nat) (M : List B8) (hM : Sl w0 w0.heap.size A (M.map bv)) (hMl : M.length ≤ maxLen) :
    Calls Try.prog 16 #[.pointer (some ⟨g1, 0, none⟩), .slice A M.length c] w fun r w' => (∃ v, r = .returned v) ∧ Both w0 w' g1 g2 n (d.start M) x D1 D2 ∧ Turn D1 w w' := by
  obtain ⟨Sv, Wv, h1⟩ := h.one
  refine (lstart_any g1 n Sv Wv d _ A c M w h1 (h.came1 hM) hMl).mono ?_
  rintro r w' ⟨hr, h2, h3⟩
  exact ⟨hr, h.step1 h3 h2 (fun _ h => .inl h), h3⟩
theorem Both.start2 (h : Both w0 w g1 g2 n d x D1 D2) (A : Option Addr) (c : Nat) (M : List B8) (hM : Sl w0 w0.heap.size A (M.map bv)) (hMl : M.length ≤ maxLen) :
    Calls Try.prog 17 #[.pointer (some ⟨g2, 0, none⟩), .slice A M.length c] w fun r w' => (∃ v, r = .returned v) ∧ Both w0 w' g1 g2 n d (x.start M) D1 (Dn D2 w w') ∧ Turn D2 w w' := by
  obtain ⟨_, _, _, _, h1⟩ := h.two
  refine (rstart_any g2 _ _ _ _ x _ A c M w h1 (h.came2 hM) hMl).mono ?_
  rintro r w' ⟨hr, ⟨_, _, _, _, h2⟩, h3⟩
  exact ⟨⟨_, hr⟩, h.step2 h3 h2 (fun _ h => h), h3⟩
theorem Both.fuse1 (h : Both w0 w g1 g2 n d x D1 D2) (a : Int) (ha : a < 9223372036854775808) : Calls Try.prog 14 #[.pointer (some ⟨g1, 0, none⟩), .int .i64 a] w fun r w' => (∃ v, r = .returned v) ∧ Both w0 w' g1 g2 n (d.lay a) x D1 D2 ∧ Turn D1 w w' := by
  obtain ⟨Sv, Wv, h1⟩ := h.one
  refine (lfuse_any g1 n Sv Wv d _ a ha w h1).mono ?_
  rintro r w' ⟨hr, h2, h3⟩
  exact ⟨hr, h.step1 h3 h2 (fun _ h => .inl h), h3⟩
theorem Both.fail1 (h : Both w0 w g1 g2 n d x D1 D2) : Calls Try.prog 15 #[.pointer (some ⟨g1, 0, none⟩)] w fun r w' => (∃ v, r = .returned v) ∧ Both w0 w' g1 g2 n d.fail x D1 D2 ∧ Turn D1 w w' := by
  obtain ⟨Sv, Wv, h1⟩ := h.one
  refine (lfail_any g1 n Sv Wv d _ w h1).mono ?_
  rintro r w' ⟨hr, h2, h3⟩
  exact ⟨hr, h.step1 h3 h2 (fun _ h => .inl h), h3⟩
/-- The document's box is laid anew, its rows are the same. -/
theorem RMem.rebox {w' : World} {g : Nat} {Lv Wv : Value} {vs : List Value} {us : List (Nat × Value)} {d' : Dr} {D : Nat → Prop} (h : RMem w g Lv Wv vs us d D) (hb : RBox w' g Lv Wv d'.fuse d'.off) (hf : d'.fuse < 9223372036854775808) (hL : d'.L = d.L) (hW : d'.W = d.W) (t : Turn (fun i => i = g) w w') : RMem w' g Lv Wv vs us d' D where
  box := hb
  fz := hf
  ok := ⟨by rw [hL]; exact h.ok.len, by rw [hL]; exact h.ok.sec, by rw [hW]; exact h.ok.wait⟩
  small := h.small
  rowL := own_turn t h.rowL fun k hk e => h.neL (by rw [hk, e])
  rowW := own_turn t h.rowW fun k hk e => h.neW (by rw [hk, e])
  wlen := by rw [hW]; exact h.wlen
  few := h.few
  secL := fun i v s h1 h2 => (h.secL i v s h1 (by rw [← hL]; exact h2)).turn t (fun k hk hn _ => hn (.inl hk)) (fun _ _ h => h) (fun _ h => h)
  secW := fun i u y h1 h2 => by
    have h3 := h.secW i u y h1 (by rw [← hW]; exact h2)
    exact ⟨h3.1, h3.2.turn t (fun k hk hn _ => hn (.inl hk)) (fun _ _ h => h) (fun _ h => h)⟩
  neL := h.neL
  neW := h.neW
  ne := h.ne
  ownG := h.ownG
  ownL := h.ownL
  ownW := h.ownW
  lt := fun k hk => Nat.lt_of_lt_of_le (h.lt k hk) t.size
/-- What the laws store into the document's drum themselves. -/
theorem Both.lay2 (h : Both w0 w g1 g2 n d x D1 D2) (m : Nat) (hm : m < 9223372036854775808) : Both w0 (w.setCell ⟨g2, 2, none⟩ (.int .i64 (m : Int))) g1 g2 n d { x with fuse := m } D1 D2 := by
  obtain ⟨Lv, Wv, vs, us, h1⟩ := h.two
  have t : Turn (fun i => i = g2) w (w.setCell ⟨g2, 2, none⟩ (.int .i64 (m : Int))) := (Turn.refl _ w).setCell _ _ (fun _ => rfl)
  exact h.step2 (t.mono fun i _ e => by have e : i = g2 := e; rw [e]; exact h1.ownG) (h1.rebox (d' := { x with fuse := m }) (h1.box.setF m) hm rfl rfl t) (fun _ h => .inl h)
theorem Both.fail2 (h : Both w0 w g1 g2 n d x D1 D2) : Both w0 (w.setCell ⟨g2, 3, none⟩ (.bool true)) g1 g2 n d x.fail D1 D2 := by
  obtain ⟨Lv, Wv, vs, us, h1⟩ := h.two
  have t : Turn (fun i => i = g2) w (w.setCell ⟨g2, 3, none⟩ (.bool true)) := (Turn.refl _ w).setCell _ _ (fun _ => rfl)
  exact h.step2 (t.mono fun i _ e => by have e : i = g2 := e; rw [e]; exact h1.ownG) (h1.rebox (d' := x.fail) (h1.box.setO true) h1.fz rfl rfl t) (fun _ h => .inl h)
theorem Both.cells (h : Both w0 w g1 g2 n d x D1 D2) : (∃ v, w.cell? ⟨g2, 2, none⟩ = some (.int .i64 v)) ∧ w.frozen? ⟨g2, 2, none⟩ = false ∧ w.frozen? ⟨g2, 3, none⟩ = false := by
  obtain ⟨_, _, _, _, h1⟩ := h.two
  have := h1.box.cells
  exact ⟨⟨_, this.2.2.1⟩, this.2.2.2.2.2.2.1, this.2.2.2.2.2.2.2⟩
end
end Go.Proofs.Ytodeblffnbbcaaa
