/- The landed drum: On, Len, Fuse, Fail, Start, Sync over the plain drum. -/
import Derived.Test.YtodeblffnbbcaaaLdC
set_option linter.unusedVariables false
namespace Go.Proofs.Ytodeblffnbbcaaa
open Go.RowKit
section
variable {w w' : World} {g n : Nat} {Sv Wv : Value} {d d' : Dr} {D : Nat → Prop}
/-- Its box is laid anew, its rows are the same. -/
theorem LMem.rebox {f : Nat} (h : LMem w g Sv Wv d n D) (hb : LBox w' g Sv Wv f d'.off) (hf : f < 9223372036854775808) (hfo : d'.off = false → f = d'.fuse) (hL : d'.L = d.L) (hW : d'.W = d.W) (t : Turn (fun i => i = g) w w') : LMem w' g Sv Wv d' n D where
  box := ⟨f, hb, hf, hfo⟩
  ok := ⟨by rw [hL]; exact h.ok.len, by rw [hL]; exact h.ok.sec, by rw [hW]; exact h.ok.wait⟩
  small := h.small
  rowL := by rw [hL]; exact own_turn t h.rowL fun k hk e => h.neL (by rw [hk, e])
  rowW := by rw [hW]; exact own_turn t h.rowW fun k hk e => h.neW (by rw [hk, e])
  few := by rw [hW]; exact h.few
  neL := h.neL
  neW := h.neW
  ne := h.ne
  ownG := h.ownG
  ownL := h.ownL
  ownW := h.ownW
  lt := fun k hk => Nat.lt_of_lt_of_le (h.lt k hk) t.size
end
theorem lon_any (g n : Nat) (Sv Wv : Value) (d : Dr) (D : Nat → Prop) (w : World) (h : LMem w g Sv Wv d n D) :
    Calls Try.prog 21 #[.pointer (some ⟨g, 0, none⟩)] w fun r w' => r = .returned (.bool (!d.off)) ∧ w' = w := by
  obtain ⟨f, hb, -, -⟩ := h.box
  exact on_any g f Sv Wv d.off w hb
theorem llen_any (g n : Nat) (Sv Wv : Value) (d : Dr) (D : Nat → Prop) (w : World) (h : LMem w g Sv Wv d n D) :
    Calls Try.prog 22 #[.pointer (some ⟨g, 0, none⟩)] w fun r w' => r = .returned (.int .i64 (n : Int)) ∧ w' = w := by
  obtain ⟨f, hb, -, -⟩ := h.box
  obtain ⟨A, c, e, -⟩ := own_block h.rowL
  rw [e] at hb
  exact len_any g f n c A Wv d.off w hb
theorem lreach_any (g n : Nat) (Sv Wv : Value) (d : Dr) (D : Nat → Prop) (a : Int) (w : World) (h : LMem w g Sv Wv d n D) :
    Calls Try.prog 25 #[.pointer (some ⟨g, 0, none⟩), .int .i64 a] w fun r w' => r = .returned (.int .i64 (d.readE a : Int)) ∧ w' = w := by
  obtain ⟨f, hb, -, -⟩ := h.box
  obtain ⟨A, c, e, -⟩ := own_block h.rowL
  rw [e] at hb
  have := reach_any g f n c A Wv d.off a w hb
  unfold Dr.readE
  rw [h.ok.len]
  exact this
theorem lburns_any (g n : Nat) (Sv Wv : Value) (d : Dr) (D : Nat → Prop) (w : World) (h : LMem w g Sv Wv d n D) (ho : d.off = false) :
    Calls Try.prog 26 #[.pointer (some ⟨g, 0, none⟩)] w fun r w' => r = .returned (.bool (d.fuse == 1)) ∧ LMem w' g Sv Wv d.burn n D ∧ Turn (fun i => i = g) w w' := by
  obtain ⟨f, hb, hf, hfo⟩ := h.box
  obtain rfl := hfo ho
  rw [ho] at hb
  refine (burns_any g _ Sv Wv w hb hf).mono ?_
  rintro r w' ⟨hr, hb', ht⟩
  exact ⟨hr, h.rebox (d' := d.burn) (by simpa [Dr.burn, ho] using hb') (f := d.fuse - 1) (by omega) (fun _ => rfl) rfl rfl ht, ht⟩
theorem lfuse_any (g n : Nat) (Sv Wv : Value) (d : Dr) (D : Nat → Prop) (a : Int) (ha : a < 9223372036854775808) (w : World) (h : LMem w g Sv Wv d n D) :
    Calls Try.prog 14 #[.pointer (some ⟨g, 0, none⟩), .int .i64 a] w fun r w' => (∃ v, r = .returned v) ∧ LMem w' g Sv Wv (d.lay a) n D ∧ Turn D w w' := by
  obtain ⟨f, hb, hf, hfo⟩ := h.box
  refine (fuse_any g f Sv Wv d.off a w hb).mono ?_
  rintro r w' ⟨hr, hb', ht⟩
  refine ⟨hr, h.rebox (d' := d.lay a) hb' ?_ ?_ rfl rfl ht, ht.mono fun i _ e => by rw [e]; exact h.ownG⟩
  · split <;> omega
  · intro e
    have e : d.off = false := e
    rw [if_neg (by rw [e]; simp)]; rfl
theorem lfail_any (g n : Nat) (Sv Wv : Value) (d : Dr) (D : Nat → Prop) (w : World) (h : LMem w g Sv Wv d n D) :
    Calls Try.prog 15 #[.pointer (some ⟨g, 0, none⟩)] w fun r w' => (∃ v, r = .returned v) ∧ LMem w' g Sv Wv d.fail n D ∧ Turn D w w' := by
  obtain ⟨f, hb, hf, hfo⟩ := h.box
  refine (fail_any g f Sv Wv d.off w hb).mono ?_
  rintro r w' ⟨hr, hb', ht⟩
  exact ⟨hr, h.rebox (d' := d.fail) hb' hf (fun e => by cases e) rfl rfl ht, ht.mono fun i _ e => by rw [e]; exact h.ownG⟩
set_option maxRecDepth 100000 in
theorem lstart_any (g n : Nat) (Sv Wv : Value) (d : Dr) (D : Nat → Prop) (Am : Option Addr) (cm : Nat) (M : List B8) (w : World) (h : LMem w g Sv Wv d n D) (hM : SlN w D Am (M.map bv)) (hMl : M.length ≤ maxLen) :
    Calls Try.prog 16 #[.pointer (some ⟨g, 0, none⟩), .slice Am M.length cm] w fun r w' => (∃ v, r = .returned v) ∧ LMem w' g Sv (.slice none 0 0) (d.start M) n D ∧ Turn D w w' := by
  have HL := Lib.hid (land_any g n Sv Wv d D Am cm M w h hM hMl)
  clear h hM hMl
  go_enter Try.func16, Try.ntmps16
  go_wp2_with (go_at_call 28; refine HL.out.mono ?_; rintro r w1 ⟨⟨v, rfl⟩, h1, t1⟩; have H1 := Lib.hid h1; have T1 := Lib.hid t1; obtain ⟨f, hb, -, -⟩ := h1.box; obtain ⟨x0, x1, x2, x3, y0, y1, y2, y3⟩ := hb.cells; have HB := Lib.hid hb; clear h1 t1 hb)
  go_end0
  have t2 : Turn (fun i => i = g) w1 ((w1.setCell ⟨g, 2, none⟩ (.int .i64 0)).setCell ⟨g, 3, none⟩ (.bool true)) := ((Turn.refl (fun i => i = g) w1).setCell ⟨g, 2, none⟩ _ (fun _ => rfl)).setCell ⟨g, 3, none⟩ _ (fun _ => rfl)
  exact ⟨⟨_, rfl⟩, H1.out.rebox (d' := d.start M) (f := 0) ((HB.out.setF 0).setO false) (by omega) (fun _ => rfl) rfl rfl t2, T1.out.trans t2 (fun i _ e => by rw [e]; exact H1.out.ownG)⟩
set_option maxRecDepth 100000 in
theorem lsync_any (g n : Nat) (Sv Wv : Value) (d : Dr) (D : Nat → Prop) (w : World) (h : LMem w g Sv Wv d n D) :
    Calls Try.prog 12 #[.pointer (some ⟨g, 0, none⟩)] w fun r w' => r = .returned (.int .i64 (d.syncE : Int)) ∧ (∃ Wv', LMem w' g Sv Wv' d.sync n D) ∧ Turn D w w' := by
  have HO := Lib.hid (lon_any g n Sv Wv d D w h)
  have HH := Lib.hid h
  by_cases ho : d.off = true
  · have e1 : d.syncE = 21 := by unfold Dr.syncE; rw [if_pos ho]
    have e2 : d.sync = d := by unfold Dr.sync; rw [if_pos ho]
    rw [e1, e2]
    rw [ho] at HO
    clear h e1 e2
    go_enter Try.func12, Try.ntmps12
    go_wp2_with (go_at_call 21; refine HO.out.mono ?_; rintro r w1 ⟨rfl, rfl⟩)
    go_ret
    exact ⟨rfl, ⟨_, HH.out⟩, Turn.refl _ _⟩
  have ho' : d.off = false := by simpa using ho
  have HB := Lib.hid (lburns_any g n Sv Wv d D w h ho')
  rw [ho'] at HO
  by_cases hf : d.fuse = 1
  · have e1 : d.syncE = 20 := by unfold Dr.syncE; rw [if_neg ho, if_pos hf]
    have e2 : d.sync = d.burn := by unfold Dr.sync; rw [if_neg ho, if_pos hf]
    rw [e1, e2]
    have hq : (d.fuse == 1) = true := by rw [hf]; rfl
    clear h e1 e2
    go_enter Try.func12, Try.ntmps12
    go_wp2_with (first | (go_at_call 21; refine HO.out.mono ?_; rintro r w1 ⟨rfl, rfl⟩) | (go_at_call 26; refine HB.out.mono ?_; rintro r w2 ⟨rfl, h2, t2⟩; have H2 := Lib.hid h2; have T2 := Lib.hid t2; clear h2 t2))
    go_ret
    exact ⟨rfl, ⟨_, H2.out⟩, T2.out.mono fun i _ e => by rw [e]; exact HH.out.ownG⟩
  · have e1 : d.syncE = 0 := by unfold Dr.syncE; rw [if_neg ho, if_neg hf]
    have e2 : d.sync = d.burn.land [] := by unfold Dr.sync; rw [if_neg ho, if_neg hf]
    rw [e1, e2]
    have hq : (d.fuse == 1) = false := by simpa using hf
    clear h e1 e2
    go_enter Try.func12, Try.ntmps12
    go_wp2_with (first | (go_at_call 21; refine HO.out.mono ?_; rintro r w1 ⟨rfl, rfl⟩) | (go_at_call 26; refine HB.out.mono ?_; rintro r w2 ⟨rfl, h2, t2⟩; have H2 := Lib.hid h2; have T2 := Lib.hid t2; have HL := Lib.hid (land_any g n Sv Wv d.burn D none 0 [] w2 h2 (fun j u hu => by simp at hu) (by unfold maxLen; simp)); clear h2 t2) | (go_at_call 28; refine HL.out.mono ?_; rintro r w3 ⟨⟨v, rfl⟩, h3, t3⟩; have H3 := Lib.hid h3; have T3 := Lib.hid t3; clear h3 t3))
    go_ret
    exact ⟨rfl, ⟨_, H3.out⟩, (T2.out.mono (S := D) fun i _ e => by rw [e]; exact HH.out.ownG).trans T3.out fun _ _ h => h⟩
end Go.Proofs.Ytodeblffnbbcaaa
