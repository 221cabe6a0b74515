/- The document's drum: Sync. -/
import Derived.Test.YtodeblffnbbcaaaDrD
set_option linter.unusedVariables false
namespace Go.Proofs.Ytodeblffnbbcaaa
open Go.RowKit
theorem own_set {w : World} {base n : Nat} {e : TypeId} {g c : Nat} {xs : List Value} (h : w.ownsRow base e 1 (.slice (some ⟨g, 0, none⟩) n c) n xs) (k : Nat) (hk : k < n) (u : Value) :
    (w.setCell ⟨g, k, none⟩ u).ownsRow base e 1 (.slice (some ⟨g, 0, none⟩) n c) n (xs.set k u) := by
  obtain ⟨h1, h2⟩ := h
  rcases h2 with ⟨e, -⟩ | ⟨g', cap, cur, e, hg, hh, hn, hcap, hsz, ht⟩
  · cases e
  · injection e with e1 e2 e3
    injection e1 with e1
    injection e1 with e1
    subst e1; subst e3
    refine ⟨by simpa using h1, .inr ⟨g, c, _, rfl, hg, heap_setCell_same _ g k _ _ _ hh, hn, hcap, by simpa using hsz, ?_⟩⟩
    rw [Array.toList_setIfInBounds, List.take_set, ht]
theorem own_frozen {w : World} {base s n : Nat} {e : TypeId} {v : Value} {xs : List Value} (h : w.ownsRow base e s v n xs) {g : Nat} (hg : v.ownBlock = some g) (k : Nat) : w.frozen? ⟨g, k, none⟩ = false := by
  rcases h.2 with ⟨rfl, -⟩ | ⟨g', cap, cur, rfl, -, hh, -⟩
  · cases hg
  · injection hg with hg; subst hg; exact frozen_of_row _ _ _ _ _ hh
theorem landL_snoc (w : Nat × Sec) (W : List (Nat × Sec)) : ∀ (L : List Sec) (M : List B8), landL L (W ++ [w]) M = (landL L W M).set w.1 (tornS ((landL L W M).getD w.1 []) w.2 (M.getD W.length 255)) := by
  induction W with
  | nil => intro L M; cases M <;> rfl
  | cons x W ih =>
    intro L M
    rw [List.cons_append, landL, ih, ← landL]
    congr 2
    cases M with
    | nil => rfl
    | cons m M => rfl
/-- Its sectors after the first j of what waits have landed whole. -/
theorem land_next {L : List Sec} {W : List (Nat × Sec)} {j : Nat} (hj : j < W.length) (h64 : W[j].2.length = 64) : landL L (W.take (j + 1)) [] = (landL L (W.take j) []).set W[j].1 W[j].2 := by
  rw [List.take_succ_eq_append_getElem hj, landL_snoc]
  congr 1
  exact tornS_all _ _ h64
/-- What waited has landed: the row of what waits is none. -/
theorem rmem_landed {w w' : World} {g : Nat} {Lv Wv : Value} {vs vj : List Value} {us : List (Nat × Value)} {d d' : Dr} {D : Nat → Prop} (h : RMem w g Lv Wv vs us d D) (ok : d'.Ok vs.length) (hW : d'.W = []) (hf : d'.fuse < 9223372036854775808)
    (hb : RBox w' g Lv (.slice none 0 0) d'.fuse d'.off) (hr : w'.ownsRow 0 28 1 Lv vs.length vj)
    (hsec : ∀ (i : Nat) (v : Value) (s : Sec), vj[i]? = some v → d'.L[i]? = some s → SecV w (fun k => k = g ∨ Lv.ownBlock = some k ∨ Wv.ownBlock = some k) D v s)
    (ht : Turn (fun k => k = g ∨ Lv.ownBlock = some k) w w') : RMem w' g Lv (.slice none 0 0) vj [] d' D := by
  have e : vj.length = vs.length := by simpa using hr.1
  refine ⟨hb, hf, by rw [e]; exact ok, by rw [e]; exact h.small, by rw [e]; exact hr, ⟨rfl, .inl ⟨rfl, rfl⟩⟩, by rw [hW]; rfl, by simp, fun i v s h1 h2 => (hsec i v s h1 h2).turn ht (fun k hs hn _ => hn (hs.elim .inl fun h => .inr (.inl h))) (fun k _ h => ?_) (fun _ h => h), fun i u x h1 _ => by simp at h1, h.neL, (fun e => by cases e), (fun k _ e => by cases e), h.ownG, h.ownL, (fun k e => by cases e), fun k hk => Nat.lt_of_lt_of_le (h.lt k hk) ht.size⟩
  rcases h with h | h | h
  · exact .inl h
  · exact .inr (.inl h)
  · cases h
set_option maxHeartbeats 1000000 in
set_option maxRecDepth 100000 in
theorem rsync_any (g : Nat) (Lv Wv : Value) (vs : List Value) (us : List (Nat × Value)) (d : Dr) (D : Nat → Prop) (w : World) (h : RMem w g Lv Wv vs us d D) :
    Calls Try.prog 13 #[.pointer (some ⟨g, 0, none⟩)] w fun r w' => r = .returned (.int .i64 (d.syncE : Int)) ∧ (∃ Lv' Wv' vs' us', RMem w' g Lv' Wv' vs' us' d.sync D) ∧ Turn D w w' := by
  obtain ⟨c0, c1, c2, c3, z0, z1, z2, z3⟩ := h.box.cells
  have HH := Lib.hid h
  by_cases ho : d.off = true
  · rw [ho] at c3
    have e1 : d.syncE = 21 := by unfold Dr.syncE; rw [if_pos ho]
    have e2 : d.sync = d := by unfold Dr.sync; rw [if_pos ho]
    rw [e1, e2]
    clear h e1 e2
    go_enter Try.func13, Try.ntmps13
    go_wp2
    go_ret
    exact ⟨rfl, ⟨_, _, _, _, HH.out⟩, Turn.refl _ _⟩
  have ho' : d.off = false := by simpa using ho
  have hb := h.box
  rw [ho'] at c3 hb
  have F := rfails_any g d.fuse Lv Wv false w hb h.fz
  have HF := Lib.hid F
  by_cases h1 : d.fuse = 1
  · have e1 : d.syncE = 20 := by unfold Dr.syncE; rw [if_neg ho, if_pos h1]
    have e2 : d.sync = d.burn := by unfold Dr.sync; rw [if_neg ho, if_pos h1]
    have t1 : (d.fuse == 1) = true := by simpa using h1
    rw [t1] at HF
    rw [e1, e2]
    have KB := Lib.hid (fun w' (hb : RBox w' g Lv Wv (d.fuse - 1) true) (ht : Turn (fun i => i = g) w w') => show RMem w' g Lv Wv vs us d.burn D from by
      refine ⟨by simpa [Dr.burn, t1] using hb, by have := h.fz; simp only [Dr.burn]; omega, h.ok.burn, h.small, own_turn ht h.rowL fun k hk => ?_, own_turn ht h.rowW fun k hk => ?_, h.wlen, h.few, fun i v s h1 h2 => (h.secL i v s h1 h2).turn ht ?_ (fun _ _ h => h) (fun _ h => h), fun i u x h1 h2 => ⟨(h.secW i u x h1 h2).1, (h.secW i u x h1 h2).2.turn ht ?_ (fun _ _ h => h) (fun _ h => h)⟩, h.neL, h.neW, h.ne, h.ownG, h.ownL, h.ownW, fun k hk => Nat.lt_of_lt_of_le (h.lt k hk) ht.size⟩
      · rintro rfl; exact h.neL (by assumption)
      · rintro rfl; exact h.neW (by assumption)
      · rintro k rfl hn _; exact hn (.inl rfl)
      · rintro k rfl hn _; exact hn (.inl rfl))
    have HD := Lib.hid h.ownG
    clear h F e1 e2 h1 hb
    go_enter Try.func13, Try.ntmps13
    go_wp2_with (go_at_call 27; refine HF.out.mono ?_; rintro r w' ⟨rfl, hb1, ht1⟩; have HB1 := Lib.hid hb1; have HT1 := Lib.hid ht1; clear hb1 ht1)
    go_ret
    exact ⟨rfl, ⟨_, _, _, _, KB.out _ HB1.out HT1.out⟩, HT1.out.mono fun i _ e => by subst e; exact HD.out⟩
  have e1 : d.syncE = 0 := by unfold Dr.syncE; rw [if_neg ho, if_neg h1]
  have e2 : d.sync = d.burn.land [] := by unfold Dr.sync; rw [if_neg ho, if_neg h1]
  have t1 : (d.fuse == 1) = false := by simpa using h1
  rw [t1] at HF
  rw [e1, e2]
  obtain ⟨AL, cL, eL, kL⟩ := own_cells h.rowL
  obtain ⟨AW, cW, eW, kW⟩ := own_cells h.rowW
  have hn := h.ok.len
  have hsm := h.small
  have hfew := h.few
  have hwl := h.wlen
  clear h F e1 e2 h1 hb c0 c1 c2 c3 z0 z1 z2 z3
  go_enter Try.func13, Try.ntmps13
  have c3 := HH.out.box.cells.2.2.2.1
  rw [ho'] at c3
  go_wp2_with (go_at_call 27; refine HF.out.mono ?_; rintro r w1 ⟨rfl, hb1, ht1⟩; have HB1 := Lib.hid hb1; have HT1 := Lib.hid ht1; clear hb1 ht1)
  go_loopw [3] (fun i wr => ∃ (j : Nat) (vj : List Value), j ≤ us.length ∧ i = .int .i64 j ∧ wr.ownsRow 0 28 1 Lv vs.length vj ∧
    (∀ (i : Nat) (v : Value) (s : Sec), vj[i]? = some v → (landL d.L (d.W.take j) [])[i]? = some s → SecV w (fun k => k = g ∨ Lv.ownBlock = some k ∨ Wv.ownBlock = some k) D v s) ∧ Turn (fun k => Lv.ownBlock = some k) w1 wr) (fun i _ => us.length - (intOf i).toNat)
  case atStart => exact ⟨0, vs, Nat.zero_le _, rfl, own_turn HT1.out HH.out.rowL (fun k hk e => by subst e; exact HH.out.neL hk), by rw [List.take_zero]; exact HH.out.secL, Turn.refl _ _⟩
  case round =>
    obtain ⟨j, vj, hj, rfl, hr, hsec, ht⟩ := hrel
    have HR := Lib.hid hr
    have HSC := Lib.hid hsec
    have HT := Lib.hid ht
    have hbr := HB1.out.turn ht HH.out.neL
    obtain ⟨c0, c1, c2, c3, z0, z1, z2, z3⟩ := hbr.cells
    rw [eL] at c0
    rw [eW] at c1
    have HBR := Lib.hid hbr
    clear hr hsec hbr
    by_cases hlt : j < us.length
    · have hltW : j < d.W.length := by omega
      obtain ⟨x1, x2⟩ := waitV_at us j us[j] (by simp [hlt])
      obtain ⟨gW, rfl, eoW, cw0⟩ := kW _ _ x1
      obtain ⟨gW', hg', -, cw1⟩ := kW _ _ x2
      obtain rfl : gW = gW' := by injection hg' with hg'; injection hg'
      have cw0 := ht.cell (HT1.out.cell cw0 (fun e => HH.out.neW (by rw [eoW]; exact congrArg some e))) (fun e => HH.out.ne _ e eoW)
      have cw1 := ht.cell (HT1.out.cell cw1 (fun e => HH.out.neW (by rw [eoW]; exact congrArg some e))) (fun e => HH.out.ne _ e eoW)
      obtain ⟨y1, y2⟩ := HH.out.secW j us[j] d.W[j] (by simp [hlt]) (by simp [hltW])
      obtain ⟨q1, q2⟩ := HH.out.ok.wait d.W[j] (by simp)
      have HY := Lib.hid y2
      have HN := Lib.hid (land_next (L := d.L) hltW q2)
      clear x1 x2 kW y2 ht
      generalize us[j] = u at *
      generalize d.W[j] = x at *
      obtain ⟨u1, u2⟩ := u
      obtain ⟨x1, x2⟩ := x
      dsimp only at y1 HY cw0 cw1 HN q1
      subst y1
      obtain ⟨v9, hv9⟩ : ∃ v9, vj[u1]? = some v9 := ⟨_, List.getElem?_eq_getElem (by have := HR.out.1; omega)⟩
      obtain ⟨AL', cL', eL', kL'⟩ := own_cells HR.out
      obtain ⟨gL, hAL, eoL, cl⟩ := kL' _ _ hv9
      rw [eL] at eL'
      injection eL' with e5 _ e6
      subst e5; subst e6; subst hAL
      clear kL' hv9
      go_upto_region 8 with fail
      refine wp_region_still_tail 21 (by kernel_rfl) (by kernel_rfl) ?_
      simp only [List.take_succ_cons, List.take_zero, List.drop_succ_cons, List.drop_zero]
      change wpStill _ _ wr.drew (fun a' => wpList _ _ _ _ a' wr.drew) _ _
      have d0 : wr.drew.cell? _ = _ := c0
      have d1 : wr.drew.cell? _ = _ := c1
      have dl : wr.drew.cell? _ = _ := cl
      have dw0 : wr.drew.cell? _ = _ := cw0
      have dw1 : wr.drew.cell? _ = _ := cw1
      clear c0 c1 c2 c3 z0 z1 z2 z3 cl cw0 cw1
      have dz : wr.drew.frozen? ⟨gL, u1, none⟩ = false := own_frozen HR.out eoL u1
      obtain ⟨-, a2, cc2, hu2, -⟩ := HY.out
      subst hu2
      repeat still_step
      refine wpStill_nil ?_
      go_wp2
      go_roundw
      case rel =>
        refine ⟨j + 1, vj.set u1 (.slice (some a2) 64 cc2), by omega, by go_num, ?_, ?_, ?_⟩
        · have h3 := HR.out
          rw [eL] at h3 ⊢
          exact own_set (w := wr.drew) h3 u1 (by have := HH.out.ok.len; omega) _
        · rw [HN.out]
          intro i v s h3 h4
          rw [List.getElem?_set] at h3 h4
          split at h3
          · rename_i e
            rw [if_pos e] at h4
            split at h3
            · split at h4
              · injection h3 with h3; injection h4 with h4; subst h3; subst h4; exact HY.out
              · cases h4
            · cases h3
          · rename_i e
            rw [if_neg e] at h4
            exact HSC.out i v s h3 h4
        · exact (HT.out.drew).setCell _ _ (fun _ => eoL)
      case measure => simp [intOf]; omega
    · have hj2 : j = us.length := by omega
      rw [List.take_of_length_le (by omega)] at HSC
      have HE := Lib.hid ht
      clear ht kL kW
      go_wp2
      first | go_ret | (refine bodyPost_ret (results_none rfl _ _ _) rfl ?_) | (refine bodyPost_ret (results_tmp rfl _ _ _) rfl ?_)
      have T0 : Turn (fun k => k = g ∨ Lv.ownBlock = some k) w (wr.setCell ⟨g, 1, none⟩ (.slice none 0 0)) :=
        ((HT1.out.mono (fun _ _ e => .inl e)).trans HE.out (fun _ _ e => .inr e)).setCell _ _ (fun _ => .inl rfl)
      have ho3 : d.burn.off = false := by simp [Dr.burn, ho', t1]
      refine ⟨rfl, ⟨_, _, _, _, rmem_landed HH.out (HH.out.ok.burn.land []) rfl ?_ ?_ ?_ HSC.out T0⟩, T0.mono fun i _ e => e.elim (fun e => by subst e; exact HH.out.ownG) (HH.out.ownL i)⟩
      · have := HH.out.fz; simp only [Dr.land, Dr.burn]; omega
      · have := HBR.out.setW (.slice none 0 0)
        simpa [Dr.land, Dr.burn, ho', t1] using this
      · exact own_turn ((Turn.refl (fun k => k = g) wr).setCell ⟨g, 1, none⟩ _ (fun _ => rfl)) HR.out (fun k hk e => by subst e; exact HH.out.neL hk)
end Go.Proofs.Ytodeblffnbbcaaa
