/- The document's drum: Read. -/
import Derived.Test.YtodeblffnbbcaaaDrC
set_option linter.unusedVariables false
namespace Go.Proofs.Ytodeblffnbbcaaa
open Go.RowKit
theorem nowS_snoc (k : Nat) (b : Sec) (W : List (Nat × Sec)) (i : Nat) (h : i < W.length) : nowS k b (W.take (i + 1)) = if W[i].1 = k then W[i].2 else nowS k b (W.take i) := by
  rw [List.take_succ_eq_append_getElem h, nowS, List.foldl_append]; rfl
set_option maxRecDepth 100000 in
theorem rread_any (g : Nat) (Lv Wv : Value) (vs : List Value) (us : List (Nat × Value)) (d : Dr) (D : Nat → Prop) (a : Int) (w : World) (h : RMem w g Lv Wv vs us d D) :
    Calls Try.prog 19 #[.pointer (some ⟨g, 0, none⟩), .int .i64 a] w fun r w' => ∃ v, r = .returned (.tuple #[v, .int .i64 (d.readE a : Int)]) ∧ w'.ownsRow w.heap.size 5 1 v (d.readV a).length ((d.readV a).map bv) ∧ Turn (fun _ => False) w w' := by
  obtain ⟨c0, c1, c2, c3, z0, z1, z2, z3⟩ := h.box.cells
  have HH := Lib.hid h
  obtain ⟨AL, cL, eL, kL⟩ := own_cells h.rowL
  obtain ⟨AW, cW, eW, kW⟩ := own_cells h.rowW
  rw [eL] at c0
  rw [eW] at c1
  have hn := h.ok.len
  have hsm := h.small
  have hfew := h.few
  clear h
  have err : ∀ (x : Nat), d.readE a = x → x ≠ 0 → Calls Try.prog 19 #[.pointer (some ⟨g, 0, none⟩), .int .i64 a] w (fun r w' => r = .returned (.tuple #[.slice none 0 0, .int .i64 (x : Int)]) ∧ w' = w) →
      Calls Try.prog 19 #[.pointer (some ⟨g, 0, none⟩), .int .i64 a] w fun r w' => ∃ v, r = .returned (.tuple #[v, .int .i64 (d.readE a : Int)]) ∧ w'.ownsRow w.heap.size 5 1 v (d.readV a).length ((d.readV a).map bv) ∧ Turn (fun _ => False) w w' := by
    intro x hx hx0 hc
    refine hc.mono ?_
    rintro r w' ⟨rfl, hw⟩
    subst hw
    have e : d.readV a = [] := by unfold Dr.readV; rw [if_neg (by omega)]
    rw [e, hx]
    exact ⟨_, rfl, World.ownsRow_nil _ _ _ _, Turn.refl _ _⟩
  by_cases ho : d.off = true
  · rw [ho] at c3
    refine err 21 (by unfold Dr.readE; rw [if_pos ho]) (by decide) ?_
    clear err kL kW
    go_enter Try.func19, Try.ntmps19
    go_wp2
    refine bodyPost_ret (results_tmp2 rfl _ _ _) rfl ?_
    exact ⟨rfl, rfl⟩
  have ho' : d.off = false := by simpa using ho
  rw [ho'] at c3
  by_cases ha : a < 0
  · refine err 5 (by unfold Dr.readE; rw [if_neg ho, if_neg (by omega)]) (by decide) ?_
    clear err kL kW
    go_enter Try.func19, Try.ntmps19
    go_wp2
    refine bodyPost_ret (results_tmp2 rfl _ _ _) rfl ?_
    exact ⟨rfl, rfl⟩
  by_cases hb : (vs.length : Int) ≤ a
  · have da : decide (a < 0) = false := decide_eq_false ha
    have db : decide ((vs.length : Int) ≤ a) = true := decide_eq_true hb
    refine err 5 (by unfold Dr.readE; rw [if_neg ho, if_neg (by omega)]) (by decide) ?_
    clear err kL kW ha hb
    go_enter Try.func19, Try.ntmps19
    go_wp2
    refine bodyPost_ret (results_tmp2 rfl _ _ _) rfl ?_
    exact ⟨rfl, rfl⟩
  clear err
  obtain ⟨k, rfl⟩ : ∃ k : Nat, a = (k : Int) := ⟨a.toNat, by omega⟩
  have hk : k < vs.length := by omega
  have e0 : d.readE (k : Int) = 0 := by unfold Dr.readE; rw [if_neg ho, if_pos (by omega)]
  have eV : d.readV (k : Int) = nowS k (d.L.getD k []) d.W := by unfold Dr.readV; rw [if_pos e0]; rfl
  rw [e0, eV]
  obtain ⟨gL, rfl, eo, cl⟩ := kL k vs[k] (by simp [hk])
  have da : decide ((k : Int) < 0) = false := decide_eq_false (by omega)
  have db : decide ((vs.length : Int) ≤ (k : Int)) = false := decide_eq_false (by omega)
  have hkL : k < d.L.length := by omega
  have hsec := HH.out.secL k vs[k] d.L[k] (by simp [hk]) (by simp [hkL])
  have HS := Lib.hid hsec
  have hv : ∃ v0, vs[k] = v0 := ⟨_, rfl⟩
  obtain ⟨v0, hv0⟩ := hv
  rw [hv0] at cl HS
  clear hsec hv0 da db ha hb
  have hwl := HH.out.wlen
  have hget : d.L.getD k [] = d.L[k] := by rw [List.getD_eq_getElem?_getD, List.getElem?_eq_getElem hkL]; rfl
  rw [hget]
  generalize hs0 : d.L[k] = s0 at *
  clear hs0 hget
  go_enter Try.func19, Try.ntmps19
  go_wp2
  go_loopw [6, 7] (fun b i wr => ∃ j : Nat, j ≤ us.length ∧ i = .int .i64 j ∧ SecV w (fun k => k = g ∨ Lv.ownBlock = some k ∨ Wv.ownBlock = some k) D b (nowS k s0 (d.W.take j)) ∧ wr = w) (fun _ i _ => us.length - (intOf i).toNat)
  case atStart => exact ⟨0, Nat.zero_le _, rfl, by rw [List.take_zero]; exact HS.out, rfl⟩
  case round =>
    obtain ⟨j, hj, rfl, hb, rfl⟩ := hrel
    have HB := Lib.hid hb
    by_cases hlt : j < us.length
    · have hltW : j < d.W.length := by omega
      obtain ⟨x1, x2⟩ := waitV_at us j us[j] (by simp [hlt])
      obtain ⟨gW, rfl, eoW, cw0⟩ := kW _ _ x1
      obtain ⟨gW', hg', -, cw1⟩ := kW _ _ x2
      obtain rfl : gW = gW' := by injection hg' with hg'; injection hg'
      obtain ⟨y1, y2⟩ := HH.out.secW j us[j] d.W[j] (by simp [hlt]) (by simp [hltW])
      have HY := Lib.hid y2
      have HN := Lib.hid (nowS_snoc k s0 d.W j hltW)
      clear hb x1 x2 kW y2
      generalize us[j] = u at *
      generalize d.W[j] = x at *
      obtain ⟨u1, u2⟩ := u
      obtain ⟨x1, x2⟩ := x
      dsimp only at y1 HY cw0 cw1 HN
      subst y1
      by_cases hk1 : u1 = k
      · rw [if_pos hk1] at HN
        have HK := Lib.hid hk1
        go_wp2
        refine ⟨⟨j + 1, by omega, by go_num, by rw [HN.out]; exact HY.out, trivial⟩, ?_⟩
        simp [intOf]; omega
      · rw [if_neg hk1] at HN
        have hk2 : ¬ ((u1 : Int) = (k : Int)) := by omega
        go_wp2
        refine ⟨⟨j + 1, by omega, by go_num, by rw [HN.out]; exact HB.out, trivial⟩, ?_⟩
        simp [intOf]; omega
    · obtain ⟨i0, hi, hz0, hz1, hz2⟩ := info_parts info_u8
      rw [List.take_of_length_le (by omega)] at hb
      obtain ⟨hl64, ad, c, rfl, hc, -, -, hbs⟩ := hb
      have HBS := Lib.hid hbs
      have HL := Lib.hid hl64
      clear hbs hl64 HB
      generalize hs1 : nowS k s0 d.W = s1 at *
      have HS1 := Lib.hid hs1
      clear hs1
      go_upto_region 11 with fail
      go_step
      iterate 6 go_step
      have ho := own_new wr wr.heap.size 5 [] 0 rfl (Nat.le_refl _) (by unfold maxLen; omega)
      have hb1 : Below wr.heap.size wr (wr.alloc (.cells ([] : List Value).toArray 5)) := (Below.refl _ _).alloc (Nat.le_refl _) _
      refine wpList_append_any (o := ⟨some 59, _, _, _, _, _⟩) rfl _ _ 28 rfl wr.heap.size 5 i0 (.int .u8 0) 1 Try.underlying28 hi hz0 hz1 hz2 rfl _ 0 _ rfl ho (some ad) 64 c (s1.map bv) rfl (fun h => by cases h) (by rw [List.length_map]; exact HL.out) ?_ (bv_one s1) ?_ ?_ ?_ ?_
      · intro j u hu
        exact ⟨ad, rfl, (hb1.cell (World.block_lt_of_cell? wr _ (HBS.out j u hu))).trans (HBS.out j u hu)⟩
      · unfold maxLen; omega
      · omega
      · simp
      intro v' w' hown hgr
      go_wp2
      refine bodyPost_ret (results_tmp2 rfl _ _ _) rfl ?_
      refine ⟨_, rfl, by rw [HS1.out, HL.out]; simpa using hown, ((Turn.refl _ _).alloc _).grown hgr (fun i hi e => ?_)⟩
      injection e with e; simp at e; omega
end Go.Proofs.Ytodeblffnbbcaaa
