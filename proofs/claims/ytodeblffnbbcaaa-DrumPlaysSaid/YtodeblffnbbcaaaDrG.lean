/- The document's drum: Start. -/
import Derived.Test.YtodeblffnbbcaaaDrF
set_option linter.unusedVariables false
namespace Go.Proofs.Ytodeblffnbbcaaa
open Go.RowKit
theorem lsb255 (k : Nat) (h : k < 8) : (255 : B8).getLsbD k = true := by
  have hj : k = 0 ∨ k = 1 ∨ k = 2 ∨ k = 3 ∨ k = 4 ∨ k = 5 ∨ k = 6 ∨ k = 7 := by omega
  rcases hj with rfl | rfl | rfl | rfl | rfl | rfl | rfl | rfl <;> rfl
theorem bit_int (x : B8) (n : Nat) : (((x.toNat : Int) / 2 ^ n).tmod 2 == 1) = x.getLsbD n := by
  have e : ((x.toNat : Int) / 2 ^ n) = ((x.toNat / 2 ^ n : Nat) : Int) := by push_cast; rfl
  rw [e, Int.tmod_eq_emod_of_nonneg (Int.natCast_nonneg _), BitVec.getLsbD, Nat.testBit_eq_decide_div_mod_eq]
  generalize x.toNat / 2 ^ n = q
  by_cases h : q % 2 = 1
  · rw [decide_eq_true h, beq_iff_eq]; omega
  · rw [decide_eq_false h, beq_eq_false_iff_ne]; omega
theorem mix_yes (T s : Sec) (m : Nat) (hT : T.length = 64) (hs : s.length = 64) (hm : m < 64) (x : B8) (hx : T[m]? = some x) : ((T.take m ++ s.drop m).map bv).set m (bv x) = (T.take (m + 1) ++ s.drop (m + 1)).map bv := by
  rw [List.take_add_one, hx, List.drop_eq_getElem_cons (by omega : m < s.length)]
  simp only [List.map_append, List.map_cons, Option.toList, List.append_assoc, List.cons_append, List.nil_append]
  rw [List.set_append_right _ _ (by simp; omega)]
  simp [hT, Nat.min_eq_left (by omega : m ≤ 64)]
theorem mix_no (T s : Sec) (m : Nat) (hs : s.length = 64) (hm : m < 64) (hx : T[m]? = s[m]?) : T.take (m + 1) ++ s.drop (m + 1) = T.take m ++ s.drop m := by
  rw [List.take_add_one, hx, List.getElem?_eq_getElem (by omega), List.drop_eq_getElem_cons (by omega : m < s.length)]
  simp
theorem land_step {L : List Sec} {W : List (Nat × Sec)} {M : List B8} {j : Nat} (hj : j < W.length) : landL L (W.take (j + 1)) M = (landL L (W.take j) M).set W[j].1 (tornS ((landL L (W.take j) M).getD W[j].1 []) W[j].2 (M.getD j 255)) := by
  rw [List.take_succ_eq_append_getElem hj, landL_snoc, List.length_take, Nat.min_eq_left (by omega)]
/-- The blocks of D, and those made since w. -/
def Dn (D : Nat → Prop) (w w' : World) : Nat → Prop := fun k => D k ∨ (w.heap.size ≤ k ∧ k < w'.heap.size)
theorem rmem_landed2 {w w' : World} {g : Nat} {Lv Wv : Value} {vs vj : List Value} {us : List (Nat × Value)} {d d' : Dr} {D D' : Nat → Prop} (h : RMem w g Lv Wv vs us d D) (ok : d'.Ok vs.length) (hW : d'.W = []) (hf : d'.fuse < 9223372036854775808)
    (hb : RBox w' g Lv (.slice none 0 0) d'.fuse d'.off) (hr : w'.ownsRow 0 28 1 Lv vs.length vj)
    (hsec : ∀ (i : Nat) (v : Value) (s : Sec), vj[i]? = some v → d'.L[i]? = some s → SecV w' (fun k => k = g ∨ Lv.ownBlock = some k ∨ (Value.slice none 0 0).ownBlock = some k) D' v s)
    (hD : ∀ k, D k → D' k) (hlt : ∀ k, D' k → k < w'.heap.size) : RMem w' g Lv (.slice none 0 0) vj [] d' D' := by
  have e : vj.length = vs.length := by simpa using hr.1
  exact ⟨hb, hf, by rw [e]; exact ok, by rw [e]; exact h.small, by rw [e]; exact hr, ⟨rfl, .inl ⟨rfl, rfl⟩⟩, by rw [hW]; rfl, by simp, hsec, fun i u x h1 _ => by simp at h1, h.neL, (fun e => by cases e), (fun k _ e => by cases e), hD _ h.ownG, fun k hk => hD _ (h.ownL k hk), (fun k e => by cases e), hlt⟩
set_option maxHeartbeats 4000000 in
set_option maxRecDepth 100000 in
theorem rstart_any (g : Nat) (Lv Wv : Value) (vs : List Value) (us : List (Nat × Value)) (d : Dr) (D : Nat → Prop) (Am : Option Addr) (cm : Nat) (M : List B8) (w : World) (h : RMem w g Lv Wv vs us d D) (hM : SlN w D Am (M.map bv)) (hMl : M.length ≤ maxLen) :
    Calls Try.prog 17 #[.pointer (some ⟨g, 0, none⟩), .slice Am M.length cm] w fun r w' => r = .returned (.tuple #[]) ∧ (∃ Lv' Wv' vs' us', RMem w' g Lv' Wv' vs' us' (d.start M) (Dn D w w')) ∧ Turn D w w' := by
  have HH := Lib.hid h
  obtain ⟨AL, cL, eL, kL⟩ := own_cells h.rowL
  obtain ⟨AW, cW, eW, kW⟩ := own_cells h.rowW
  have hn := h.ok.len
  have hsm := h.small
  have hfew := h.few
  have hwl := h.wlen
  have HM := Lib.hid hM
  unfold maxLen at hMl
  clear h hM
  go_enter Try.func17, Try.ntmps17
  go_upto_region 1 with fail
  go_loopw [4, 5, 6] (fun i b k wr => ∃ (j : Nat) (vj : List Value), j ≤ us.length ∧ i = .int .i64 j ∧ wr.ownsRow 0 28 1 Lv vs.length vj ∧
    (∀ (i : Nat) (v : Value) (s : Sec), vj[i]? = some v → (landL d.L (d.W.take j) M)[i]? = some s → SecV wr (fun k => k = g ∨ Lv.ownBlock = some k ∨ Wv.ownBlock = some k) (Dn D w wr) v s) ∧ Turn (fun k => Lv.ownBlock = some k) w wr) (fun i _ _ _ => us.length - (intOf i).toNat)
  case atStart => exact ⟨0, vs, Nat.zero_le _, rfl, HH.out.rowL, by rw [List.take_zero]; exact fun i v s h1 h2 => (HH.out.secL i v s h1 h2).turn (Turn.refl (fun _ => False) w) (fun _ h => h.elim) (fun _ _ h => h) (fun _ h => .inl h), Turn.refl _ _⟩
  case round =>
    obtain ⟨j, vj, hj, rfl, hr, hsec, ht⟩ := hrel
    have HR := Lib.hid hr
    have HSC := Lib.hid hsec
    have HT := Lib.hid ht
    have hbr := HH.out.box.turn ht HH.out.neL
    obtain ⟨c0, c1, c2, c3, z0, z1, z2, z3⟩ := hbr.cells
    rw [eL] at c0
    rw [eW] at c1
    have HBR := Lib.hid hbr
    clear hr hsec hbr
    by_cases hlt : j < us.length
    · have hltW : j < d.W.length := by omega
      obtain ⟨x1, x2⟩ := waitV_at us j us[j] (by simp [hlt])
      obtain ⟨gW, rfl, eoW, pw0⟩ := kW _ _ x1
      obtain ⟨gW', hg', -, pw1⟩ := kW _ _ x2
      obtain rfl : gW = gW' := by injection hg' with hg'; injection hg'
      have cw0 := ht.cell pw0 (fun e => HH.out.ne _ e eoW)
      clear pw0
      have cw1 := ht.cell pw1 (fun e => HH.out.ne _ e eoW)
      clear pw1
      obtain ⟨y1, y2⟩ := HH.out.secW j us[j] d.W[j] (by simp [hlt]) (by simp [hltW])
      obtain ⟨q1, q2⟩ := HH.out.ok.wait d.W[j] (by simp)
      have HY := Lib.hid (y2.turn (D' := Dn D w wr) ht (fun k hs hn _ => hn (.inr (.inl hs))) (fun _ _ h => h) (fun _ h => .inl h))
      have HN := Lib.hid (land_step (L := d.L) (M := M) hltW)
      clear x1 x2 kW y2 ht
      generalize us[j] = u at *
      generalize d.W[j] = x at *
      obtain ⟨u1, u2⟩ := u
      obtain ⟨x1, x2⟩ := x
      dsimp only at y1 HY cw0 cw1 HN q1
      subst y1
      have cw0 : wr.cell? ⟨gW, j * 2, none⟩ = some (.int .i64 (u1 : Int)) := cw0
      have hlL : (landL d.L (d.W.take j) M).length = vs.length := by rw [landL_len, hn]
      have hv9 : u1 < vj.length := by have := HR.out.1; omega
      obtain ⟨v9, hv9⟩ : ∃ v9, vj[u1]? = some v9 := ⟨_, List.getElem?_eq_getElem hv9⟩
      obtain ⟨s9, hs9⟩ : ∃ s9, (landL d.L (d.W.take j) M)[u1]? = some s9 := ⟨_, List.getElem?_eq_getElem (by omega)⟩
      have hg9 : (landL d.L (d.W.take j) M).getD u1 [] = s9 := by rw [List.getD_eq_getElem?_getD, hs9]; rfl
      rw [hg9] at HN
      obtain ⟨hl9, a9, c9, rfl, hc9, hn9, hd9, hb9⟩ := HSC.out u1 v9 s9 hv9 hs9
      obtain ⟨hl2, a2, c2', rfl, hc2, hn2, hd2, hb2⟩ := HY.out
      have HB9 := Lib.hid hb9
      have HB2 := Lib.hid hb2
      obtain ⟨AL', cL', eL', kL'⟩ := own_cells HR.out
      obtain ⟨gL, hAL, eoL, cl⟩ := kL' _ _ hv9
      rw [eL] at eL'
      injection eL' with e5 _ e6
      subst e5; subst e6; subst hAL
      clear kL' hv9 hs9 hg9 hb9 hb2 kL
      go_upto_region 3 with fail
      obtain ⟨wb, hwb⟩ : ∃ wb, wb = wr := ⟨_, rfl⟩
      refine wp_region_rel_tail 16 88 (by kernel_rfl) (by kernel_rfl) Stp [.rel (Box0 wr.heap.size), .one ?_, .one ?_, .one ?_, .one ?_, .one ?_, .one ?_, .one ?_, .one ?_, .one ?_, .one ?_, .one ?_, .one ?_, .one ?_, .one ?_, .rel (Copy wr.heap.size s9)] (by kernel_rfl) rfl (by kernel_rfl) Stp.refl Stp.trans ⟨Box0.stable _, Copy.stable _ _, trivial⟩ ?main
      case main =>
      simp only [List.take_succ_cons, List.take_zero, List.drop_succ_cons, List.drop_zero]
      refine wpR_rel (A' := ?_) (by rfl) ?_ ?_ ?_
      · intro w1 hs hf
        exact does_build0 (by kernel_rfl) ⟨⟨_, show wr.drew.heap.size ≤ w1.heap.size from Below.size hs, rfl, heap_alloc_new _ _⟩, (Below.refl _ _).alloc (Nat.le_refl _) _⟩
      rotate_left 1
      · intro x
        simp only [Act.put, List.setIfInBounds_toArray, List.set_cons_zero, List.set_cons_succ]; rfl
      intro x16
      iterate 3
        refine wpR_one (A' := ?_) Stp.refl (by rfl) _ rfl 88 (by rfl) (by rfl) ?_ ?_ ?_
        rotate_left 1
        · simp only [Act.put, List.setIfInBounds_toArray, List.set_cons_zero, List.set_cons_succ]; rfl
        · intro w1 hs hf K hK
          go_big_quiet_op
          first
            | go_big_quiet_on
            | (refine ⟨_, fun _ _ => rfl, ?_⟩; go_big_quiet_on)
          rfl
      refine wpR_one (A' := ?_) Stp.refl (by rfl) _ rfl 88 (by rfl) (by rfl) ?_ ?_ ?_
      rotate_left 1
      · simp only [Act.put, List.setIfInBounds_toArray, List.set_cons_zero, List.set_cons_succ]; rfl
      · intro w1 hs hf K hK
        refine cls_load_cell 37 (.tmp 19) rfl ⟨g, 0, none⟩ rfl (.slice (some ⟨gL, 0, none⟩) vs.length cL) (fun w h => by simp [go_sem, h]) (fun w2 h2 => cell_stp (w := wr.drew) c0 (Stp.trans _ _ _ hs h2)) ?_
        refine hK _ ?_
        simp only [Act.put, List.setIfInBounds_toArray, List.set_cons_zero, List.set_cons_succ]
        rfl
      iterate 3
        refine wpR_one (A' := ?_) Stp.refl (by rfl) _ rfl 88 (by rfl) (by rfl) ?_ ?_ ?_
        rotate_left 1
        · simp only [Act.put, List.setIfInBounds_toArray, List.set_cons_zero, List.set_cons_succ]; rfl
        · intro w1 hs hf K hK
          go_big_quiet_op
          first
            | go_big_quiet_on
            | (refine ⟨_, fun _ _ => rfl, ?_⟩; go_big_quiet_on)
          rfl
      refine wpR_one (A' := ?_) Stp.refl (by rfl) _ rfl 88 (by rfl) (by rfl) ?_ ?_ ?_
      rotate_left 1
      · simp only [Act.put, List.setIfInBounds_toArray, List.set_cons_zero, List.set_cons_succ]; rfl
      · intro w1 hs hf K hK
        refine cls_load_cell 38 (.tmp 23) rfl ⟨g, 1, none⟩ rfl (.slice (some ⟨gW, 0, none⟩) us.length cW) (fun w h => by simp [go_sem, h]) (fun w2 h2 => cell_stp (w := wr.drew) c1 (Stp.trans _ _ _ hs h2)) ?_
        refine hK _ ?_
        simp only [Act.put, List.setIfInBounds_toArray, List.set_cons_zero, List.set_cons_succ]
        rfl
      iterate 3
        refine wpR_one (A' := ?_) Stp.refl (by rfl) _ rfl 88 (by rfl) (by rfl) ?_ ?_ ?_
        rotate_left 1
        · simp only [Act.put, List.setIfInBounds_toArray, List.set_cons_zero, List.set_cons_succ]; rfl
        · intro w1 hs hf K hK
          go_big_quiet_op
          first
            | go_big_quiet_on
            | (refine ⟨_, fun _ _ => rfl, ?_⟩; go_big_quiet_on)
          rfl
      refine wpR_one (A' := ?_) Stp.refl (by rfl) _ rfl 88 (by rfl) (by rfl) ?_ ?_ ?_
      rotate_left 1
      · simp only [Act.put, List.setIfInBounds_toArray, List.set_cons_zero, List.set_cons_succ]; rfl
      · intro w1 hs hf K hK
        refine cls_load_cell 3 (.tmp 27) rfl ⟨gW, j * 2, none⟩ rfl (.int .i64 (u1 : Int)) (fun w h => by simp [go_sem, h]) (fun w2 h2 => cell_stp (w := wr.drew) cw0 (Stp.trans _ _ _ hs h2)) ?_
        refine hK _ ?_
        simp only [Act.put, List.setIfInBounds_toArray, List.set_cons_zero, List.set_cons_succ]
        rfl
      iterate 1
        refine wpR_one (A' := ?_) Stp.refl (by rfl) _ rfl 88 (by rfl) (by rfl) ?_ ?_ ?_
        rotate_left 1
        · simp only [Act.put, List.setIfInBounds_toArray, List.set_cons_zero, List.set_cons_succ]; rfl
        · intro w1 hs hf K hK
          go_big_quiet_op
          first
            | go_big_quiet_on
            | (refine ⟨_, fun _ _ => rfl, ?_⟩; go_big_quiet_on)
          rfl
      refine wpR_one (A' := ?_) Stp.refl (by rfl) _ rfl 88 (by rfl) (by rfl) ?_ ?_ ?_
      rotate_left 1
      · simp only [Act.put, List.setIfInBounds_toArray, List.set_cons_zero, List.set_cons_succ]; rfl
      · intro w1 hs hf K hK
        refine cls_load_cell 28 (.tmp 29) rfl ⟨gL, u1, none⟩ rfl (.slice (some a9) 64 c9) (fun w h => by simp [go_sem, h]) (fun w2 h2 => cell_stp (w := wr.drew) cl (Stp.trans _ _ _ hs h2)) ?_
        refine hK _ ?_
        simp only [Act.put, List.setIfInBounds_toArray, List.set_cons_zero, List.set_cons_succ]
        rfl
      refine wpR_rel (A' := ?_) (by rfl) ?_ ?_ ?_
      · intro w1 hs hf
        obtain ⟨v', w', hr, h3, h4⟩ := append0 28 wr.heap.size w1 x16 (AllF_at hf 0 rfl (by kernel_rfl)) (show wr.drew.heap.size ≤ w1.heap.size from Below.size hs) a9 c9 s9 hl9 (fun j u hu => cell_stp (w := wr.drew) (HB9.out j u hu) hs)
        exact does_append _ _ _ _ _ v' rfl rfl rfl hr ⟨h3, h4⟩
      rotate_left 1
      · intro x
        simp only [Act.put, List.setIfInBounds_toArray, List.set_cons_zero, List.set_cons_succ]; rfl
      intro x31
      intro w9 hs hf
      obtain ⟨⟨gb, cb, hB, rfl, hcb, hob⟩, -, -⟩ := hf
      have hsz9 : wr.heap.size ≤ w9.heap.size := show wr.drew.heap.size ≤ _ from Below.size hs
      have HB := Lib.hid (show Below wr.heap.size wr w9 from (Below.refl _ _).drew.trans hs)
      have HO := Lib.hid hob
      have d0 := cell_stp (w := wr.drew) c0 hs
      have d1 := cell_stp (w := wr.drew) c1 hs
      have dw0 := cell_stp (w := wr.drew) cw0 hs
      have dw1 := cell_stp (w := wr.drew) cw1 hs
      have dl := cell_stp (w := wr.drew) cl hs
      have D2 := Lib.hid (fun j u hu => cell_stp (w := wr.drew) (HB2.out j u hu) hs)
      have hgg : gb ≠ g := by have := HBR.out.lt; omega
      have hgW : gb ≠ gW := by have := World.block_lt_of_cell? wr _ cw0; simp at this; omega
      have hg2 : gb ≠ a2.block := by
        have := World.block_lt_of_cell? wr _ (HB2.out 0 (bv x2[0]) (bvs_at x2 0 (by omega)))
        rw [add_block] at this; omega
      clear c0 c1 c2 c3 z0 z1 z2 z3 cw0 cw1 cl hs hob hcb
      obtain ⟨mk, hmk⟩ : ∃ mk, mk = M.getD j 255 := ⟨_, rfl⟩
      have HMK := Lib.hid hmk
      rw [← hmk] at HN
      clear hmk
      obtain ⟨wo, ewo⟩ : ∃ wo, wo = wr := ⟨_, rfl⟩
      subst ewo
      go_upto_region 5 with fail
      go_loopw [6] (fun k w2 => ∃ m : Nat, m ≤ 64 ∧ k = .int .i64 m ∧ w2.ownsRow wo.heap.size 5 1 (.slice (some ⟨gb, 0, none⟩) 64 cb) 64 (((tornS s9 x2 mk).take m ++ s9.drop m).map bv) ∧ Turn (fun q => q = gb) w9 w2) (fun k _ => 64 - (intOf k).toNat)
      case atStart => exact ⟨0, Nat.zero_le _, rfl, by simpa using HO.out, Turn.refl _ _⟩
      case round =>
        obtain ⟨m, hm, rfl, ho, ht⟩ := hrel
        have HO2 := Lib.hid ho
        have HT2 := Lib.hid ht
        by_cases hm6 : m < 64
        · have e0 := ht.cell d0 (by exact fun e => hgg e.symm)
          have e1 := ht.cell d1 (by exact fun e => hgg e.symm)
          have ew0 := ht.cell dw0 (by exact fun e => hgW e.symm)
          have ew1 := ht.cell dw1 (by exact fun e => hgW e.symm)
          have eb := ht.cell (D2.out m (bv x2[m]) (bvs_at x2 m (by omega))) (by rw [add_block]; exact fun e => hg2 e.symm)
          clear ho ht
          obtain ⟨v8, hv8⟩ : ∃ v8, (((tornS s9 x2 mk).take m ++ s9.drop m).map bv)[m]? = some v8 := ⟨_, List.getElem?_eq_getElem (by simp [tornS_len]; omega)⟩
          obtain ⟨A8, C8, e8, k8⟩ := own_cells HO2.out
          obtain ⟨g8, hA8, eo8, eo⟩ := k8 _ _ hv8
          injection e8 with e8a e8b e8c
          subst e8a; subst e8c
          injection hA8 with hA8; injection hA8 with hA8
          subst hA8
          have ez := own_frozen HO2.out (g := gb) rfl m
          clear k8 hv8 eo8
          have h2m : x2[m]? = some x2[m] := List.getElem?_eq_getElem (by omega)
          have h9m : s9[m]? = some s9[m] := List.getElem?_eq_getElem (by omega)
          have hT := tornS_at s9 x2 mk m hm6
          have g2 : x2.getD m 0 = x2[m] := by rw [List.getD_eq_getElem?_getD, h2m]; rfl
          have g9 : s9.getD m 0 = s9[m] := by rw [List.getD_eq_getElem?_getD, h9m]; rfl
          rw [g2, g9] at hT
          have HY2 := Lib.hid (fun (hb : mk.getLsbD (m / 8) = true) => mix_yes (tornS s9 x2 mk) s9 m (tornS_len _ _ _) hl9 hm6 x2[m] (by rw [hT, if_pos hb]))
          have HN2 := Lib.hid (fun (hb : mk.getLsbD (m / 8) = false) => mix_no (tornS s9 x2 mk) s9 m hl9 hm6 (by rw [hT, h9m, if_neg (by simp [hb])]))
          clear hT g2 g9 h2m h9m
          generalize x2[m] = b2 at *
          unfold bv at eb
          by_cases hjM : M.length ≤ j
          · have hm1 : mk.getLsbD (m / 8) = true := by
              rw [HMK.out, List.getD_eq_getElem?_getD, List.getElem?_eq_none hjM]
              exact lsb255 _ (by omega)
            have HY3 := Lib.hid (HY2.out hm1)
            have dM : decide ((M.length : Int) ≤ (j : Int)) = true := decide_eq_true (by omega)
            clear HY2 HN2 hm1
            go_wp2
            go_roundw
            case rel =>
              refine ⟨m + 1, by omega, by go_num, ?_, HT2.out.setCell _ _ (fun _ => rfl)⟩
              rw [← HY3.out]
              exact own_set HO2.out m hm6 _
            case measure => simp [intOf]; omega
          · have hjl : j < M.length := by omega
            obtain ⟨am, rfl, hnm, hcm⟩ := HM.out.at (bvs_at M j hjl)
            have hltm := World.block_lt_of_cell? w _ hcm
            rw [add_block] at hltm
            have em := HT2.out.cell (HB.out.cell (show (am.add j).block < _ from by rw [add_block]; exact Nat.lt_of_lt_of_le hltm HT.out.size) |>.trans (HT.out.cell hcm (by rw [add_block]; exact fun e => hnm (HH.out.ownL _ e)))) (by rw [add_block]; exact fun e => by have := HT.out.size; omega)
            have hmk : mk = M[j] := by rw [HMK.out, List.getD_eq_getElem?_getD, List.getElem?_eq_getElem hjl]; rfl
            rw [← hmk] at em
            unfold bv at em
            have dM : decide ((M.length : Int) ≤ (j : Int)) = false := decide_eq_false (by omega)
            clear hcm hmk
            go_wp2
            · rename_i hc
              rw [bit_int] at hc
              refine ⟨⟨m + 1, by omega, by go_num, ?_, HT2.out.setCell _ _ (fun _ => rfl)⟩, by simp [intOf]; omega⟩
              rw [← HY2.out hc]
              exact own_set HO2.out m hm6 _
            · rename_i hc
              rw [bit_int] at hc
              refine ⟨⟨m + 1, by omega, by go_num, ?_, HT2.out⟩, by simp [intOf]; omega⟩
              rw [HN2.out hc]
              exact HO2.out
        · have hm64 : m = 64 := by omega
          have hT64 : (tornS s9 x2 mk).take m ++ s9.drop m = tornS s9 x2 mk := by
            rw [List.take_of_length_le (by rw [tornS_len]; omega), List.drop_of_length_le (by omega), List.append_nil]
          rw [hT64] at HO2
          have hb2 : Turn (fun _ => False) wo wr := (Turn.of_below HB.out).trans HT2.out (fun i hi e => by have e : i = gb := e; omega)
          have HTT := Lib.hid hb2
          have HOL := Lib.hid (own_turn hb2 HR.out (fun _ _ h => h))
          have HZL := Lib.hid (own_frozen HOL.out eoL u1)
          have f0 := ht.cell d0 (by exact fun e => hgg e.symm)
          have f1 := ht.cell d1 (by exact fun e => hgg e.symm)
          have fw0 := ht.cell dw0 (by exact fun e => hgW e.symm)
          have hgL : gb ≠ gL := by
            rintro rfl
            have h1 := HH.out.lt _ (HH.out.ownL _ eoL)
            have := HT.out.size; omega
          have fl := ht.cell dl (by exact fun e => hgL e.symm)
          clear ho ht hT64 hb2 d0 d1 dw0 dw1 dl
          go_upto_region 9 with fail
          refine wp_region_still_tail 14 (by kernel_rfl) (by kernel_rfl) ?_
          simp only [List.take_succ_cons, List.take_zero, List.drop_succ_cons, List.drop_zero]
          change wpStill _ _ wr.drew (fun a' => wpList _ _ _ _ a' wr.drew) _ _
          have e0 : wr.drew.cell? _ = _ := f0
          have e1 : wr.drew.cell? _ = _ := f1
          have el : wr.drew.cell? _ = _ := fl
          have ew0 : wr.drew.cell? _ = _ := fw0
          have ez : wr.drew.frozen? ⟨gL, u1, none⟩ = false := HZL.out
          clear f0 f1 fl fw0
          repeat still_step
          refine wpStill_nil ?_
          go_wp2
          go_roundw
          case rel =>
            have TT : Turn (fun k => Lv.ownBlock = some k) wo (wr.drew.setCell ⟨gL, u1, none⟩ (.slice (some ⟨gb, 0, none⟩) 64 cb)) := ((HTT.out.mono (fun _ _ h => h.elim)).drew).setCell _ _ (fun _ => eoL)
            refine ⟨j + 1, vj.set u1 (.slice (some ⟨gb, 0, none⟩) 64 cb), by omega, by go_num, ?_, ?_, HT.out.trans TT (fun _ _ h => h)⟩
            · have h3 := HOL.out
              rw [eL] at h3 ⊢
              exact own_set (w := wr.drew) h3 u1 (by have := HR.out.1; omega) _
            · rw [HN.out]
              intro i v s h3 h4
              rw [List.getElem?_set] at h3 h4
              split at h3
              · rename_i e
                rw [if_pos e] at h4
                try rw [if_pos (by omega)] at h3
                try rw [if_pos (by omega)] at h4
                injection h3 with h3; injection h4 with h4; subst h3; subst h4
                have hcb : 64 ≤ cb := by
                  rcases HO2.out.2 with ⟨e, -⟩ | ⟨g', cap, cur, e, -, -, h6, -⟩
                  · cases e
                  · injection e with e1 e2 e3; omega
                have hwb : gb < wr.heap.size := (HO2.out.lt gb rfl).2
                have cs : ∀ j u, ((tornS s9 x2 mk).map bv)[j]? = some u → wr.cell? ((⟨gb, 0, none⟩ : Addr).add j) = some u := HO2.out.cells (g := gb) rfl
                refine ⟨tornS_len _ _ _, _, _, rfl, hcb, ?_, .inr ⟨by have := HT.out.size; show w.heap.size ≤ gb; omega, Nat.lt_of_lt_of_le hwb (by exact (((Turn.refl (fun k => Lv.ownBlock = some k) wr).drew).setCell ⟨gL, u1, none⟩ (.slice (some ⟨gb, 0, none⟩) 64 cb) (fun _ => eoL)).size)⟩, fun j u hu => ?_⟩
                · rintro (e | e | e)
                  · exact hgg e
                  · have h1 := HH.out.lt _ (HH.out.ownL _ e)
                    have := HT.out.size
                    have h1 : gb < w.heap.size := h1
                    omega
                  · rw [eoW] at e; injection e with e; exact hgW e.symm
                · exact (((Turn.refl (fun k => Lv.ownBlock = some k) wr).drew).setCell ⟨gL, u1, none⟩ (.slice (some ⟨gb, 0, none⟩) 64 cb) (fun _ => eoL)).cell (cs j u hu) (by rw [add_block]; intro e; rw [eoL] at e; injection e with e; exact hgL e.symm)
              · rename_i e
                rw [if_neg e] at h4
                refine (HSC.out i v s h3 h4).turn TT (fun k hs hn _ => hn (.inr (.inl hs))) (fun _ _ h => h) (fun k hk => ?_)
                exact hk.elim .inl fun h => .inr ⟨h.1, Nat.lt_of_lt_of_le h.2 TT.size⟩
          case measure => simp [intOf]; omega
    · have hj2 : j = us.length := by omega
      rw [List.take_of_length_le (by omega)] at HSC
      clear ht kL kW hj2
      go_wp2
      first | go_end0 | go_ret | (refine bodyPost_ret (results_none rfl _ _ _) rfl ?_)
      obtain ⟨w3, hw3⟩ : ∃ w3, w3 = ((wr.setCell ⟨g, 1, none⟩ (.slice none 0 0)).setCell ⟨g, 2, none⟩ (.int .i64 0)).setCell ⟨g, 3, none⟩ (.bool false) := ⟨_, rfl⟩
      rw [← hw3]
      have T3 : Turn (fun k => k = g) wr w3 := by
        rw [hw3]
        exact (((Turn.refl (fun k => k = g) wr).setCell ⟨g, 1, none⟩ _ (fun _ => rfl)).setCell ⟨g, 2, none⟩ _ (fun _ => rfl)).setCell ⟨g, 3, none⟩ _ (fun _ => rfl)
      have B3 : RBox w3 g Lv (.slice none 0 0) (d.start M).fuse (d.start M).off := by
        rw [hw3]
        exact ((HBR.out.setW (.slice none 0 0)).setF 0).setO false
      have hLg : ∀ k, Lv.ownBlock = some k → ¬ k = g := fun k hk e => by subst e; exact HH.out.neL hk
      refine ⟨rfl, ⟨_, _, _, _, rmem_landed2 HH.out (HH.out.ok.start M) rfl (show (0 : Nat) < 9223372036854775808 by omega) B3 (own_turn T3 HR.out hLg) (fun i v s h3 h4 => ?_) (fun k h => .inl h) (fun k h => ?_)⟩, (HT.out.mono (fun i _ e => HH.out.ownL i e)).trans T3 (fun i _ e => by have e : i = g := e; subst e; exact HH.out.ownG)⟩
      · refine (HSC.out i v s h3 h4).turn T3 (fun k hs hn _ => hn (.inl hs)) (fun k _ h => ?_) (fun k h => h.elim .inl fun h => .inr ⟨h.1, Nat.lt_of_lt_of_le h.2 T3.size⟩)
        rcases h with h | h | h
        · exact .inl h
        · exact .inr (.inl h)
        · cases h
      · rcases h with h | h
        · have h1 := HH.out.lt k h
          have h2 := HT.out.size
          have h3 := T3.size
          omega
        · exact h.2
end Go.Proofs.Ytodeblffnbbcaaa
