/- 'held': the reader that holds what it reads against what is wanted. -/
import Derived.Test.YtciohmlobknhlaaFrP
set_option linter.unusedVariables false
namespace Go.Proofs.Ytciohmlobknhlaa
open Go.RowKit
attribute [local go_sem ↓] loadAt_id
attribute [local go_sem] rowOf_drew rowOf_drewN run_idLoad
set_option maxRecDepth 100000 in
set_option maxHeartbeats 4000000 in
theorem held_read (o e E B : Nat) (N : Nat → Prop) (A : Option Addr) (c : Nat) (fs : List Fd) (bs : List B8) (Aw : Option Addr) (nw cw : Nat) (gs : List Gt) (x0 : Nat) (w : World) (h : Eye0 w e E N bs) (ho : w.heap[o]? = some (.cells (heldC A fs.length c Aw nw cw 0 true) 37 (0, 0))) (hoe : o ≠ e) (hoE : o ≠ E) (hNo : N o) (hNw : ∀ i, w.heap.size ≤ i → N i) (hl : fs.length ≤ 12)
    (hf : Fds w B A fs) (hB : B ≤ o ∧ B ≤ e ∧ B ≤ E) (hw : WantAt w B Aw gs) (hgs : gs.length = nw) (hwc : nw ≤ cw) (hnf : nw ≤ fs.length) (hbs : bs.length ≤ 200)
    (hok : ∀ j f g, fs[j]? = some f → gs[j]? = some g → GOk g f.kd (restJ fs bs j) ∧ sE f.kd (restJ fs bs j) = 0)
    (hx : nw = fs.length ∨ (x0 ≠ 0 ∧ ∃ f, fs[nw]? = some f ∧ sE f.kd (restJ fs bs nw) = x0)) (h40 : ∀ j f, j ≤ nw → fs[j]? = some f → f.k % 3 = 1 → f.n ≤ 1099511627776) (hlen : ∀ j, (restJ fs bs j).length ≤ 200) :
    Calls Try.prog 8 #[.pointer (some ⟨o, 0, none⟩), .pointer (some ⟨e, 0, none⟩)] w fun r w' =>
      ((nw = fs.length ∧ r = .returned (.tuple #[]) ∧ Eye0 w' e E N (restJ fs bs nw)) ∨ (x0 ≠ 0 ∧ nw < fs.length ∧ r = pan E ∧ EyeX w' e E x0)) ∧ w'.heap[o]? = some (.cells (heldC A fs.length c Aw nw cw nw true) 37 (0, 0)) ∧ Turn (fun i => i = e ∨ i = o ∨ i = E) w w' := by
  have HH := Lib.hid h
  have HO := Lib.hid ho
  have HF := Lib.hid hf
  have HW := Lib.hid hw
  have HGS := Lib.hid hgs
  have HOK := Lib.hid hok
  have HX := Lib.hid hx
  have H40 := Lib.hid h40
  have HLEN := Lib.hid hlen
  obtain ⟨n, hn⟩ : ∃ n, n = fs.length := ⟨_, rfl⟩
  have HN := Lib.hid hn
  rw [← hn] at HO hnf hl HX ⊢
  clear h ho hf hw hgs hok hx h40 hlen hn
  go_enter Try.func8, Try.ntmps8
  go_wp2
  go_loopw [4] (fun i wr => ∃ k : Nat, k ≤ nw ∧ i = .int .i64 k ∧ Eye0 wr e E N (restJ fs bs k) ∧ wr.heap[o]? = some (.cells (heldC A n c Aw nw cw k true) 37 (0, 0)) ∧ Turn (fun i => i = e ∨ i = o) w wr) (fun i _ => n - (intOf i).toNat)
  case atStart => exact ⟨0, Nat.zero_le _, rfl, HH.out, HO.out, Turn.refl _ _⟩
  case round =>
    clear HH HO
    obtain ⟨k, hk, rfl, he, ho, ht⟩ := hrel
    have c0 : wr.cell? ⟨o, 0, none⟩ = some (.slice A n c) := by rw [cell_of_row wr o 0 _ _ _ ho]; rfl
    by_cases hlt : k < n
    · have hkf : k < fs.length := by rw [← HN.out]; exact hlt
      obtain ⟨f, hfe⟩ : ∃ f, fs[k]? = some f := ⟨_, List.getElem?_eq_getElem hkf⟩
      obtain ⟨hok, b, o', rfl, hbB, hr⟩ := HF.out k f hfe
      have hr1 := ht.range hr (by omega)
      have K1 := Lib.hid (fun w => kind_any f w hok.k0 hok.k1 hok.d)
      have HL := Lib.hid (show (Try.prog.info? 30).map (·.size) = some f.cells.length by rw [f.len hok.d]; kernel_rfl)
      have HR := Lib.hid hr1
      have HE := Lib.hid he
      have hfn := hok.n
      obtain ⟨D, hD⟩ : ∃ D, D = f.kd.cells.toArray := ⟨_, rfl⟩
      have sD : D.size = 35 := by rw [hD, List.size_toArray, f.kd.len hok.d]
      have H1 := Lib.hid (show (Try.prog.info? 30).map (·.size) = some D.size by rw [sD]; kernel_rfl)
      have H2 := Lib.hid (show Z35.size = D.size by rw [sD]; rfl)
      have H3 := Lib.hid (show D.all (·.oneCell') = true by rw [hD]; exact f.kd.one)
      have hzd := zero_field
      change ∀ w, _ = Result.ok (Value.agg Z35) w at hzd
      rw [← hD] at K1
      have HD := Lib.hid hD
      have HO := Lib.hid ho
      have HT := Lib.hid ht
      have HFE := Lib.hid hfe
      have hl200 := HLEN.out k
      clear he hr hr1 hok hD sD ho ht hfe
      go_upto_region 5 with (first
        | (refine wpList_load_mid (op := ⟨some 23, _, _, _, _, _⟩) rfl _ _ rfl b (o' + k * 35) rfl f.cells _ HR.out Try.underlying30 rfl HL.out ?_)
        | (go_at_call 5; refine (K1.out _).mono ?_; rintro r w2 ⟨rfl, ht2⟩; have HT2 := Lib.hid ht2; clear ht2)
        | (refine wpList_store_row rfl _ _ _ rfl w2.heap.size D rfl rfl 30 _ (heap_alloc_new w2 _) H1.out H2.out H3.out ?_; rw [World.setRow_alloc_new]))
      obtain ⟨w3, hw3⟩ : ∃ w3, w3 = (w2.alloc (.cells D 30)).alloc (.cells Z35 30) := ⟨_, rfl⟩
      have g3 : w3.heap[w2.heap.size]? = some (.cells D 30 (0, 0)) := by rw [hw3]; exact heap_alloc2_old w2 _ _
      have g4 : w3.heap[w2.heap.size + 1]? = some (.cells Z35 30 (0, 0)) := by rw [hw3]; exact heap_alloc2_new w2 _ _
      have t3 : Turn (fun _ => False) wr w3 := by rw [hw3]; exact (HT2.out.alloc _).alloc _
      have hs3 : w3.heap.size = w2.heap.size + 2 := by rw [hw3]; simp
      obtain ⟨g, hg⟩ : ∃ g, g = w2.heap.size := ⟨_, rfl⟩
      have hgw : wr.heap.size ≤ g := by rw [hg]; exact HT2.out.size
      change Code.wp _ _ _ _ ((w2.alloc (.cells D 30)).alloc (.cells Z35 30))
      rw [← hw3, ← hg]
      rw [← hg] at g3 g4 hs3
      have d0 : w3.cell? ⟨g, 0, none⟩ = some (.int .i64 (f.k % 3)) := by rw [cell_of_row _ _ _ _ _ _ g3, HD.out]; simp [Fd.cells, Fd.kd]
      have d1 : w3.cell? ⟨g, 1, none⟩ = some (.int .u64 (f.n : Int)) := by rw [cell_of_row _ _ _ _ _ _ g3, HD.out]; simp [Fd.cells, Fd.kd]
      have HE3 := Lib.hid (HE.out.turn t3 (fun h => h) (fun h => h) (fun _ h => h.elim))
      have HZ3 := Lib.hid g4
      have HT3 := Lib.hid (HT.out.trans t3 (fun _ _ h => h.elim))
      have HO3 := Lib.hid (t3.heap HO.out (fun h => h))
      have HS3 := Lib.hid hs3
      have hee := HE.out.lt
      have hog : o < g := by have := lt_of_block HO.out; omega
      have hge : ¬ g + 1 = e := by omega
      have hgE : ¬ g + 1 = E := by omega
      have hsw : w.heap.size ≤ g := by have := HT.out.size; omega
      clear hw3 hg g3 g4 t3 hs3 HT2 c0 HT HO HE HR K1 HL H1 H2 H3
      have hk3 : f.k % 3 = 0 ∨ f.k % 3 = 1 ∨ f.k % 3 = 2 := by omega
      have hz35 : Z35.size = 35 := rfl
      have hz0 : ¬ Z35 = #[] := fun h => by have := congrArg Array.size h; cases this
      by_cases hkw : k < nw
      · obtain ⟨gt, hgt⟩ : ∃ gt, gs[k]? = some gt := ⟨_, List.getElem?_eq_getElem (by rw [HGS.out]; exact hkw)⟩
        obtain ⟨gok, hse⟩ := HOK.out k f gt HFE.out hgt
        obtain ⟨ws, wl, wd, bw, ow, rfl, hbw, hwr⟩ := HW.out k gt hgt
        have GOKH := Lib.hid gok
        have WS := Lib.hid ws
        have WR := Lib.hid hwr
        have HSE := Lib.hid hse
        have WD := Lib.hid wd
        have hnext := restJ_next (l := bs) HFE.out
        have HNX := Lib.hid hnext
        have tkn : decide ((k : Int) < (nw : Int)) = true := by rw [decide_eq_true_eq]; omega
        clear gok ws hwr hse hgt hnext wd
        rcases hk3 with hk3 | hk3 | hk3
        · rw [hk3] at d0
          have hs := HSE.out
          rw [sE, if_neg (by rw [show f.kd.k = f.k % 3 from rfl, hk3]; decide), if_pos (by exact hk3)] at hs
          have wn : gt.f.n = numV (restJ fs bs k) := by rw [GOKH.out.n, sN, if_pos (by exact hk3)]
          have wb : gt.f.b = [] := by rw [GOKH.out.b, sB, if_neg (by rw [show f.kd.k = f.k % 3 from rfl, hk3]; decide)]
          have wd : gt.f.d = zeros 32 := by rw [GOKH.out.d, sD, if_neg (by rw [show f.kd.k = f.k % 3 from rfl, hk3]; decide)]
          have wL : gt.l = numR (restJ fs bs k) := by rw [GOKH.out.l, sL, if_neg (by rw [show f.kd.k = f.k % 3 from rfl, hk3]; decide), if_pos (by exact hk3)]
          have t := fun w h => num_yes e E N f.n (restJ fs bs k) w h hs
          have hnv : numV (restJ fs bs k) < 18446744073709551616 := numV_lt _ (eNum_zero hs)
          rw [← wL, ← wn] at t
          rw [← wn] at hnv
          have T := Lib.hid t
          have HWN := Lib.hid wn
          have HWB := Lib.hid wb
          have HWD := Lib.hid wd
          clear t hs wL wn wb wd
          go_wp2_with (go_at_call 18; refine stop ?_)
          unfold Stop
          refine (T.out w3 HE3.out).mono ?_
          rintro r w4 ⟨rfl, he4, ht4⟩
          obtain ⟨FD, hFD⟩ : ∃ FD, FD = (Fd.cells ⟨0, gt.f.n, none, 0, [], zeros 32⟩).toArray := ⟨_, rfl⟩
          have hFB : Z35.setIfInBounds 1 (.int .u64 (gt.f.n : Int)) = FD := by rw [hFD]; rfl
          have sFD : FD.size = 35 := by rw [hFD, List.size_toArray, Fd.len (⟨0, gt.f.n, none, 0, [], zeros 32⟩ : Fd) (by simp [zeros])]
          have F1 := Lib.hid (show (Try.prog.info? 30).map (·.size) = some FD.size by rw [sFD]; kernel_rfl)
          have F2 := Lib.hid (show Z35.size = FD.size by rw [sFD]; rfl)
          have F3 := Lib.hid (show FD.all (·.oneCell') = true by rw [hFD]; exact Fd.one _)
          have HFD := Lib.hid hFD
          have HZ4 := Lib.hid (ht4.heap HZ3.out hge)
          have HE4 := Lib.hid he4
          have HT4 := Lib.hid ((HT3.out.trans ht4 (fun _ _ h => .inl h)).setRow (g + 1) FD (fun h => by omega))
          have HO5 := Lib.hid (show (w4.setRow (g + 1) FD).heap[o]? = some (.cells (heldC (some ⟨b, o', none⟩) n c (some ⟨bw, ow, none⟩) nw cw k true) 37 (0, 0)) from (setRow_other w4 (g + 1) o FD (by omega)).trans (ht4.heap HO3.out (by omega)))
          have HG5 := Lib.hid (show (w4.setRow (g + 1) FD).heap[g + 1]? = some (.cells FD 30 (0, 0)) from setRow_heap w4 (g + 1) Z35 FD _ _ HZ4.out)
          have HE5 := Lib.hid (he4.turn ((Turn.refl (fun i => i = g + 1) w4).setRow (g + 1) FD (fun _ => rfl)) (fun h => hge h.symm) (fun h => hgE h.symm) (fun i hi => by rw [hi]; exact hNw _ (by omega)))
          clear ht4 he4 sFD
          clear hFD
          go_upto_region 12 with (first
            | (refine wpList_store_row rfl _ _ _ rfl (g + 1) FD rfl rfl 30 Z35 HZ4.out F1.out F2.out F3.out ?_))
          obtain ⟨w5, hw5⟩ : ∃ w5, w5 = w4.setRow (g + 1) FD := ⟨_, rfl⟩
          rw [← hw5] at HT4 HO5 HG5 HE5 ⊢
          clear hw5
          have p0 : w5.cell? ⟨o, 1, none⟩ = some (.slice (some ⟨bw, ow, none⟩) nw cw) := by rw [cell_of_row w5 o 1 _ _ _ HO5.out]; rfl
          have p2 : w5.cell? ⟨o, 2, none⟩ = some (.int .i64 (k : Int)) := by rw [cell_of_row w5 o 2 _ _ _ HO5.out]; rfl
          have p3 : w5.cell? ⟨o, 3, none⟩ = some (.bool true) := by rw [cell_of_row w5 o 3 _ _ _ HO5.out]; rfl
          have z2 := frozen_of_row w5 o 2 _ _ HO5.out
          have z3 := frozen_of_row w5 o 3 _ _ HO5.out
          have wr5 := HT4.out.range WR.out (by omega)
          have y1 : w5.cell? ⟨bw, ow + k * 37 + 1, none⟩ = some (.int .u64 (gt.f.n : Int)) := range_cell wr5 1 _ rfl _ rfl
          have y2 : w5.cell? ⟨bw, ow + k * 37 + 2, none⟩ = some (.slice gt.f.A gt.f.b.length gt.f.c) := range_cell wr5 2 _ rfl _ rfl
          have y3 : rowOf w5 bw (ow + k * 37 + 3) 32 = some (gt.f.d.map bv).toArray := range_row37 wr5 WD.out
          have y4 : w5.cell? ⟨bw, ow + k * 37 + 36, none⟩ = some (.slice gt.A gt.l.length gt.c) := range_cell wr5 36 _ (by
            unfold Gt.cells; rw [List.getElem?_append_right (by rw [Fd.len _ WD.out]; omega), Fd.len _ WD.out]; rfl) _ rfl
          have x1 : w5.cell? ⟨g + 1, 1, none⟩ = some (.int .u64 ((gt.f.n : Nat) : Int)) := by rw [cell_of_row w5 (g + 1) 1 _ _ _ HG5.out, HFD.out]; rfl
          have x2 : w5.cell? ⟨g + 1, 2, none⟩ = some (.slice none 0 0) := by rw [cell_of_row w5 (g + 1) 2 _ _ _ HG5.out, HFD.out]; rfl
          have x3 : rowOf w5 (g + 1) 3 32 = some (gt.f.d.map bv).toArray := by
            have h := HG5.out
            rw [HFD.out] at h
            have := rowOf_block h 3 32 (by rw [Fd.len (⟨0, gt.f.n, none, 0, [], zeros 32⟩ : Fd) (by simp [zeros])]; omega)
            rw [this]
            simp only [Fd.cells]
            rw [List.drop_append, List.drop_eq_nil_of_le (by simp), List.take_of_length_le (by simp [zeros])]
            simp [HWD.out]
          have hq := fun w => eql_id gt.f.d gt.f.d WD.out WD.out w
          rw [show decide (gt.f.d = gt.f.d) = true from decide_eq_true rfl] at hq
          obtain ⟨D2, hD2⟩ : ∃ D2, D2 = (gt.f.d.map bv).toArray := ⟨_, rfl⟩
          rw [← hD2] at hq x3 y3
          have HWS5 := Lib.hid (HT4.out.sl WS.out (fun i hi h => by omega))
          rw [HWB.out] at y2 HWS5
          have B5 := Lib.hid (fun q => rbytes_at none gt.f.A 0 gt.f.c 0 0 _ _ [] [] (w5.drewN q) (Sl.none (w5.drewN q) 0 none) HWS5.out rfl rfl (by unfold maxLen; omega) (by unfold maxLen; omega))
          rw [show decide (([] : List B8) = []) = true from decide_eq_true rfl] at B5
          have HGL := Lib.hid (show restJ fs bs (k + 1) = gt.l by rw [HNX.out, GOKH.out.l])
          clear hD2 wr5 hFB T
          obtain ⟨A6, c6, he6, -⟩ := id HE5.out
          have L5 := Lib.hid (fun n6 => left_any e E A6 gt.l.length c6 0 (w5.drewN n6) he6)
          clear he6
          go_upto_region 13 with fail
          refine wp_region_quiet_tail 72 (by kernel_rfl) (by kernel_rfl) (by kernel_rfl) ?_
          simp only [List.append_eq, List.cons_append, List.nil_append, List.take_succ_cons, List.take_zero, List.drop_succ_cons, List.drop_zero]
          repeat (go_big_quiet_step (first
            | (go_at_call 11; refine (B5.out _).mono ?_; rintro r w6 ⟨rfl, n6, hw6⟩; exact ⟨rfl, _, by rw [hw6, drewN_add]⟩)
            | (go_at_call 17; refine (L5.out _).mono ?_; rintro r w7 ⟨rfl, hw7⟩; exact ⟨rfl, _, hw7⟩)))
          refine wpQuiet_nil ?_
          intro _ hw'
          obtain ⟨n6, hw''⟩ := hw'
          subst hw''
          go_wp2
          go_roundw
          case rel =>
              have h1 := heap_setCell_same (w5.drewN n6) o 3 _ _ (.bool true) HO5.out
              have h2 := heap_setCell_same _ o 2 _ _ (.int .i64 ((k : Int) + 1)) h1
              exact ⟨k + 1, by omega, by go_num, by rw [HGL.out]; exact HE5.out.turn ((((Turn.refl (fun i => i = o) w5).drewN n6).setCell ⟨o, 3, none⟩ (.bool true) (fun _ => rfl)).setCell ⟨o, 2, none⟩ (.int .i64 ((k : Int) + 1)) (fun _ => rfl)) (fun h => hoe h.symm) (fun h => hoE h.symm) (fun i hi => by rw [hi]; exact hNo), h2,
                ((HT4.out.drewN n6).setCell ⟨o, 3, none⟩ (.bool true) (fun _ => .inr rfl)).setCell ⟨o, 2, none⟩ _ (fun _ => .inr rfl)⟩
          case measure => simp [intOf]; omega
        · rw [hk3] at d0
          have hs := HSE.out
          rw [sE, if_neg (by rw [show f.kd.k = f.k % 3 from rfl, hk3]; decide), if_neg (by rw [show f.kd.k = f.k % 3 from rfl, hk3]; decide)] at hs
          have wn : gt.f.n = 0 := by rw [GOKH.out.n, sN, if_neg (by rw [show f.kd.k = f.k % 3 from rfl, hk3]; decide)]
          have wb : gt.f.b = (numR (restJ fs bs k)).take (numV (restJ fs bs k)) := by rw [GOKH.out.b, sB, if_pos (by exact hk3)]
          have wd : gt.f.d = zeros 32 := by rw [GOKH.out.d, sD, if_neg (by rw [show f.kd.k = f.k % 3 from rfl, hk3]; decide)]
          have wL : gt.l = (numR (restJ fs bs k)).drop (numV (restJ fs bs k)) := by rw [GOKH.out.l, sL, if_neg (by rw [show f.kd.k = f.k % 3 from rfl, hk3]; decide), if_neg (by rw [show f.kd.k = f.k % 3 from rfl, hk3]; decide)]
          have hf40 : f.n ≤ 1099511627776 := H40.out k f hk HFE.out hk3
          have t := fun w h => text_yes e E N (f.n : Int) (restJ fs bs k) w h hs (by omega)
          have hvl : numV (restJ fs bs k) = gt.f.b.length := by rw [wb, List.length_take, Nat.min_eq_left (eText_fit hs)]
          rw [← wL, ← wb] at t
          have T := Lib.hid t
          have HWN := Lib.hid wn
          have HWB := Lib.hid wb
          have HWD := Lib.hid wd
          clear t hs wL wn wb wd
          go_wp2_with (go_at_call 19; refine stop ?_)
          unfold Stop
          refine (T.out w3 HE3.out).mono ?_
          rintro r w4 ⟨v4, rfl, hr4, he4, ht4⟩
          rw [hvl] at hr4
          have hs3' : g + 1 < w3.heap.size := by rw [HS3.out]; omega
          have hr5 : (w4.setRow (g + 1) #[]).heap.size = w4.heap.size := by simp [World.setRow]
          obtain ⟨A4, c4, rfl, -, -, hc4, hA4⟩ := own_sl hr4
          obtain ⟨FD, hFD⟩ : ∃ FD, FD = (Fd.cells ⟨1, 0, A4, c4, gt.f.b, zeros 32⟩).toArray := ⟨_, rfl⟩
          have hFB : (Z35.setIfInBounds 0 (.int .i64 1)).setIfInBounds 2 (.slice A4 gt.f.b.length c4) = FD := by rw [hFD]; rfl
          have hz1 : (Z35.setIfInBounds 0 (.int .i64 1)).size = 35 := rfl
          have sFD : FD.size = 35 := by rw [hFD, List.size_toArray, Fd.len (⟨1, 0, A4, c4, gt.f.b, zeros 32⟩ : Fd) (by simp [zeros])]
          have F1 := Lib.hid (show (Try.prog.info? 30).map (·.size) = some FD.size by rw [sFD]; kernel_rfl)
          have F2 := Lib.hid (show Z35.size = FD.size by rw [sFD]; rfl)
          have F3 := Lib.hid (show FD.all (·.oneCell') = true by rw [hFD]; exact Fd.one _)
          have HFD := Lib.hid hFD
          have HZ4 := Lib.hid (ht4.heap HZ3.out hge)
          have HE4 := Lib.hid he4
          have HT4 := Lib.hid ((HT3.out.trans ht4 (fun _ _ h => .inl h)).setRow (g + 1) FD (fun h => by omega))
          have HO5 := Lib.hid (show (w4.setRow (g + 1) FD).heap[o]? = some (.cells (heldC (some ⟨b, o', none⟩) n c (some ⟨bw, ow, none⟩) nw cw k true) 37 (0, 0)) from (setRow_other w4 (g + 1) o FD (by omega)).trans (ht4.heap HO3.out (by omega)))
          have HG5 := Lib.hid (show (w4.setRow (g + 1) FD).heap[g + 1]? = some (.cells FD 30 (0, 0)) from setRow_heap w4 (g + 1) Z35 FD _ _ HZ4.out)
          have HE5 := Lib.hid (he4.turn ((Turn.refl (fun i => i = g + 1) w4).setRow (g + 1) FD (fun _ => rfl)) (fun h => hge h.symm) (fun h => hgE h.symm) (fun i hi => by rw [hi]; exact hNw _ (by omega)))
          have HV5 := Lib.hid (((Turn.refl (fun i => i = g + 1) w4).setRow (g + 1) FD (fun _ => rfl)).own hr4 (fun j hj h => by have := (hr4.lt j hj).1; omega))
          clear hr4
          clear ht4 he4 sFD
          clear hFD
          go_upto_region 12 with (first
            | (refine wpList_store_row rfl _ _ _ rfl (g + 1) FD rfl rfl 30 Z35 HZ4.out F1.out F2.out F3.out ?_))
          obtain ⟨w5, hw5⟩ : ∃ w5, w5 = w4.setRow (g + 1) FD := ⟨_, rfl⟩
          rw [← hw5] at HT4 HO5 HG5 HE5 HV5 ⊢
          clear hw5
          have p0 : w5.cell? ⟨o, 1, none⟩ = some (.slice (some ⟨bw, ow, none⟩) nw cw) := by rw [cell_of_row w5 o 1 _ _ _ HO5.out]; rfl
          have p2 : w5.cell? ⟨o, 2, none⟩ = some (.int .i64 (k : Int)) := by rw [cell_of_row w5 o 2 _ _ _ HO5.out]; rfl
          have p3 : w5.cell? ⟨o, 3, none⟩ = some (.bool true) := by rw [cell_of_row w5 o 3 _ _ _ HO5.out]; rfl
          have z2 := frozen_of_row w5 o 2 _ _ HO5.out
          have z3 := frozen_of_row w5 o 3 _ _ HO5.out
          have wr5 := HT4.out.range WR.out (by omega)
          have y1 : w5.cell? ⟨bw, ow + k * 37 + 1, none⟩ = some (.int .u64 (gt.f.n : Int)) := range_cell wr5 1 _ rfl _ rfl
          have y2 : w5.cell? ⟨bw, ow + k * 37 + 2, none⟩ = some (.slice gt.f.A gt.f.b.length gt.f.c) := range_cell wr5 2 _ rfl _ rfl
          have y3 : rowOf w5 bw (ow + k * 37 + 3) 32 = some (gt.f.d.map bv).toArray := range_row37 wr5 WD.out
          have y4 : w5.cell? ⟨bw, ow + k * 37 + 36, none⟩ = some (.slice gt.A gt.l.length gt.c) := range_cell wr5 36 _ (by
            unfold Gt.cells; rw [List.getElem?_append_right (by rw [Fd.len _ WD.out]; omega), Fd.len _ WD.out]; rfl) _ rfl
          have x1 : w5.cell? ⟨g + 1, 1, none⟩ = some (.int .u64 ((gt.f.n : Nat) : Int)) := by rw [cell_of_row w5 (g + 1) 1 _ _ _ HG5.out, HFD.out, HWN.out]; rfl
          have x2 : w5.cell? ⟨g + 1, 2, none⟩ = some (.slice A4 gt.f.b.length c4) := by rw [cell_of_row w5 (g + 1) 2 _ _ _ HG5.out, HFD.out]; rfl
          have x3 : rowOf w5 (g + 1) 3 32 = some (gt.f.d.map bv).toArray := by
            have h := HG5.out
            rw [HFD.out] at h
            have := rowOf_block h 3 32 (by rw [Fd.len (⟨1, 0, A4, c4, gt.f.b, zeros 32⟩ : Fd) (by simp [zeros])]; omega)
            rw [this]
            simp only [Fd.cells]
            rw [List.drop_append, List.drop_eq_nil_of_le (by simp), List.take_of_length_le (by simp [zeros])]
            simp [HWD.out]
          have hq := fun w => eql_id gt.f.d gt.f.d WD.out WD.out w
          rw [show decide (gt.f.d = gt.f.d) = true from decide_eq_true rfl] at hq
          obtain ⟨D2, hD2⟩ : ∃ D2, D2 = (gt.f.d.map bv).toArray := ⟨_, rfl⟩
          rw [← hD2] at hq x3 y3
          have HWS5 := Lib.hid (HT4.out.sl WS.out (fun i hi h => by omega))
          obtain ⟨A5, c5, e5, hs5, hl5, -, -⟩ := own_sl HV5.out
          injection e5 with e51 e52 e53
          subst e51
          have B5 := Lib.hid (fun q => rbytes_at A4 gt.f.A c4 gt.f.c gt.f.b.length gt.f.b.length _ _ gt.f.b gt.f.b (w5.drewN q) hs5 HWS5.out rfl rfl (by unfold maxLen; omega) (by unfold maxLen; omega))
          rw [show decide (gt.f.b = gt.f.b) = true from decide_eq_true rfl] at B5
          clear hs5 hl5 e52 e53 hvl
          have HGL := Lib.hid (show restJ fs bs (k + 1) = gt.l by rw [HNX.out, GOKH.out.l])
          clear hD2 wr5 hFB hz1 T
          obtain ⟨A6, c6, he6, -⟩ := id HE5.out
          have L5 := Lib.hid (fun n6 => left_any e E A6 gt.l.length c6 0 (w5.drewN n6) he6)
          clear he6
          go_upto_region 13 with fail
          refine wp_region_quiet_tail 72 (by kernel_rfl) (by kernel_rfl) (by kernel_rfl) ?_
          simp only [List.append_eq, List.cons_append, List.nil_append, List.take_succ_cons, List.take_zero, List.drop_succ_cons, List.drop_zero]
          repeat (go_big_quiet_step (first
            | (go_at_call 11; refine (B5.out _).mono ?_; rintro r w6 ⟨rfl, n6, hw6⟩; exact ⟨rfl, _, by rw [hw6, drewN_add]⟩)
            | (go_at_call 17; refine (L5.out _).mono ?_; rintro r w7 ⟨rfl, hw7⟩; exact ⟨rfl, _, hw7⟩)))
          refine wpQuiet_nil ?_
          intro _ hw'
          obtain ⟨n6, hw''⟩ := hw'
          subst hw''
          go_wp2
          go_roundw
          case rel =>
              have h1 := heap_setCell_same (w5.drewN n6) o 3 _ _ (.bool true) HO5.out
              have h2 := heap_setCell_same _ o 2 _ _ (.int .i64 ((k : Int) + 1)) h1
              exact ⟨k + 1, by omega, by go_num, by rw [HGL.out]; exact HE5.out.turn ((((Turn.refl (fun i => i = o) w5).drewN n6).setCell ⟨o, 3, none⟩ (.bool true) (fun _ => rfl)).setCell ⟨o, 2, none⟩ (.int .i64 ((k : Int) + 1)) (fun _ => rfl)) (fun h => hoe h.symm) (fun h => hoE h.symm) (fun i hi => by rw [hi]; exact hNo), h2,
                ((HT4.out.drewN n6).setCell ⟨o, 3, none⟩ (.bool true) (fun _ => .inr rfl)).setCell ⟨o, 2, none⟩ _ (fun _ => .inr rfl)⟩
          case measure => simp [intOf]; omega
        · rw [hk3] at d0
          have hs := HSE.out
          rw [sE, if_pos (by exact hk3)] at hs
          have h32 : 32 ≤ (restJ fs bs k).length := by
            by_cases h : (restJ fs bs k).length < 32
            · rw [if_pos h] at hs; cases hs
            · omega
          have wn : gt.f.n = 0 := by rw [GOKH.out.n, sN, if_neg (by rw [show f.kd.k = f.k % 3 from rfl, hk3]; decide)]
          have wb : gt.f.b = [] := by rw [GOKH.out.b, sB, if_neg (by rw [show f.kd.k = f.k % 3 from rfl, hk3]; decide)]
          have wd : gt.f.d = (restJ fs bs k).take 32 := by rw [GOKH.out.d, sD, if_pos (by exact hk3)]
          have wL : gt.l = (restJ fs bs k).drop 32 := by rw [GOKH.out.l, sL, if_pos (by exact hk3)]
          have t := fun w h => id_yes e E N (restJ fs bs k) w h h32
          rw [← wL, ← wd] at t
          have T := Lib.hid t
          have HWN := Lib.hid wn
          have HWB := Lib.hid wb
          have HWD := Lib.hid wd
          clear t hs wL wn wb wd
          go_wp2_with (go_at_call 20; refine stop ?_)
          unfold Stop
          refine (T.out w3 HE3.out).mono ?_
          rintro r w4 ⟨rfl, he4, ht4⟩
          obtain ⟨FD, hFD⟩ : ∃ FD, FD = (Fd.cells ⟨2, 0, none, 0, [], gt.f.d⟩).toArray := ⟨_, rfl⟩
          have HFB := Lib.hid (show Try.prog.built 30 [(0, .int .i64 2), (3, .agg (gt.f.d.map bv).toArray)] = some FD by rw [hFD]; exact built_d (gt.f.d.map bv) (by rw [List.length_map, WD.out]))
          have sFD : FD.size = 35 := by rw [hFD, List.size_toArray, Fd.len (⟨2, 0, none, 0, [], gt.f.d⟩ : Fd) WD.out]
          have F1 := Lib.hid (show (Try.prog.info? 30).map (·.size) = some FD.size by rw [sFD]; kernel_rfl)
          have F2 := Lib.hid (show Z35.size = FD.size by rw [sFD]; rfl)
          have F3 := Lib.hid (show FD.all (·.oneCell') = true by rw [hFD]; exact Fd.one _)
          have HFD := Lib.hid hFD
          have HZ4 := Lib.hid (ht4.heap HZ3.out hge)
          have HE4 := Lib.hid he4
          have HT4 := Lib.hid ((HT3.out.trans ht4 (fun _ _ h => .inl h)).setRow (g + 1) FD (fun h => by omega))
          have HO5 := Lib.hid (show (w4.setRow (g + 1) FD).heap[o]? = some (.cells (heldC (some ⟨b, o', none⟩) n c (some ⟨bw, ow, none⟩) nw cw k true) 37 (0, 0)) from (setRow_other w4 (g + 1) o FD (by omega)).trans (ht4.heap HO3.out (by omega)))
          have HG5 := Lib.hid (show (w4.setRow (g + 1) FD).heap[g + 1]? = some (.cells FD 30 (0, 0)) from setRow_heap w4 (g + 1) Z35 FD _ _ HZ4.out)
          have HE5 := Lib.hid (he4.turn ((Turn.refl (fun i => i = g + 1) w4).setRow (g + 1) FD (fun _ => rfl)) (fun h => hge h.symm) (fun h => hgE h.symm) (fun i hi => by rw [hi]; exact hNw _ (by omega)))
          clear ht4 he4 sFD
          clear hFD
          go_upto_region 12 with (first
            | (refine wpList_build_eq rfl 30 #[(0, .const (.int .i64 2)), (3, .tmp 45)] rfl FD HFB.out ?_)
            | (refine wpList_store_row rfl _ _ _ rfl (g + 1) FD rfl rfl 30 Z35 HZ4.out F1.out F2.out F3.out ?_))
          obtain ⟨w5, hw5⟩ : ∃ w5, w5 = w4.setRow (g + 1) FD := ⟨_, rfl⟩
          rw [← hw5] at HT4 HO5 HG5 HE5 ⊢
          clear hw5
          have p0 : w5.cell? ⟨o, 1, none⟩ = some (.slice (some ⟨bw, ow, none⟩) nw cw) := by rw [cell_of_row w5 o 1 _ _ _ HO5.out]; rfl
          have p2 : w5.cell? ⟨o, 2, none⟩ = some (.int .i64 (k : Int)) := by rw [cell_of_row w5 o 2 _ _ _ HO5.out]; rfl
          have p3 : w5.cell? ⟨o, 3, none⟩ = some (.bool true) := by rw [cell_of_row w5 o 3 _ _ _ HO5.out]; rfl
          have z2 := frozen_of_row w5 o 2 _ _ HO5.out
          have z3 := frozen_of_row w5 o 3 _ _ HO5.out
          have wr5 := HT4.out.range WR.out (by omega)
          have y1 : w5.cell? ⟨bw, ow + k * 37 + 1, none⟩ = some (.int .u64 (gt.f.n : Int)) := range_cell wr5 1 _ rfl _ rfl
          have y2 : w5.cell? ⟨bw, ow + k * 37 + 2, none⟩ = some (.slice gt.f.A gt.f.b.length gt.f.c) := range_cell wr5 2 _ rfl _ rfl
          have y3 : rowOf w5 bw (ow + k * 37 + 3) 32 = some (gt.f.d.map bv).toArray := range_row37 wr5 WD.out
          have y4 : w5.cell? ⟨bw, ow + k * 37 + 36, none⟩ = some (.slice gt.A gt.l.length gt.c) := range_cell wr5 36 _ (by
            unfold Gt.cells; rw [List.getElem?_append_right (by rw [Fd.len _ WD.out]; omega), Fd.len _ WD.out]; rfl) _ rfl
          have x1 : w5.cell? ⟨g + 1, 1, none⟩ = some (.int .u64 ((gt.f.n : Nat) : Int)) := by rw [cell_of_row w5 (g + 1) 1 _ _ _ HG5.out, HFD.out, HWN.out]; rfl
          have x2 : w5.cell? ⟨g + 1, 2, none⟩ = some (.slice none 0 0) := by rw [cell_of_row w5 (g + 1) 2 _ _ _ HG5.out, HFD.out]; rfl
          have x3 : rowOf w5 (g + 1) 3 32 = some (gt.f.d.map bv).toArray := by
            have h := HG5.out
            rw [HFD.out] at h
            have := rowOf_block h 3 32 (by rw [Fd.len (⟨2, 0, none, 0, [], gt.f.d⟩ : Fd) WD.out]; omega)
            rw [this]
            simp only [Fd.cells]
            rw [List.drop_append, List.drop_eq_nil_of_le (by simp), List.take_of_length_le (by simp [WD.out])]
            simp
          have hq := fun w => eql_id gt.f.d gt.f.d WD.out WD.out w
          rw [show decide (gt.f.d = gt.f.d) = true from decide_eq_true rfl] at hq
          obtain ⟨D2, hD2⟩ : ∃ D2, D2 = (gt.f.d.map bv).toArray := ⟨_, rfl⟩
          rw [← hD2] at hq x3 y3
          have HWS5 := Lib.hid (HT4.out.sl WS.out (fun i hi h => by omega))
          rw [HWB.out] at y2 HWS5
          have B5 := Lib.hid (fun q => rbytes_at none gt.f.A 0 gt.f.c 0 0 _ _ [] [] (w5.drewN q) (Sl.none (w5.drewN q) 0 none) HWS5.out rfl rfl (by unfold maxLen; omega) (by unfold maxLen; omega))
          rw [show decide (([] : List B8) = []) = true from decide_eq_true rfl] at B5
          have HGL := Lib.hid (show restJ fs bs (k + 1) = gt.l by rw [HNX.out, GOKH.out.l])
          clear hD2 wr5 HFB T
          obtain ⟨A6, c6, he6, -⟩ := id HE5.out
          have L5 := Lib.hid (fun n6 => left_any e E A6 gt.l.length c6 0 (w5.drewN n6) he6)
          clear he6
          go_upto_region 13 with fail
          refine wp_region_quiet_tail 72 (by kernel_rfl) (by kernel_rfl) (by kernel_rfl) ?_
          simp only [List.append_eq, List.cons_append, List.nil_append, List.take_succ_cons, List.take_zero, List.drop_succ_cons, List.drop_zero]
          repeat (go_big_quiet_step (first
            | (go_at_call 11; refine (B5.out _).mono ?_; rintro r w6 ⟨rfl, n6, hw6⟩; exact ⟨rfl, _, by rw [hw6, drewN_add]⟩)
            | (go_at_call 17; refine (L5.out _).mono ?_; rintro r w7 ⟨rfl, hw7⟩; exact ⟨rfl, _, hw7⟩)))
          refine wpQuiet_nil ?_
          intro _ hw'
          obtain ⟨n6, hw''⟩ := hw'
          subst hw''
          go_wp2
          go_roundw
          case rel =>
              have h1 := heap_setCell_same (w5.drewN n6) o 3 _ _ (.bool true) HO5.out
              have h2 := heap_setCell_same _ o 2 _ _ (.int .i64 ((k : Int) + 1)) h1
              exact ⟨k + 1, by omega, by go_num, by rw [HGL.out]; exact HE5.out.turn ((((Turn.refl (fun i => i = o) w5).drewN n6).setCell ⟨o, 3, none⟩ (.bool true) (fun _ => rfl)).setCell ⟨o, 2, none⟩ (.int .i64 ((k : Int) + 1)) (fun _ => rfl)) (fun h => hoe h.symm) (fun h => hoE h.symm) (fun i hi => by rw [hi]; exact hNo), h2,
                ((HT4.out.drewN n6).setCell ⟨o, 3, none⟩ (.bool true) (fun _ => .inr rfl)).setCell ⟨o, 2, none⟩ _ (fun _ => .inr rfl)⟩
          case measure => simp [intOf]; omega
      · obtain rfl : k = nw := by omega
        obtain ⟨hx0, hxe⟩ : x0 ≠ 0 ∧ sE f.kd (restJ fs bs k) = x0 := by
          rcases HX.out with h | ⟨h1, f', h2, h3⟩
          · omega
          · rw [HFE.out] at h2; injection h2 with h2; subst h2; exact ⟨h1, h3⟩
        have HX0 := Lib.hid hx0
        rcases hk3 with hk3 | hk3 | hk3
        · rw [hk3] at d0
          rw [sE, if_neg (by rw [show f.kd.k = f.k % 3 from rfl, hk3]; decide), if_pos (by exact hk3)] at hxe
          change eNum f.n (restJ fs bs k) = x0 at hxe
          have t := fun w h => num_no e E N f.n (restJ fs bs k) w h (by rw [hxe]; exact hx0)
          rw [hxe] at t
          have T := Lib.hid t
          clear t hxe hx0
          go_wp2_with (go_at_call 18; refine (T.out w3 HE3.out).mono ?_; rintro r w4 ⟨rfl, he4, ht4⟩; dsimp only [pan]; have HE4 := Lib.hid he4; have HT4 := Lib.hid ht4; clear he4 ht4)
          exact ⟨rfl, .inr ⟨HX0.out, hlt, rfl, HE4.out⟩, HT4.out.heap HO3.out (by omega), (HT3.out.mono (S := fun i => i = e ∨ i = o ∨ i = E) (fun i _ h => by omega)).trans HT4.out (fun i _ h => by omega)⟩
        · rw [hk3] at d0
          rw [sE, if_neg (by rw [show f.kd.k = f.k % 3 from rfl, hk3]; decide), if_neg (by rw [show f.kd.k = f.k % 3 from rfl, hk3]; decide)] at hxe
          change eText (f.n : Int) (restJ fs bs k) = x0 at hxe
          have hf40 : f.n ≤ 1099511627776 := H40.out k f (Nat.le_refl _) HFE.out hk3
          have t := fun w h => text_no e E N (f.n : Int) (restJ fs bs k) w h (by rw [hxe]; exact hx0) (by omega) (by omega)
          rw [hxe] at t
          have T := Lib.hid t
          clear t hxe hx0
          go_wp2_with (go_at_call 19; refine (T.out w3 HE3.out).mono ?_; rintro r w4 ⟨rfl, he4, ht4⟩; dsimp only [pan]; have HE4 := Lib.hid he4; have HT4 := Lib.hid ht4; clear he4 ht4)
          exact ⟨rfl, .inr ⟨HX0.out, hlt, rfl, HE4.out⟩, HT4.out.heap HO3.out (by omega), (HT3.out.mono (S := fun i => i = e ∨ i = o ∨ i = E) (fun i _ h => by omega)).trans HT4.out (fun i _ h => by omega)⟩
        · rw [hk3] at d0
          rw [sE, if_pos (by exact hk3)] at hxe
          have h32 : (restJ fs bs k).length < 32 := by
            by_cases h : (restJ fs bs k).length < 32
            · exact h
            · rw [if_neg h] at hxe; exact absurd hxe.symm hx0
          rw [if_pos h32] at hxe
          have t := fun w h => id_no e E N (restJ fs bs k) w h h32
          rw [hxe] at t
          have T := Lib.hid t
          clear t hxe hx0
          go_wp2_with (go_at_call 20; refine (T.out w3 HE3.out).mono ?_; rintro r w4 ⟨rfl, he4, ht4⟩; dsimp only [pan]; have HE4 := Lib.hid he4; have HT4 := Lib.hid ht4; clear he4 ht4)
          exact ⟨rfl, .inr ⟨HX0.out, hlt, rfl, HE4.out⟩, HT4.out.heap HO3.out (by omega), (HT3.out.mono (S := fun i => i = e ∨ i = o ∨ i = E) (fun i _ h => by omega)).trans HT4.out (fun i _ h => by omega)⟩
    · obtain rfl : k = n := by omega
      obtain rfl : k = nw := by omega
      have HT := Lib.hid ht
      have HO := Lib.hid ho
      have HE := Lib.hid he
      clear ht ho he
      go_wp2
      go_end0
      exact ⟨⟨rfl, HE.out⟩, HO.out, HT.out.mono (fun i _ h => by omega)⟩
end Go.Proofs.Ytciohmlobknhlaa
