/- Merged: The document's 'Put' of certificates. -/
import Derived.Test.YthoaaieiiokcmaaDoorM23
namespace Go.Proofs.YthoaaieiiokcmaaDoor
section
set_option linter.unusedVariables false
set_option linter.unusedSimpArgs false
open Go.RowKit
attribute [local go_sem ↓] loadAt_cr loadAt_hd loadAt_en loadAt_id
attribute [local go_sem] run_crLoad run_hdLoad run_enLoad run_idLoad rowOf_drew rowOf_drewN
/-- A certificate's form. -/
def formC (x : Crt) : List B8 := numB (pE x.e).length ++ (pE x.e ++ (numB x.ids.length ++ (x.ids.flatten ++ (numB (pH x.h).length ++ (pH x.h ++ x.t)))))
theorem flat32_take (ids : List (List B8)) (k : Nat) (d : List B8) (h : ids[k]? = some d) : (ids.take (k + 1)).flatten = (ids.take k).flatten ++ d := by
  rw [List.take_add_one, h]; simp
theorem flat32_len (ids : List (List B8)) (h : ∀ d ∈ ids, d.length = 32) : ∀ k, k ≤ ids.length → ((ids.take k).flatten).length = k * 32 := by
  intro k hk
  induction k with
  | zero => simp
  | succ k ih =>
    have hd : ids[k]? = some ids[k] := List.getElem?_eq_getElem (by omega)
    rw [flat32_take ids k _ hd, List.length_append, ih (by omega), h _ (List.getElem_mem _)]; omega
set_option maxRecDepth 100000 in
set_option maxHeartbeats 16000000 in
theorem rcput_any (x : Crt) (A : Option Addr) (c : Nat) (w : World) (hx : x.L) (px : CPath w x A c) (mx : x.ids.length ≤ 1000) :
    Calls Tryd.prog 21 #[.agg (x.cells A c).toArray] w fun r w' => ∃ u, r = .returned u ∧ w'.ownsRow w.heap.size 5 1 u (formC x).length ((formC x).map bv) ∧ Turn (fun _ => False) w w' := by
  obtain ⟨i0, hi, hz0, hz1, hz2⟩ := info_parts info_u8
  have TE := Lib.hid (fun w => rright_any x.e w hx.1)
  have TH := Lib.hid (fun w => hrright_any x.h w hx.2.1)
  have PE := Lib.hid (fun w h => rput_e x.e w hx.1 h)
  have PH := Lib.hid (fun w h => hrput_any x.h w hx.2.1 h)
  have TT := Lib.hid (fun w => rbytesId_any x.t w hx.2.2.1)
  have TI := Lib.hid (fun (d : List B8) (h : d ∈ x.ids) w => rbytesId_any d w (hx.2.2.2 d h))
  have FC := Lib.hid (show formC x = numB (pE x.e).length ++ (pE x.e ++ (numB x.ids.length ++ (x.ids.flatten ++ (numB (pH x.h).length ++ (pH x.h ++ x.t))))) from rfl)
  have PEy := Lib.hid (fun (h : okB x.e) => show pE x.e = formE x.e from if_pos h)
  have PEn := Lib.hid (fun (h : ¬ okB x.e) => show pE x.e = [] from if_neg h)
  have PHy := Lib.hid (fun (h : okH x.h) => show pH x.h = formH x.h from if_pos h)
  have PHn := Lib.hid (fun (h : ¬ okH x.h) => show pH x.h = [] from if_neg h)
  have LE := Lib.hid (fun (h : okB x.e) => ent_le x.e hx.1 h)
  have LH := Lib.hid (fun (h : okH x.h) => show (formH x.h).length ≤ 100 by have := formH_le x.h hx.2.1 h; omega)
  obtain ⟨C, hC⟩ : ∃ C, C = (x.cells A c).toArray := ⟨_, rfl⟩
  rw [← hC]
  obtain ⟨w1, hw1⟩ : ∃ w1, w1 = w.alloc (.cells C 32) := ⟨_, rfl⟩
  have t1 : Turn (fun _ => False) w w1 := by rw [hw1]; exact (Turn.refl _ _).alloc _
  have e1 : CAt w1 w.heap.size x A c := by unfold CAt; rw [← hC, hw1]; exact heap_alloc_new _ _
  obtain ⟨EC, hEC⟩ : ∃ L, L = x.e.cells.toArray := ⟨_, rfl⟩
  obtain ⟨HC, hHC⟩ : ∃ L, L = x.h.cells.toArray := ⟨_, rfl⟩
  obtain ⟨TC, hTC⟩ : ∃ L, L = (x.t.map bv).toArray := ⟨_, rfl⟩
  obtain ⟨ids, hids⟩ : ∃ L, L = x.ids := ⟨_, rfl⟩
  obtain ⟨nl, hnl⟩ : ∃ n, n = x.ids.length := ⟨_, rfl⟩
  have RW := Lib.hid (fun (w' : World) (t : Turn (fun _ => False) w1 w') => show rowOf w' w.heap.size 0 37 = some EC ∧ rowOf w' w.heap.size 38 67 = some HC ∧ rowOf w' w.heap.size 105 32 = some TC ∧ w'.cell? ⟨w.heap.size, 37, none⟩ = some (.slice A nl c) from by
    have F := CAt.facts (w := w') (b := w.heap.size) (show CAt w' w.heap.size x A c from t.heap e1 (fun h => h)) hx
    rw [hEC, hHC, hTC, hnl]
    exact ⟨F.ent, F.hdr, F.tag, F.path⟩)
  have PX := Lib.hid (fun (w' : World) (t : Turn (fun _ => False) w1 w') => ((px.turn t1).turn t).1)
  have ID32 := Lib.hid hx.2.2.2
  have TL := Lib.hid hx.2.2.1
  rw [← hEC] at TE PE
  rw [← hHC] at TH PH
  rw [← hTC] at TT
  rw [← hids] at PX ID32 TI
  rw [← hnl] at FC mx
  rw [← hids] at FC
  have HNL := Lib.hid (show nl = ids.length by rw [hnl, hids])
  have NL := Lib.hid (fun w => rnum_any nl w (by omega))
  have T1 := Lib.hid t1
  have HB := Lib.hid (show w.heap.size ≤ w1.heap.size from t1.size)
  have T11 := Lib.hid (Turn.refl (fun _ => False) w1)
  clear t1 e1 px hx hC hEC hHC hTC hids hnl
  by_cases oe : okB x.e
  · rw [decide_eq_true oe] at TE
    by_cases oh : okH x.h
    · rw [decide_eq_true oh] at TH
      have PE := Lib.hid (fun w => PE.out w oe)
      obtain ⟨F, hF⟩ : ∃ F, F = formE x.e := ⟨_, rfl⟩
      rw [← hF] at PE
      obtain ⟨fl, hfl⟩ : ∃ n, n = F.length := ⟨_, rfl⟩
      rw [← hfl] at PE
      have HFL := Lib.hid hfl
      have lfl : fl ≤ 100 := by rw [hfl, hF]; exact LE.out oe
      have PFE := Lib.hid ((PEy.out oe).trans hF.symm)
      have TNE := Lib.hid (fun w => rnum_any fl w (by omega))
      clear hF hfl
      have PH := Lib.hid (fun w => PH.out w oh)
      obtain ⟨G, hG⟩ : ∃ G, G = formH x.h := ⟨_, rfl⟩
      rw [← hG] at PH
      obtain ⟨gl, hgl⟩ : ∃ n, n = G.length := ⟨_, rfl⟩
      rw [← hgl] at PH
      have HGL := Lib.hid hgl
      have lgl : gl ≤ 100 := by rw [hgl, hG]; exact LH.out oh
      have PFH := Lib.hid ((PHy.out oh).trans hG.symm)
      have TNH := Lib.hid (fun w => rnum_any gl w (by omega))
      clear hG hgl
      clear oe oh
      go_enter Tryd.func21, Tryd.ntmps21
      go_upto_region 1 with fail
      change Code.wp _ _ _ _ (w.alloc (.cells C 32))
      rw [← hw1]
      clear hw1
      obtain ⟨r1, r2, r3, r4⟩ := RW.out w1 T11.out
      go_wp2_with (go_at_call 25; refine stop ?_)
      unfold Stop
      refine (TE.out w1).mono ?_
      rintro r w2 ⟨rfl, t⟩
      have T2 := Lib.hid t
      clear t r1 r2 r3 r4
      obtain ⟨r1, r2, r3, r4⟩ := RW.out w2 T2.out
      go_wp2_with (go_at_call 29; refine stop ?_)
      unfold Stop
      refine (PE.out w2).mono ?_
      rintro r w3 ⟨u3, rfl, o3, t⟩
      have T3 := Lib.hid (T2.out.trans t (fun _ _ h => h))
      obtain ⟨A3, c3, rfl, s3, -, hc3, ha3⟩ := own_sl o3
      have S3 := Lib.hid s3
      have C3 := Lib.hid (And.intro ha3 hc3)
      clear t o3 s3 hc3 ha3 r1 r2 r3 r4
      obtain ⟨r1, r2, r3, r4⟩ := RW.out w3 T3.out
      go_wp2_with (go_at_call 26; refine stop ?_)
      unfold Stop
      refine (TH.out w3).mono ?_
      rintro r w4 ⟨rfl, t⟩
      have T4 := Lib.hid (T3.out.trans t (fun _ _ h => h))
      have S4 := Lib.hid ((t.sl S3.out (fun _ _ h => h)).more t.size)
      clear t r1 r2 r3 r4 S3
      obtain ⟨r1, r2, r3, r4⟩ := RW.out w4 T4.out
      go_wp2_with (go_at_call 31; refine stop ?_)
      unfold Stop
      refine (PH.out w4).mono ?_
      rintro r w5 ⟨u5, rfl, o5, t⟩
      have T5 := Lib.hid (T4.out.trans t (fun _ _ h => h))
      have S5 := Lib.hid ((t.sl S4.out (fun _ _ h => h)).more t.size)
      obtain ⟨A5, c5, rfl, s5, -, hc5, ha5⟩ := own_sl o5
      have SH5 := Lib.hid s5
      have C5 := Lib.hid (And.intro ha5 hc5)
      clear t o5 s5 hc5 ha5 r1 r2 r3 r4 S4
      have BIG := Lib.hid (show nl ≤ 1000 from mx)
      go_wp2_with (go_at_call 58; refine stop ?_)
      unfold Stop
      refine (TNE.out w5).mono ?_
      rintro r w6 ⟨u6, rfl, o6, t⟩
      have T6 := Lib.hid t
      have HO6 := Lib.hid o6
      have S6 := Lib.hid (t.sl S5.out (fun _ _ h => h))
      clear t o6
      obtain ⟨N6, hN6⟩ : ∃ N, N = numB fl := ⟨_, rfl⟩
      rw [← hN6] at HO6
      have lN6 : N6.length ≤ 9 := by rw [hN6]; exact numB_le (by omega)
      have HN6 := Lib.hid hN6
      clear hN6
      go_wp2_with (at_builtin; refine stop ?_)
      unfold Stop
      refine wpList_append_any_at (o := ⟨some 24, _, _, _, _, _⟩) rfl _ _ 22 rfl w5.heap.size 5 i0 (.int .u8 0) 1 Tryd.underlying22 hi hz0 hz1 hz2 rfl _ _ _ rfl HO6.out A3 fl c3 (F.map bv) rfl C3.out.1 (by rw [List.length_map]; exact HFL.out.symm) (fun j u hu => (S6.out j u hu).elim fun ad h => ⟨ad, h.1, h.2.2⟩) (bv_one _) (by unfold maxLen; have := BIG.out; omega) (by have := BIG.out; omega) (T6.out.size) ?_
      intro v7 w7 g1 g2 g3
      have HOw7 := Lib.hid (show w7.ownsRow w5.heap.size 5 1 v7 (N6 ++ F).length ((N6 ++ F).map bv) by
        rw [List.length_append, List.map_append, show F.length = fl by exact HFL.out.symm]; exact g1)
      have Tw7 := Lib.hid (T6.out.grown g2 (fun i hi e => by have := (HO6.out.lt i e.symm).1; omega))
      clear g1 g2 g3
      obtain ⟨L7, hL7⟩ : ∃ L, L = N6 ++ F := ⟨_, rfl⟩
      rw [← hL7] at HOw7
      have HL7 := Lib.hid hL7
      have lL7 : L7.length = N6.length + fl := by rw [hL7, List.length_append, show F.length = fl by exact HFL.out.symm]
      clear hL7
      have TW7 := Lib.hid (T5.out.trans Tw7.out (fun _ _ h => h))
      obtain ⟨r1, r2, r3, r4⟩ := RW.out w7 TW7.out
      go_wp2_with (go_at_call 58; refine stop ?_)
      unfold Stop
      refine (NL.out w7).mono ?_
      rintro r w8 ⟨u8, rfl, o8, t⟩
      have T8 := Lib.hid (Tw7.out.trans t (fun _ _ h => h))
      have HO8 := Lib.hid (t.own HOw7.out (fun _ _ h => h))
      obtain ⟨A8, c8, rfl, s8, -, hc8, ha8⟩ := own_sl o8
      have S8 := Lib.hid s8
      have C8 := Lib.hid ha8
      clear t o8 s8 hc8 ha8 r1 r2 r3 r4
      obtain ⟨N8, hN8⟩ : ∃ N, N = numB nl := ⟨_, rfl⟩
      rw [← hN8] at S8 ⊢
      have lN8 : N8.length ≤ 9 := by rw [hN8]; exact numB_le (by omega)
      have HN8 := Lib.hid hN8
      obtain ⟨m8, hm8⟩ : ∃ m, m = N8.length := ⟨_, rfl⟩
      rw [← hm8] at lN8
      rw [← hm8]
      have HM8 := Lib.hid hm8
      clear hN8 hm8
      go_wp2_with (at_builtin; refine stop ?_)
      unfold Stop
      refine wpList_append_any_at (o := ⟨some 31, _, _, _, _, _⟩) rfl _ _ 22 rfl w5.heap.size 5 i0 (.int .u8 0) 1 Tryd.underlying22 hi hz0 hz1 hz2 rfl _ _ _ rfl HO8.out A8 m8 c8 (N8.map bv) rfl C8.out (by rw [List.length_map]; exact HM8.out.symm) (fun j u hu => (S8.out j u hu).elim fun ad h => ⟨ad, h.1, h.2.2⟩) (bv_one _) (by unfold maxLen; have := BIG.out; omega) (by have := BIG.out; omega) (T8.out.size) ?_
      intro v9 w9 g1 g2 g3
      have HOw9 := Lib.hid (show w9.ownsRow w5.heap.size 5 1 v9 (L7 ++ N8).length ((L7 ++ N8).map bv) by
        rw [List.length_append, List.map_append, show N8.length = m8 by exact HM8.out.symm]; exact g1)
      have Tw9 := Lib.hid (T8.out.grown g2 (fun i hi e => by have := (HO8.out.lt i e.symm).1; omega))
      clear g1 g2 g3
      obtain ⟨L9, hL9⟩ : ∃ L, L = L7 ++ N8 := ⟨_, rfl⟩
      rw [← hL9] at HOw9
      have HL9 := Lib.hid hL9
      have lL9 : L9.length = L7.length + m8 := by rw [hL9, List.length_append, show N8.length = m8 by exact HM8.out.symm]
      clear hL9
      have TW9 := Lib.hid (T5.out.trans Tw9.out (fun _ _ h => h))
      go_upto_region 9 with fail
      go_loopw [5, 6] (fun v i wr => ∃ k : Nat, k ≤ nl ∧ i = .int .i64 (k : Int) ∧ wr.ownsRow w5.heap.size 5 1 v (L9 ++ (ids.take k).flatten).length ((L9 ++ (ids.take k).flatten).map bv) ∧ Turn (fun _ => False) w5 wr) (fun _ i _ => nl - (intOf i).toNat)
      case atStart => exact ⟨0, Nat.zero_le _, rfl, by simpa using HOw9.out, Tw9.out⟩
      case round =>
        obtain ⟨k, hk, rfl, ho, ht⟩ := hrel
        have HOr := Lib.hid ho
        have Tr := Lib.hid ht
        have TWr := Lib.hid (T5.out.trans Tr.out (fun _ _ h => h))
        clear ho ht
        obtain ⟨r1, r2, r3, r4⟩ := RW.out wr TWr.out
        by_cases hlt : k < nl
        · have t1 : decide ((k : Int) < (nl : Int)) = true := by rw [decide_eq_true_eq]; omega
          obtain ⟨d, hd⟩ : ∃ d, ids[k]? = some d := ⟨_, List.getElem?_eq_getElem (by rw [← HNL.out]; exact hlt)⟩
          obtain ⟨pb, po, hA, hpb, hrow⟩ := (PX.out wr TWr.out).row hd
          subst hA
          have TD := Lib.hid (fun w => TI.out d (List.mem_of_getElem? hd) w)
          have d32 := Lib.hid (ID32.out d (List.mem_of_getElem? hd))
          have HFT := Lib.hid (flat32_take ids k d hd)
          have lfl := flat32_len ids ID32.out k (by rw [← HNL.out]; exact hk)
          obtain ⟨DC, hDC⟩ : ∃ D, D = (d.map bv).toArray := ⟨_, rfl⟩
          rw [← hDC] at TD hrow
          obtain ⟨Lk, hLk⟩ : ∃ L, L = L9 ++ (ids.take k).flatten := ⟨_, rfl⟩
          have lLk : Lk.length = L9.length + k * 32 := by rw [hLk, List.length_append, lfl]
          rw [← hLk] at HOr
          have HLk := Lib.hid hLk
          clear hd hDC hLk lfl
          go_wp2_with (go_at_call 59; refine stop ?_)
          unfold Stop
          refine (TD.out wr).mono ?_
          rintro r wa ⟨ua, rfl, oa, ta⟩
          have ta := Turn.of_below ta
          have Ta := Lib.hid (Tr.out.trans ta (fun _ _ h => h))
          have HOa := Lib.hid (ta.own HOr.out (fun _ _ h => h))
          obtain ⟨Aa, ca, rfl, sa, -, hca, haa⟩ := own_sl oa
          have Sa := Lib.hid sa
          have Ca := Lib.hid haa
          clear ta oa sa hca haa hrow r1 r2 r3 r4
          go_wp2_with (at_builtin; refine stop ?_)
          unfold Stop
          refine wpList_append_any_at (o := ⟨some 46, _, _, _, _, _⟩) rfl _ _ 22 rfl w5.heap.size 5 i0 (.int .u8 0) 1 Tryd.underlying22 hi hz0 hz1 hz2 rfl _ _ _ rfl HOa.out Aa 32 ca (d.map bv) rfl Ca.out (by rw [List.length_map]; exact d32.out) (fun j u hu => (Sa.out j u hu).elim fun ad h => ⟨ad, h.1, h.2.2⟩) (bv_one _) (by unfold maxLen; have := BIG.out; omega) (by have := BIG.out; omega) (Ta.out.size) ?_
          intro vb wb g1 g2 g3
          have HOwb := Lib.hid (show wb.ownsRow w5.heap.size 5 1 vb (Lk ++ d).length ((Lk ++ d).map bv) by
            rw [List.length_append, List.map_append, show d.length = 32 by exact d32.out]; exact g1)
          have Twb := Lib.hid (Ta.out.grown g2 (fun i hi e => by have := (HOa.out.lt i e.symm).1; omega))
          clear g1 g2 g3
          obtain ⟨Lb, hLb⟩ : ∃ L, L = Lk ++ d := ⟨_, rfl⟩
          rw [← hLb] at HOwb
          have HLb := Lib.hid hLb
          have lLb : Lb.length = Lk.length + 32 := by rw [hLb, List.length_append, show d.length = 32 by exact d32.out]
          clear hLb
          go_wp2_with fail
          go_roundw
          case rel => exact ⟨k + 1, by omega, by go_num, by rw [HFT.out, ← List.append_assoc, ← HLk.out, ← HLb.out]; exact HOwb.out, Twb.out⟩
          case measure => simp [intOf]; omega
        · obtain rfl : k = nl := by omega
          have t1 : decide ((k : Int) < (k : Int)) = false := by rw [decide_eq_false_iff_not]; omega
          have lfl := flat32_len ids ID32.out k (by rw [← HNL.out]; exact hk)
          have hfull : ids.take k = ids := List.take_of_length_le (by rw [← HNL.out]; exact Nat.le_refl _)
          rw [hfull] at lfl
          obtain ⟨LA, hLA⟩ : ∃ L, L = L9 ++ ids.flatten := ⟨_, rfl⟩
          have lLA : LA.length = L9.length + k * 32 := by rw [hLA, List.length_append, lfl]
          have HOA := Lib.hid (show wr.ownsRow w5.heap.size 5 1 _ LA.length (LA.map bv) by have := HOr.out; rw [hfull, ← hLA] at this; exact this)
          have HLA := Lib.hid hLA
          have SHr := Lib.hid (Tr.out.sl SH5.out (fun _ _ h => h))
          clear hLA lfl hfull hlt hk HOr
          go_wp2_with (go_at_call 58; refine stop ?_)
          unfold Stop
          refine (TNH.out wr).mono ?_
          rintro r wa ⟨ua, rfl, oa, ta⟩
          have Ta := Lib.hid (Tr.out.trans ta (fun _ _ h => h))
          have HOa := Lib.hid (ta.own HOA.out (fun _ _ h => h))
          have SHa := Lib.hid (ta.sl SHr.out (fun _ _ h => h))
          obtain ⟨Aa, ca, rfl, sa, -, hca, haa⟩ := own_sl oa
          have Sa := Lib.hid sa
          have Ca := Lib.hid haa
          clear ta oa sa hca haa r1 r2 r3 r4
          obtain ⟨NA, hNA⟩ : ∃ N, N = numB gl := ⟨_, rfl⟩
          rw [← hNA] at Sa ⊢
          have lNA : NA.length ≤ 9 := by rw [hNA]; exact numB_le (by omega)
          have HNA := Lib.hid hNA
          obtain ⟨ma, hma⟩ : ∃ m, m = NA.length := ⟨_, rfl⟩
          rw [← hma] at lNA
          rw [← hma]
          have HMA := Lib.hid hma
          clear hNA hma
          go_wp2_with (at_builtin; refine stop ?_)
          unfold Stop
          refine wpList_append_any_at (o := ⟨some 52, _, _, _, _, _⟩) rfl _ _ 22 rfl w5.heap.size 5 i0 (.int .u8 0) 1 Tryd.underlying22 hi hz0 hz1 hz2 rfl _ _ _ rfl HOa.out Aa ma ca (NA.map bv) rfl Ca.out (by rw [List.length_map]; exact HMA.out.symm) (fun j u hu => (Sa.out j u hu).elim fun ad h => ⟨ad, h.1, h.2.2⟩) (bv_one _) (by unfold maxLen; have := BIG.out; omega) (by have := BIG.out; omega) (Ta.out.size) ?_
          intro vb wb g1 g2 g3
          have HOwb := Lib.hid (show wb.ownsRow w5.heap.size 5 1 vb (LA ++ NA).length ((LA ++ NA).map bv) by
            rw [List.length_append, List.map_append, show NA.length = ma by exact HMA.out.symm]; exact g1)
          have Twb := Lib.hid (Ta.out.grown g2 (fun i hi e => by have := (HOa.out.lt i e.symm).1; omega))
          clear g1 g2 g3
          obtain ⟨LB, hLB⟩ : ∃ L, L = LA ++ NA := ⟨_, rfl⟩
          rw [← hLB] at HOwb
          have HLB := Lib.hid hLB
          have lLB : LB.length = LA.length + ma := by rw [hLB, List.length_append, show NA.length = ma by exact HMA.out.symm]
          clear hLB
          have SHb := Lib.hid (show Sl wb w5.heap.size A5 (G.map bv) from Twb.out.sl SH5.out (fun _ _ h => h))
          go_wp2_with (at_builtin; refine stop ?_)
          unfold Stop
          refine wpList_append_any_at (o := ⟨some 55, _, _, _, _, _⟩) rfl _ _ 22 rfl w5.heap.size 5 i0 (.int .u8 0) 1 Tryd.underlying22 hi hz0 hz1 hz2 rfl _ _ _ rfl HOwb.out A5 gl c5 (G.map bv) rfl C5.out.1 (by rw [List.length_map]; exact HGL.out.symm) (fun j u hu => (SHb.out j u hu).elim fun ad h => ⟨ad, h.1, h.2.2⟩) (bv_one _) (by unfold maxLen; have := BIG.out; omega) (by have := BIG.out; omega) (Twb.out.size) ?_
          intro vc wc g1 g2 g3
          have HOwc := Lib.hid (show wc.ownsRow w5.heap.size 5 1 vc (LB ++ G).length ((LB ++ G).map bv) by
            rw [List.length_append, List.map_append, show G.length = gl by exact HGL.out.symm]; exact g1)
          have Twc := Lib.hid (Twb.out.grown g2 (fun i hi e => by have := (HOwb.out.lt i e.symm).1; omega))
          clear g1 g2 g3
          obtain ⟨LC, hLC⟩ : ∃ L, L = LB ++ G := ⟨_, rfl⟩
          rw [← hLC] at HOwc
          have HLC := Lib.hid hLC
          have lLC : LC.length = LB.length + gl := by rw [hLC, List.length_append, show G.length = gl by exact HGL.out.symm]
          clear hLC
          have TWc := Lib.hid (T5.out.trans Twc.out (fun _ _ h => h))
          obtain ⟨r1, r2, r3, r4⟩ := RW.out wc TWc.out
          go_wp2_with (go_at_call 59; refine stop ?_)
          unfold Stop
          refine (TT.out wc).mono ?_
          rintro r wd ⟨ud, rfl, od, td⟩
          have td := Turn.of_below td
          have Td := Lib.hid (Twc.out.trans td (fun _ _ h => h))
          have HOd := Lib.hid (td.own HOwc.out (fun _ _ h => h))
          obtain ⟨Ad, cd, rfl, sd, -, hcd, had⟩ := own_sl od
          have Sd := Lib.hid sd
          have Cd := Lib.hid had
          clear td od sd hcd had r1 r2 r3 r4
          go_wp2_with (at_builtin; refine stop ?_)
          unfold Stop
          refine wpList_append_any_at (o := ⟨some 60, _, _, _, _, _⟩) rfl _ _ 22 rfl w5.heap.size 5 i0 (.int .u8 0) 1 Tryd.underlying22 hi hz0 hz1 hz2 rfl _ _ _ rfl HOd.out Ad 32 cd (x.t.map bv) rfl Cd.out (by rw [List.length_map]; exact TL.out) (fun j u hu => (Sd.out j u hu).elim fun ad h => ⟨ad, h.1, h.2.2⟩) (bv_one _) (by unfold maxLen; have := BIG.out; omega) (by have := BIG.out; omega) (Td.out.size) ?_
          intro ve we g1 g2 g3
          have HOwe := Lib.hid (show we.ownsRow w5.heap.size 5 1 ve (LC ++ x.t).length ((LC ++ x.t).map bv) by
            rw [List.length_append, List.map_append, show x.t.length = 32 by exact TL.out]; exact g1)
          have Twe := Lib.hid (Td.out.grown g2 (fun i hi e => by have := (HOd.out.lt i e.symm).1; omega))
          clear g1 g2 g3
          obtain ⟨LD, hLD⟩ : ∃ L, L = LC ++ x.t := ⟨_, rfl⟩
          rw [← hLD] at HOwe
          have HLD := Lib.hid hLD
          have lLD : LD.length = LC.length + 32 := by rw [hLD, List.length_append, show x.t.length = 32 by exact TL.out]
          clear hLD
          go_wp2
          go_ret
          have hL : formC x = LD := by
            rw [FC.out, PFE.out, ← HFL.out, PFH.out, ← HGL.out, HLD.out, HLC.out, HLB.out, HLA.out, HL9.out, HL7.out, HN6.out, HN8.out, HNA.out]
            simp only [List.append_assoc]
          rw [hL]
          exact ⟨_, rfl, own_more HOwe.out (by have := HB.out; have := T5.out.size; omega), T1.out.trans (T5.out.trans Twe.out (fun _ _ h => h)) (fun _ _ h => h)⟩
    · rw [decide_eq_false oh] at TH
      have PE := Lib.hid (fun w => PE.out w oe)
      obtain ⟨F, hF⟩ : ∃ F, F = formE x.e := ⟨_, rfl⟩
      rw [← hF] at PE
      obtain ⟨fl, hfl⟩ : ∃ n, n = F.length := ⟨_, rfl⟩
      rw [← hfl] at PE
      have HFL := Lib.hid hfl
      have lfl : fl ≤ 100 := by rw [hfl, hF]; exact LE.out oe
      have PFE := Lib.hid ((PEy.out oe).trans hF.symm)
      have TNE := Lib.hid (fun w => rnum_any fl w (by omega))
      clear hF hfl
      have PFH := Lib.hid (PHn.out oh)
      have TNH := Lib.hid (fun w => rnum_any 0 w (by decide))
      clear oe oh
      go_enter Tryd.func21, Tryd.ntmps21
      go_upto_region 1 with fail
      change Code.wp _ _ _ _ (w.alloc (.cells C 32))
      rw [← hw1]
      clear hw1
      obtain ⟨r1, r2, r3, r4⟩ := RW.out w1 T11.out
      go_wp2_with (go_at_call 25; refine stop ?_)
      unfold Stop
      refine (TE.out w1).mono ?_
      rintro r w2 ⟨rfl, t⟩
      have T2 := Lib.hid t
      clear t r1 r2 r3 r4
      obtain ⟨r1, r2, r3, r4⟩ := RW.out w2 T2.out
      go_wp2_with (go_at_call 29; refine stop ?_)
      unfold Stop
      refine (PE.out w2).mono ?_
      rintro r w3 ⟨u3, rfl, o3, t⟩
      have T3 := Lib.hid (T2.out.trans t (fun _ _ h => h))
      obtain ⟨A3, c3, rfl, s3, -, hc3, ha3⟩ := own_sl o3
      have S3 := Lib.hid s3
      have C3 := Lib.hid (And.intro ha3 hc3)
      clear t o3 s3 hc3 ha3 r1 r2 r3 r4
      obtain ⟨r1, r2, r3, r4⟩ := RW.out w3 T3.out
      go_wp2_with (go_at_call 26; refine stop ?_)
      unfold Stop
      refine (TH.out w3).mono ?_
      rintro r w4 ⟨rfl, t⟩
      have T4 := Lib.hid (T3.out.trans t (fun _ _ h => h))
      have S4 := Lib.hid ((t.sl S3.out (fun _ _ h => h)).more t.size)
      clear t r1 r2 r3 r4 S3
      obtain ⟨r1, r2, r3, r4⟩ := RW.out w4 T4.out
      obtain ⟨w5, hw5⟩ : ∃ w5, w5 = w4 := ⟨_, rfl⟩
      have T5 := Lib.hid (show Turn (fun _ => False) w1 w5 by rw [hw5]; exact T4.out)
      have S5 := Lib.hid (show Sl w5 w5.heap.size A3 (F.map bv) by rw [hw5]; exact S4.out)
      have SH5 := Lib.hid (show Sl w5 w5.heap.size none (([] : List B8).map bv) from fun j u hu => by simp at hu)
      have C5 := Lib.hid (show ((none : Option Addr) = none → (0 : Nat) = 0) ∧ (0 : Nat) ≤ 0 from ⟨fun _ => rfl, Nat.le_refl _⟩)
      clear r1 r2 r3 r4 S4
      go_upto_region 6 with fail
      rw [← hw5]
      clear hw5
      have BIG := Lib.hid (show nl ≤ 1000 from mx)
      go_wp2_with (go_at_call 58; refine stop ?_)
      unfold Stop
      refine (TNE.out w5).mono ?_
      rintro r w6 ⟨u6, rfl, o6, t⟩
      have T6 := Lib.hid t
      have HO6 := Lib.hid o6
      have S6 := Lib.hid (t.sl S5.out (fun _ _ h => h))
      clear t o6
      obtain ⟨N6, hN6⟩ : ∃ N, N = numB fl := ⟨_, rfl⟩
      rw [← hN6] at HO6
      have lN6 : N6.length ≤ 9 := by rw [hN6]; exact numB_le (by omega)
      have HN6 := Lib.hid hN6
      clear hN6
      go_wp2_with (at_builtin; refine stop ?_)
      unfold Stop
      refine wpList_append_any_at (o := ⟨some 24, _, _, _, _, _⟩) rfl _ _ 22 rfl w5.heap.size 5 i0 (.int .u8 0) 1 Tryd.underlying22 hi hz0 hz1 hz2 rfl _ _ _ rfl HO6.out A3 fl c3 (F.map bv) rfl C3.out.1 (by rw [List.length_map]; exact HFL.out.symm) (fun j u hu => (S6.out j u hu).elim fun ad h => ⟨ad, h.1, h.2.2⟩) (bv_one _) (by unfold maxLen; have := BIG.out; omega) (by have := BIG.out; omega) (T6.out.size) ?_
      intro v7 w7 g1 g2 g3
      have HOw7 := Lib.hid (show w7.ownsRow w5.heap.size 5 1 v7 (N6 ++ F).length ((N6 ++ F).map bv) by
        rw [List.length_append, List.map_append, show F.length = fl by exact HFL.out.symm]; exact g1)
      have Tw7 := Lib.hid (T6.out.grown g2 (fun i hi e => by have := (HO6.out.lt i e.symm).1; omega))
      clear g1 g2 g3
      obtain ⟨L7, hL7⟩ : ∃ L, L = N6 ++ F := ⟨_, rfl⟩
      rw [← hL7] at HOw7
      have HL7 := Lib.hid hL7
      have lL7 : L7.length = N6.length + fl := by rw [hL7, List.length_append, show F.length = fl by exact HFL.out.symm]
      clear hL7
      have TW7 := Lib.hid (T5.out.trans Tw7.out (fun _ _ h => h))
      obtain ⟨r1, r2, r3, r4⟩ := RW.out w7 TW7.out
      go_wp2_with (go_at_call 58; refine stop ?_)
      unfold Stop
      refine (NL.out w7).mono ?_
      rintro r w8 ⟨u8, rfl, o8, t⟩
      have T8 := Lib.hid (Tw7.out.trans t (fun _ _ h => h))
      have HO8 := Lib.hid (t.own HOw7.out (fun _ _ h => h))
      obtain ⟨A8, c8, rfl, s8, -, hc8, ha8⟩ := own_sl o8
      have S8 := Lib.hid s8
      have C8 := Lib.hid ha8
      clear t o8 s8 hc8 ha8 r1 r2 r3 r4
      obtain ⟨N8, hN8⟩ : ∃ N, N = numB nl := ⟨_, rfl⟩
      rw [← hN8] at S8 ⊢
      have lN8 : N8.length ≤ 9 := by rw [hN8]; exact numB_le (by omega)
      have HN8 := Lib.hid hN8
      obtain ⟨m8, hm8⟩ : ∃ m, m = N8.length := ⟨_, rfl⟩
      rw [← hm8] at lN8
      rw [← hm8]
      have HM8 := Lib.hid hm8
      clear hN8 hm8
      go_wp2_with (at_builtin; refine stop ?_)
      unfold Stop
      refine wpList_append_any_at (o := ⟨some 31, _, _, _, _, _⟩) rfl _ _ 22 rfl w5.heap.size 5 i0 (.int .u8 0) 1 Tryd.underlying22 hi hz0 hz1 hz2 rfl _ _ _ rfl HO8.out A8 m8 c8 (N8.map bv) rfl C8.out (by rw [List.length_map]; exact HM8.out.symm) (fun j u hu => (S8.out j u hu).elim fun ad h => ⟨ad, h.1, h.2.2⟩) (bv_one _) (by unfold maxLen; have := BIG.out; omega) (by have := BIG.out; omega) (T8.out.size) ?_
      intro v9 w9 g1 g2 g3
      have HOw9 := Lib.hid (show w9.ownsRow w5.heap.size 5 1 v9 (L7 ++ N8).length ((L7 ++ N8).map bv) by
        rw [List.length_append, List.map_append, show N8.length = m8 by exact HM8.out.symm]; exact g1)
      have Tw9 := Lib.hid (T8.out.grown g2 (fun i hi e => by have := (HO8.out.lt i e.symm).1; omega))
      clear g1 g2 g3
      obtain ⟨L9, hL9⟩ : ∃ L, L = L7 ++ N8 := ⟨_, rfl⟩
      rw [← hL9] at HOw9
      have HL9 := Lib.hid hL9
      have lL9 : L9.length = L7.length + m8 := by rw [hL9, List.length_append, show N8.length = m8 by exact HM8.out.symm]
      clear hL9
      have TW9 := Lib.hid (T5.out.trans Tw9.out (fun _ _ h => h))
      go_upto_region 9 with fail
      go_loopw [5, 6] (fun v i wr => ∃ k : Nat, k ≤ nl ∧ i = .int .i64 (k : Int) ∧ wr.ownsRow w5.heap.size 5 1 v (L9 ++ (ids.take k).flatten).length ((L9 ++ (ids.take k).flatten).map bv) ∧ Turn (fun _ => False) w5 wr) (fun _ i _ => nl - (intOf i).toNat)
      case atStart => exact ⟨0, Nat.zero_le _, rfl, by simpa using HOw9.out, Tw9.out⟩
      case round =>
        obtain ⟨k, hk, rfl, ho, ht⟩ := hrel
        have HOr := Lib.hid ho
        have Tr := Lib.hid ht
        have TWr := Lib.hid (T5.out.trans Tr.out (fun _ _ h => h))
        clear ho ht
        obtain ⟨r1, r2, r3, r4⟩ := RW.out wr TWr.out
        by_cases hlt : k < nl
        · have t1 : decide ((k : Int) < (nl : Int)) = true := by rw [decide_eq_true_eq]; omega
          obtain ⟨d, hd⟩ : ∃ d, ids[k]? = some d := ⟨_, List.getElem?_eq_getElem (by rw [← HNL.out]; exact hlt)⟩
          obtain ⟨pb, po, hA, hpb, hrow⟩ := (PX.out wr TWr.out).row hd
          subst hA
          have TD := Lib.hid (fun w => TI.out d (List.mem_of_getElem? hd) w)
          have d32 := Lib.hid (ID32.out d (List.mem_of_getElem? hd))
          have HFT := Lib.hid (flat32_take ids k d hd)
          have lfl := flat32_len ids ID32.out k (by rw [← HNL.out]; exact hk)
          obtain ⟨DC, hDC⟩ : ∃ D, D = (d.map bv).toArray := ⟨_, rfl⟩
          rw [← hDC] at TD hrow
          obtain ⟨Lk, hLk⟩ : ∃ L, L = L9 ++ (ids.take k).flatten := ⟨_, rfl⟩
          have lLk : Lk.length = L9.length + k * 32 := by rw [hLk, List.length_append, lfl]
          rw [← hLk] at HOr
          have HLk := Lib.hid hLk
          clear hd hDC hLk lfl
          go_wp2_with (go_at_call 59; refine stop ?_)
          unfold Stop
          refine (TD.out wr).mono ?_
          rintro r wa ⟨ua, rfl, oa, ta⟩
          have ta := Turn.of_below ta
          have Ta := Lib.hid (Tr.out.trans ta (fun _ _ h => h))
          have HOa := Lib.hid (ta.own HOr.out (fun _ _ h => h))
          obtain ⟨Aa, ca, rfl, sa, -, hca, haa⟩ := own_sl oa
          have Sa := Lib.hid sa
          have Ca := Lib.hid haa
          clear ta oa sa hca haa hrow r1 r2 r3 r4
          go_wp2_with (at_builtin; refine stop ?_)
          unfold Stop
          refine wpList_append_any_at (o := ⟨some 46, _, _, _, _, _⟩) rfl _ _ 22 rfl w5.heap.size 5 i0 (.int .u8 0) 1 Tryd.underlying22 hi hz0 hz1 hz2 rfl _ _ _ rfl HOa.out Aa 32 ca (d.map bv) rfl Ca.out (by rw [List.length_map]; exact d32.out) (fun j u hu => (Sa.out j u hu).elim fun ad h => ⟨ad, h.1, h.2.2⟩) (bv_one _) (by unfold maxLen; have := BIG.out; omega) (by have := BIG.out; omega) (Ta.out.size) ?_
          intro vb wb g1 g2 g3
          have HOwb := Lib.hid (show wb.ownsRow w5.heap.size 5 1 vb (Lk ++ d).length ((Lk ++ d).map bv) by
            rw [List.length_append, List.map_append, show d.length = 32 by exact d32.out]; exact g1)
          have Twb := Lib.hid (Ta.out.grown g2 (fun i hi e => by have := (HOa.out.lt i e.symm).1; omega))
          clear g1 g2 g3
          obtain ⟨Lb, hLb⟩ : ∃ L, L = Lk ++ d := ⟨_, rfl⟩
          rw [← hLb] at HOwb
          have HLb := Lib.hid hLb
          have lLb : Lb.length = Lk.length + 32 := by rw [hLb, List.length_append, show d.length = 32 by exact d32.out]
          clear hLb
          go_wp2_with fail
          go_roundw
          case rel => exact ⟨k + 1, by omega, by go_num, by rw [HFT.out, ← List.append_assoc, ← HLk.out, ← HLb.out]; exact HOwb.out, Twb.out⟩
          case measure => simp [intOf]; omega
        · obtain rfl : k = nl := by omega
          have t1 : decide ((k : Int) < (k : Int)) = false := by rw [decide_eq_false_iff_not]; omega
          have lfl := flat32_len ids ID32.out k (by rw [← HNL.out]; exact hk)
          have hfull : ids.take k = ids := List.take_of_length_le (by rw [← HNL.out]; exact Nat.le_refl _)
          rw [hfull] at lfl
          obtain ⟨LA, hLA⟩ : ∃ L, L = L9 ++ ids.flatten := ⟨_, rfl⟩
          have lLA : LA.length = L9.length + k * 32 := by rw [hLA, List.length_append, lfl]
          have HOA := Lib.hid (show wr.ownsRow w5.heap.size 5 1 _ LA.length (LA.map bv) by have := HOr.out; rw [hfull, ← hLA] at this; exact this)
          have HLA := Lib.hid hLA
          have SHr := Lib.hid (Tr.out.sl SH5.out (fun _ _ h => h))
          clear hLA lfl hfull hlt hk HOr
          go_wp2_with (go_at_call 58; refine stop ?_)
          unfold Stop
          refine (TNH.out wr).mono ?_
          rintro r wa ⟨ua, rfl, oa, ta⟩
          have Ta := Lib.hid (Tr.out.trans ta (fun _ _ h => h))
          have HOa := Lib.hid (ta.own HOA.out (fun _ _ h => h))
          have SHa := Lib.hid (ta.sl SHr.out (fun _ _ h => h))
          obtain ⟨Aa, ca, rfl, sa, -, hca, haa⟩ := own_sl oa
          have Sa := Lib.hid sa
          have Ca := Lib.hid haa
          clear ta oa sa hca haa r1 r2 r3 r4
          obtain ⟨NA, hNA⟩ : ∃ N, N = numB 0 := ⟨_, rfl⟩
          rw [← hNA] at Sa ⊢
          have lNA : NA.length ≤ 9 := by rw [hNA]; exact numB_le (by omega)
          have HNA := Lib.hid hNA
          obtain ⟨ma, hma⟩ : ∃ m, m = NA.length := ⟨_, rfl⟩
          rw [← hma] at lNA
          rw [← hma]
          have HMA := Lib.hid hma
          clear hNA hma
          go_wp2_with (at_builtin; refine stop ?_)
          unfold Stop
          refine wpList_append_any_at (o := ⟨some 52, _, _, _, _, _⟩) rfl _ _ 22 rfl w5.heap.size 5 i0 (.int .u8 0) 1 Tryd.underlying22 hi hz0 hz1 hz2 rfl _ _ _ rfl HOa.out Aa ma ca (NA.map bv) rfl Ca.out (by rw [List.length_map]; exact HMA.out.symm) (fun j u hu => (Sa.out j u hu).elim fun ad h => ⟨ad, h.1, h.2.2⟩) (bv_one _) (by unfold maxLen; have := BIG.out; omega) (by have := BIG.out; omega) (Ta.out.size) ?_
          intro vb wb g1 g2 g3
          have HOwb := Lib.hid (show wb.ownsRow w5.heap.size 5 1 vb (LA ++ NA).length ((LA ++ NA).map bv) by
            rw [List.length_append, List.map_append, show NA.length = ma by exact HMA.out.symm]; exact g1)
          have Twb := Lib.hid (Ta.out.grown g2 (fun i hi e => by have := (HOa.out.lt i e.symm).1; omega))
          clear g1 g2 g3
          obtain ⟨LB, hLB⟩ : ∃ L, L = LA ++ NA := ⟨_, rfl⟩
          rw [← hLB] at HOwb
          have HLB := Lib.hid hLB
          have lLB : LB.length = LA.length + ma := by rw [hLB, List.length_append, show NA.length = ma by exact HMA.out.symm]
          clear hLB
          have SHb := Lib.hid (show Sl wb w5.heap.size none (([] : List B8).map bv) from Twb.out.sl SH5.out (fun _ _ h => h))
          go_wp2_with (at_builtin; refine stop ?_)
          unfold Stop
          refine wpList_append_any_at (o := ⟨some 55, _, _, _, _, _⟩) rfl _ _ 22 rfl w5.heap.size 5 i0 (.int .u8 0) 1 Tryd.underlying22 hi hz0 hz1 hz2 rfl _ _ _ rfl HOwb.out none 0 0 (([] : List B8).map bv) rfl (fun _ => rfl) (by rw [List.length_map]; rfl) (fun j u hu => (SHb.out j u hu).elim fun ad h => ⟨ad, h.1, h.2.2⟩) (bv_one _) (by unfold maxLen; have := BIG.out; omega) (by have := BIG.out; omega) (Twb.out.size) ?_
          intro vc wc g1 g2 g3
          have HOwc := Lib.hid (show wc.ownsRow w5.heap.size 5 1 vc (LB ++ ([] : List B8)).length ((LB ++ ([] : List B8)).map bv) by
            rw [List.length_append, List.map_append, show ([] : List B8).length = 0 by rfl]; exact g1)
          have Twc := Lib.hid (Twb.out.grown g2 (fun i hi e => by have := (HOwb.out.lt i e.symm).1; omega))
          clear g1 g2 g3
          obtain ⟨LC, hLC⟩ : ∃ L, L = LB ++ ([] : List B8) := ⟨_, rfl⟩
          rw [← hLC] at HOwc
          have HLC := Lib.hid hLC
          have lLC : LC.length = LB.length + 0 := by rw [hLC, List.length_append, show ([] : List B8).length = 0 by rfl]
          clear hLC
          have TWc := Lib.hid (T5.out.trans Twc.out (fun _ _ h => h))
          obtain ⟨r1, r2, r3, r4⟩ := RW.out wc TWc.out
          go_wp2_with (go_at_call 59; refine stop ?_)
          unfold Stop
          refine (TT.out wc).mono ?_
          rintro r wd ⟨ud, rfl, od, td⟩
          have td := Turn.of_below td
          have Td := Lib.hid (Twc.out.trans td (fun _ _ h => h))
          have HOd := Lib.hid (td.own HOwc.out (fun _ _ h => h))
          obtain ⟨Ad, cd, rfl, sd, -, hcd, had⟩ := own_sl od
          have Sd := Lib.hid sd
          have Cd := Lib.hid had
          clear td od sd hcd had r1 r2 r3 r4
          go_wp2_with (at_builtin; refine stop ?_)
          unfold Stop
          refine wpList_append_any_at (o := ⟨some 60, _, _, _, _, _⟩) rfl _ _ 22 rfl w5.heap.size 5 i0 (.int .u8 0) 1 Tryd.underlying22 hi hz0 hz1 hz2 rfl _ _ _ rfl HOd.out Ad 32 cd (x.t.map bv) rfl Cd.out (by rw [List.length_map]; exact TL.out) (fun j u hu => (Sd.out j u hu).elim fun ad h => ⟨ad, h.1, h.2.2⟩) (bv_one _) (by unfold maxLen; have := BIG.out; omega) (by have := BIG.out; omega) (Td.out.size) ?_
          intro ve we g1 g2 g3
          have HOwe := Lib.hid (show we.ownsRow w5.heap.size 5 1 ve (LC ++ x.t).length ((LC ++ x.t).map bv) by
            rw [List.length_append, List.map_append, show x.t.length = 32 by exact TL.out]; exact g1)
          have Twe := Lib.hid (Td.out.grown g2 (fun i hi e => by have := (HOd.out.lt i e.symm).1; omega))
          clear g1 g2 g3
          obtain ⟨LD, hLD⟩ : ∃ L, L = LC ++ x.t := ⟨_, rfl⟩
          rw [← hLD] at HOwe
          have HLD := Lib.hid hLD
          have lLD : LD.length = LC.length + 32 := by rw [hLD, List.length_append, show x.t.length = 32 by exact TL.out]
          clear hLD
          go_wp2
          go_ret
          have hL : formC x = LD := by
            rw [FC.out, PFE.out, ← HFL.out, PFH.out, show ([] : List B8).length = 0 from rfl, HLD.out, HLC.out, HLB.out, HLA.out, HL9.out, HL7.out, HN6.out, HN8.out, HNA.out]
            simp only [List.append_assoc, List.nil_append, List.append_nil]
          rw [hL]
          exact ⟨_, rfl, own_more HOwe.out (by have := HB.out; have := T5.out.size; omega), T1.out.trans (T5.out.trans Twe.out (fun _ _ h => h)) (fun _ _ h => h)⟩
  · rw [decide_eq_false oe] at TE
    by_cases oh : okH x.h
    · rw [decide_eq_true oh] at TH
      have PFE := Lib.hid (PEn.out oe)
      have TNE := Lib.hid (fun w => rnum_any 0 w (by decide))
      have PH := Lib.hid (fun w => PH.out w oh)
      obtain ⟨G, hG⟩ : ∃ G, G = formH x.h := ⟨_, rfl⟩
      rw [← hG] at PH
      obtain ⟨gl, hgl⟩ : ∃ n, n = G.length := ⟨_, rfl⟩
      rw [← hgl] at PH
      have HGL := Lib.hid hgl
      have lgl : gl ≤ 100 := by rw [hgl, hG]; exact LH.out oh
      have PFH := Lib.hid ((PHy.out oh).trans hG.symm)
      have TNH := Lib.hid (fun w => rnum_any gl w (by omega))
      clear hG hgl
      clear oe oh
      go_enter Tryd.func21, Tryd.ntmps21
      go_upto_region 1 with fail
      change Code.wp _ _ _ _ (w.alloc (.cells C 32))
      rw [← hw1]
      clear hw1
      obtain ⟨r1, r2, r3, r4⟩ := RW.out w1 T11.out
      go_wp2_with (go_at_call 25; refine stop ?_)
      unfold Stop
      refine (TE.out w1).mono ?_
      rintro r w2 ⟨rfl, t⟩
      have T2 := Lib.hid t
      clear t r1 r2 r3 r4
      obtain ⟨r1, r2, r3, r4⟩ := RW.out w2 T2.out
      go_wp2_with (go_at_call 26; refine stop ?_)
      unfold Stop
      refine (TH.out w2).mono ?_
      rintro r w4 ⟨rfl, t⟩
      have T4 := Lib.hid (T2.out.trans t (fun _ _ h => h))
      have S4 := Lib.hid (show Sl w4 w4.heap.size none (([] : List B8).map bv) from fun j u hu => by simp at hu)
      have C3 := Lib.hid (show ((none : Option Addr) = none → (0 : Nat) = 0) ∧ (0 : Nat) ≤ 0 from ⟨fun _ => rfl, Nat.le_refl _⟩)
      clear t r1 r2 r3 r4
      obtain ⟨r1, r2, r3, r4⟩ := RW.out w4 T4.out
      go_wp2_with (go_at_call 31; refine stop ?_)
      unfold Stop
      refine (PH.out w4).mono ?_
      rintro r w5 ⟨u5, rfl, o5, t⟩
      have T5 := Lib.hid (T4.out.trans t (fun _ _ h => h))
      have S5 := Lib.hid ((t.sl S4.out (fun _ _ h => h)).more t.size)
      obtain ⟨A5, c5, rfl, s5, -, hc5, ha5⟩ := own_sl o5
      have SH5 := Lib.hid s5
      have C5 := Lib.hid (And.intro ha5 hc5)
      clear t o5 s5 hc5 ha5 r1 r2 r3 r4 S4
      have BIG := Lib.hid (show nl ≤ 1000 from mx)
      go_wp2_with (go_at_call 58; refine stop ?_)
      unfold Stop
      refine (TNE.out w5).mono ?_
      rintro r w6 ⟨u6, rfl, o6, t⟩
      have T6 := Lib.hid t
      have HO6 := Lib.hid o6
      have S6 := Lib.hid (t.sl S5.out (fun _ _ h => h))
      clear t o6
      obtain ⟨N6, hN6⟩ : ∃ N, N = numB 0 := ⟨_, rfl⟩
      rw [← hN6] at HO6
      have lN6 : N6.length ≤ 9 := by rw [hN6]; exact numB_le (by omega)
      have HN6 := Lib.hid hN6
      clear hN6
      go_wp2_with (at_builtin; refine stop ?_)
      unfold Stop
      refine wpList_append_any_at (o := ⟨some 24, _, _, _, _, _⟩) rfl _ _ 22 rfl w5.heap.size 5 i0 (.int .u8 0) 1 Tryd.underlying22 hi hz0 hz1 hz2 rfl _ _ _ rfl HO6.out none 0 0 (([] : List B8).map bv) rfl (fun _ => rfl) (by rw [List.length_map]; rfl) (fun j u hu => (S6.out j u hu).elim fun ad h => ⟨ad, h.1, h.2.2⟩) (bv_one _) (by unfold maxLen; have := BIG.out; omega) (by have := BIG.out; omega) (T6.out.size) ?_
      intro v7 w7 g1 g2 g3
      have HOw7 := Lib.hid (show w7.ownsRow w5.heap.size 5 1 v7 (N6 ++ ([] : List B8)).length ((N6 ++ ([] : List B8)).map bv) by
        rw [List.length_append, List.map_append, show ([] : List B8).length = 0 by rfl]; exact g1)
      have Tw7 := Lib.hid (T6.out.grown g2 (fun i hi e => by have := (HO6.out.lt i e.symm).1; omega))
      clear g1 g2 g3
      obtain ⟨L7, hL7⟩ : ∃ L, L = N6 ++ ([] : List B8) := ⟨_, rfl⟩
      rw [← hL7] at HOw7
      have HL7 := Lib.hid hL7
      have lL7 : L7.length = N6.length + 0 := by rw [hL7, List.length_append, show ([] : List B8).length = 0 by rfl]
      clear hL7
      have TW7 := Lib.hid (T5.out.trans Tw7.out (fun _ _ h => h))
      obtain ⟨r1, r2, r3, r4⟩ := RW.out w7 TW7.out
      go_wp2_with (go_at_call 58; refine stop ?_)
      unfold Stop
      refine (NL.out w7).mono ?_
      rintro r w8 ⟨u8, rfl, o8, t⟩
      have T8 := Lib.hid (Tw7.out.trans t (fun _ _ h => h))
      have HO8 := Lib.hid (t.own HOw7.out (fun _ _ h => h))
      obtain ⟨A8, c8, rfl, s8, -, hc8, ha8⟩ := own_sl o8
      have S8 := Lib.hid s8
      have C8 := Lib.hid ha8
      clear t o8 s8 hc8 ha8 r1 r2 r3 r4
      obtain ⟨N8, hN8⟩ : ∃ N, N = numB nl := ⟨_, rfl⟩
      rw [← hN8] at S8 ⊢
      have lN8 : N8.length ≤ 9 := by rw [hN8]; exact numB_le (by omega)
      have HN8 := Lib.hid hN8
      obtain ⟨m8, hm8⟩ : ∃ m, m = N8.length := ⟨_, rfl⟩
      rw [← hm8] at lN8
      rw [← hm8]
      have HM8 := Lib.hid hm8
      clear hN8 hm8
      go_wp2_with (at_builtin; refine stop ?_)
      unfold Stop
      refine wpList_append_any_at (o := ⟨some 31, _, _, _, _, _⟩) rfl _ _ 22 rfl w5.heap.size 5 i0 (.int .u8 0) 1 Tryd.underlying22 hi hz0 hz1 hz2 rfl _ _ _ rfl HO8.out A8 m8 c8 (N8.map bv) rfl C8.out (by rw [List.length_map]; exact HM8.out.symm) (fun j u hu => (S8.out j u hu).elim fun ad h => ⟨ad, h.1, h.2.2⟩) (bv_one _) (by unfold maxLen; have := BIG.out; omega) (by have := BIG.out; omega) (T8.out.size) ?_
      intro v9 w9 g1 g2 g3
      have HOw9 := Lib.hid (show w9.ownsRow w5.heap.size 5 1 v9 (L7 ++ N8).length ((L7 ++ N8).map bv) by
        rw [List.length_append, List.map_append, show N8.length = m8 by exact HM8.out.symm]; exact g1)
      have Tw9 := Lib.hid (T8.out.grown g2 (fun i hi e => by have := (HO8.out.lt i e.symm).1; omega))
      clear g1 g2 g3
      obtain ⟨L9, hL9⟩ : ∃ L, L = L7 ++ N8 := ⟨_, rfl⟩
      rw [← hL9] at HOw9
      have HL9 := Lib.hid hL9
      have lL9 : L9.length = L7.length + m8 := by rw [hL9, List.length_append, show N8.length = m8 by exact HM8.out.symm]
      clear hL9
      have TW9 := Lib.hid (T5.out.trans Tw9.out (fun _ _ h => h))
      go_upto_region 9 with fail
      go_loopw [5, 6] (fun v i wr => ∃ k : Nat, k ≤ nl ∧ i = .int .i64 (k : Int) ∧ wr.ownsRow w5.heap.size 5 1 v (L9 ++ (ids.take k).flatten).length ((L9 ++ (ids.take k).flatten).map bv) ∧ Turn (fun _ => False) w5 wr) (fun _ i _ => nl - (intOf i).toNat)
      case atStart => exact ⟨0, Nat.zero_le _, rfl, by simpa using HOw9.out, Tw9.out⟩
      case round =>
        obtain ⟨k, hk, rfl, ho, ht⟩ := hrel
        have HOr := Lib.hid ho
        have Tr := Lib.hid ht
        have TWr := Lib.hid (T5.out.trans Tr.out (fun _ _ h => h))
        clear ho ht
        obtain ⟨r1, r2, r3, r4⟩ := RW.out wr TWr.out
        by_cases hlt : k < nl
        · have t1 : decide ((k : Int) < (nl : Int)) = true := by rw [decide_eq_true_eq]; omega
          obtain ⟨d, hd⟩ : ∃ d, ids[k]? = some d := ⟨_, List.getElem?_eq_getElem (by rw [← HNL.out]; exact hlt)⟩
          obtain ⟨pb, po, hA, hpb, hrow⟩ := (PX.out wr TWr.out).row hd
          subst hA
          have TD := Lib.hid (fun w => TI.out d (List.mem_of_getElem? hd) w)
          have d32 := Lib.hid (ID32.out d (List.mem_of_getElem? hd))
          have HFT := Lib.hid (flat32_take ids k d hd)
          have lfl := flat32_len ids ID32.out k (by rw [← HNL.out]; exact hk)
          obtain ⟨DC, hDC⟩ : ∃ D, D = (d.map bv).toArray := ⟨_, rfl⟩
          rw [← hDC] at TD hrow
          obtain ⟨Lk, hLk⟩ : ∃ L, L = L9 ++ (ids.take k).flatten := ⟨_, rfl⟩
          have lLk : Lk.length = L9.length + k * 32 := by rw [hLk, List.length_append, lfl]
          rw [← hLk] at HOr
          have HLk := Lib.hid hLk
          clear hd hDC hLk lfl
          go_wp2_with (go_at_call 59; refine stop ?_)
          unfold Stop
          refine (TD.out wr).mono ?_
          rintro r wa ⟨ua, rfl, oa, ta⟩
          have ta := Turn.of_below ta
          have Ta := Lib.hid (Tr.out.trans ta (fun _ _ h => h))
          have HOa := Lib.hid (ta.own HOr.out (fun _ _ h => h))
          obtain ⟨Aa, ca, rfl, sa, -, hca, haa⟩ := own_sl oa
          have Sa := Lib.hid sa
          have Ca := Lib.hid haa
          clear ta oa sa hca haa hrow r1 r2 r3 r4
          go_wp2_with (at_builtin; refine stop ?_)
          unfold Stop
          refine wpList_append_any_at (o := ⟨some 46, _, _, _, _, _⟩) rfl _ _ 22 rfl w5.heap.size 5 i0 (.int .u8 0) 1 Tryd.underlying22 hi hz0 hz1 hz2 rfl _ _ _ rfl HOa.out Aa 32 ca (d.map bv) rfl Ca.out (by rw [List.length_map]; exact d32.out) (fun j u hu => (Sa.out j u hu).elim fun ad h => ⟨ad, h.1, h.2.2⟩) (bv_one _) (by unfold maxLen; have := BIG.out; omega) (by have := BIG.out; omega) (Ta.out.size) ?_
          intro vb wb g1 g2 g3
          have HOwb := Lib.hid (show wb.ownsRow w5.heap.size 5 1 vb (Lk ++ d).length ((Lk ++ d).map bv) by
            rw [List.length_append, List.map_append, show d.length = 32 by exact d32.out]; exact g1)
          have Twb := Lib.hid (Ta.out.grown g2 (fun i hi e => by have := (HOa.out.lt i e.symm).1; omega))
          clear g1 g2 g3
          obtain ⟨Lb, hLb⟩ : ∃ L, L = Lk ++ d := ⟨_, rfl⟩
          rw [← hLb] at HOwb
          have HLb := Lib.hid hLb
          have lLb : Lb.length = Lk.length + 32 := by rw [hLb, List.length_append, show d.length = 32 by exact d32.out]
          clear hLb
          go_wp2_with fail
          go_roundw
          case rel => exact ⟨k + 1, by omega, by go_num, by rw [HFT.out, ← List.append_assoc, ← HLk.out, ← HLb.out]; exact HOwb.out, Twb.out⟩
          case measure => simp [intOf]; omega
        · obtain rfl : k = nl := by omega
          have t1 : decide ((k : Int) < (k : Int)) = false := by rw [decide_eq_false_iff_not]; omega
          have lfl := flat32_len ids ID32.out k (by rw [← HNL.out]; exact hk)
          have hfull : ids.take k = ids := List.take_of_length_le (by rw [← HNL.out]; exact Nat.le_refl _)
          rw [hfull] at lfl
          obtain ⟨LA, hLA⟩ : ∃ L, L = L9 ++ ids.flatten := ⟨_, rfl⟩
          have lLA : LA.length = L9.length + k * 32 := by rw [hLA, List.length_append, lfl]
          have HOA := Lib.hid (show wr.ownsRow w5.heap.size 5 1 _ LA.length (LA.map bv) by have := HOr.out; rw [hfull, ← hLA] at this; exact this)
          have HLA := Lib.hid hLA
          have SHr := Lib.hid (Tr.out.sl SH5.out (fun _ _ h => h))
          clear hLA lfl hfull hlt hk HOr
          go_wp2_with (go_at_call 58; refine stop ?_)
          unfold Stop
          refine (TNH.out wr).mono ?_
          rintro r wa ⟨ua, rfl, oa, ta⟩
          have Ta := Lib.hid (Tr.out.trans ta (fun _ _ h => h))
          have HOa := Lib.hid (ta.own HOA.out (fun _ _ h => h))
          have SHa := Lib.hid (ta.sl SHr.out (fun _ _ h => h))
          obtain ⟨Aa, ca, rfl, sa, -, hca, haa⟩ := own_sl oa
          have Sa := Lib.hid sa
          have Ca := Lib.hid haa
          clear ta oa sa hca haa r1 r2 r3 r4
          obtain ⟨NA, hNA⟩ : ∃ N, N = numB gl := ⟨_, rfl⟩
          rw [← hNA] at Sa ⊢
          have lNA : NA.length ≤ 9 := by rw [hNA]; exact numB_le (by omega)
          have HNA := Lib.hid hNA
          obtain ⟨ma, hma⟩ : ∃ m, m = NA.length := ⟨_, rfl⟩
          rw [← hma] at lNA
          rw [← hma]
          have HMA := Lib.hid hma
          clear hNA hma
          go_wp2_with (at_builtin; refine stop ?_)
          unfold Stop
          refine wpList_append_any_at (o := ⟨some 52, _, _, _, _, _⟩) rfl _ _ 22 rfl w5.heap.size 5 i0 (.int .u8 0) 1 Tryd.underlying22 hi hz0 hz1 hz2 rfl _ _ _ rfl HOa.out Aa ma ca (NA.map bv) rfl Ca.out (by rw [List.length_map]; exact HMA.out.symm) (fun j u hu => (Sa.out j u hu).elim fun ad h => ⟨ad, h.1, h.2.2⟩) (bv_one _) (by unfold maxLen; have := BIG.out; omega) (by have := BIG.out; omega) (Ta.out.size) ?_
          intro vb wb g1 g2 g3
          have HOwb := Lib.hid (show wb.ownsRow w5.heap.size 5 1 vb (LA ++ NA).length ((LA ++ NA).map bv) by
            rw [List.length_append, List.map_append, show NA.length = ma by exact HMA.out.symm]; exact g1)
          have Twb := Lib.hid (Ta.out.grown g2 (fun i hi e => by have := (HOa.out.lt i e.symm).1; omega))
          clear g1 g2 g3
          obtain ⟨LB, hLB⟩ : ∃ L, L = LA ++ NA := ⟨_, rfl⟩
          rw [← hLB] at HOwb
          have HLB := Lib.hid hLB
          have lLB : LB.length = LA.length + ma := by rw [hLB, List.length_append, show NA.length = ma by exact HMA.out.symm]
          clear hLB
          have SHb := Lib.hid (show Sl wb w5.heap.size A5 (G.map bv) from Twb.out.sl SH5.out (fun _ _ h => h))
          go_wp2_with (at_builtin; refine stop ?_)
          unfold Stop
          refine wpList_append_any_at (o := ⟨some 55, _, _, _, _, _⟩) rfl _ _ 22 rfl w5.heap.size 5 i0 (.int .u8 0) 1 Tryd.underlying22 hi hz0 hz1 hz2 rfl _ _ _ rfl HOwb.out A5 gl c5 (G.map bv) rfl C5.out.1 (by rw [List.length_map]; exact HGL.out.symm) (fun j u hu => (SHb.out j u hu).elim fun ad h => ⟨ad, h.1, h.2.2⟩) (bv_one _) (by unfold maxLen; have := BIG.out; omega) (by have := BIG.out; omega) (Twb.out.size) ?_
          intro vc wc g1 g2 g3
          have HOwc := Lib.hid (show wc.ownsRow w5.heap.size 5 1 vc (LB ++ G).length ((LB ++ G).map bv) by
            rw [List.length_append, List.map_append, show G.length = gl by exact HGL.out.symm]; exact g1)
          have Twc := Lib.hid (Twb.out.grown g2 (fun i hi e => by have := (HOwb.out.lt i e.symm).1; omega))
          clear g1 g2 g3
          obtain ⟨LC, hLC⟩ : ∃ L, L = LB ++ G := ⟨_, rfl⟩
          rw [← hLC] at HOwc
          have HLC := Lib.hid hLC
          have lLC : LC.length = LB.length + gl := by rw [hLC, List.length_append, show G.length = gl by exact HGL.out.symm]
          clear hLC
          have TWc := Lib.hid (T5.out.trans Twc.out (fun _ _ h => h))
          obtain ⟨r1, r2, r3, r4⟩ := RW.out wc TWc.out
          go_wp2_with (go_at_call 59; refine stop ?_)
          unfold Stop
          refine (TT.out wc).mono ?_
          rintro r wd ⟨ud, rfl, od, td⟩
          have td := Turn.of_below td
          have Td := Lib.hid (Twc.out.trans td (fun _ _ h => h))
          have HOd := Lib.hid (td.own HOwc.out (fun _ _ h => h))
          obtain ⟨Ad, cd, rfl, sd, -, hcd, had⟩ := own_sl od
          have Sd := Lib.hid sd
          have Cd := Lib.hid had
          clear td od sd hcd had r1 r2 r3 r4
          go_wp2_with (at_builtin; refine stop ?_)
          unfold Stop
          refine wpList_append_any_at (o := ⟨some 60, _, _, _, _, _⟩) rfl _ _ 22 rfl w5.heap.size 5 i0 (.int .u8 0) 1 Tryd.underlying22 hi hz0 hz1 hz2 rfl _ _ _ rfl HOd.out Ad 32 cd (x.t.map bv) rfl Cd.out (by rw [List.length_map]; exact TL.out) (fun j u hu => (Sd.out j u hu).elim fun ad h => ⟨ad, h.1, h.2.2⟩) (bv_one _) (by unfold maxLen; have := BIG.out; omega) (by have := BIG.out; omega) (Td.out.size) ?_
          intro ve we g1 g2 g3
          have HOwe := Lib.hid (show we.ownsRow w5.heap.size 5 1 ve (LC ++ x.t).length ((LC ++ x.t).map bv) by
            rw [List.length_append, List.map_append, show x.t.length = 32 by exact TL.out]; exact g1)
          have Twe := Lib.hid (Td.out.grown g2 (fun i hi e => by have := (HOd.out.lt i e.symm).1; omega))
          clear g1 g2 g3
          obtain ⟨LD, hLD⟩ : ∃ L, L = LC ++ x.t := ⟨_, rfl⟩
          rw [← hLD] at HOwe
          have HLD := Lib.hid hLD
          have lLD : LD.length = LC.length + 32 := by rw [hLD, List.length_append, show x.t.length = 32 by exact TL.out]
          clear hLD
          go_wp2
          go_ret
          have hL : formC x = LD := by
            rw [FC.out, PFE.out, show ([] : List B8).length = 0 from rfl, PFH.out, ← HGL.out, HLD.out, HLC.out, HLB.out, HLA.out, HL9.out, HL7.out, HN6.out, HN8.out, HNA.out]
            simp only [List.append_assoc, List.nil_append, List.append_nil]
          rw [hL]
          exact ⟨_, rfl, own_more HOwe.out (by have := HB.out; have := T5.out.size; omega), T1.out.trans (T5.out.trans Twe.out (fun _ _ h => h)) (fun _ _ h => h)⟩
    · rw [decide_eq_false oh] at TH
      have PFE := Lib.hid (PEn.out oe)
      have TNE := Lib.hid (fun w => rnum_any 0 w (by decide))
      have PFH := Lib.hid (PHn.out oh)
      have TNH := Lib.hid (fun w => rnum_any 0 w (by decide))
      clear oe oh
      go_enter Tryd.func21, Tryd.ntmps21
      go_upto_region 1 with fail
      change Code.wp _ _ _ _ (w.alloc (.cells C 32))
      rw [← hw1]
      clear hw1
      obtain ⟨r1, r2, r3, r4⟩ := RW.out w1 T11.out
      go_wp2_with (go_at_call 25; refine stop ?_)
      unfold Stop
      refine (TE.out w1).mono ?_
      rintro r w2 ⟨rfl, t⟩
      have T2 := Lib.hid t
      clear t r1 r2 r3 r4
      obtain ⟨r1, r2, r3, r4⟩ := RW.out w2 T2.out
      go_wp2_with (go_at_call 26; refine stop ?_)
      unfold Stop
      refine (TH.out w2).mono ?_
      rintro r w4 ⟨rfl, t⟩
      have T4 := Lib.hid (T2.out.trans t (fun _ _ h => h))
      have S4 := Lib.hid (show Sl w4 w4.heap.size none (([] : List B8).map bv) from fun j u hu => by simp at hu)
      have C3 := Lib.hid (show ((none : Option Addr) = none → (0 : Nat) = 0) ∧ (0 : Nat) ≤ 0 from ⟨fun _ => rfl, Nat.le_refl _⟩)
      clear t r1 r2 r3 r4
      obtain ⟨r1, r2, r3, r4⟩ := RW.out w4 T4.out
      obtain ⟨w5, hw5⟩ : ∃ w5, w5 = w4 := ⟨_, rfl⟩
      have T5 := Lib.hid (show Turn (fun _ => False) w1 w5 by rw [hw5]; exact T4.out)
      have S5 := Lib.hid (show Sl w5 w5.heap.size none (([] : List B8).map bv) by rw [hw5]; exact S4.out)
      have SH5 := Lib.hid (show Sl w5 w5.heap.size none (([] : List B8).map bv) from fun j u hu => by simp at hu)
      have C5 := Lib.hid (show ((none : Option Addr) = none → (0 : Nat) = 0) ∧ (0 : Nat) ≤ 0 from ⟨fun _ => rfl, Nat.le_refl _⟩)
      clear r1 r2 r3 r4 S4
      go_upto_region 6 with fail
      rw [← hw5]
      clear hw5
      have BIG := Lib.hid (show nl ≤ 1000 from mx)
      go_wp2_with (go_at_call 58; refine stop ?_)
      unfold Stop
      refine (TNE.out w5).mono ?_
      rintro r w6 ⟨u6, rfl, o6, t⟩
      have T6 := Lib.hid t
      have HO6 := Lib.hid o6
      have S6 := Lib.hid (t.sl S5.out (fun _ _ h => h))
      clear t o6
      obtain ⟨N6, hN6⟩ : ∃ N, N = numB 0 := ⟨_, rfl⟩
      rw [← hN6] at HO6
      have lN6 : N6.length ≤ 9 := by rw [hN6]; exact numB_le (by omega)
      have HN6 := Lib.hid hN6
      clear hN6
      go_wp2_with (at_builtin; refine stop ?_)
      unfold Stop
      refine wpList_append_any_at (o := ⟨some 24, _, _, _, _, _⟩) rfl _ _ 22 rfl w5.heap.size 5 i0 (.int .u8 0) 1 Tryd.underlying22 hi hz0 hz1 hz2 rfl _ _ _ rfl HO6.out none 0 0 (([] : List B8).map bv) rfl (fun _ => rfl) (by rw [List.length_map]; rfl) (fun j u hu => (S6.out j u hu).elim fun ad h => ⟨ad, h.1, h.2.2⟩) (bv_one _) (by unfold maxLen; have := BIG.out; omega) (by have := BIG.out; omega) (T6.out.size) ?_
      intro v7 w7 g1 g2 g3
      have HOw7 := Lib.hid (show w7.ownsRow w5.heap.size 5 1 v7 (N6 ++ ([] : List B8)).length ((N6 ++ ([] : List B8)).map bv) by
        rw [List.length_append, List.map_append, show ([] : List B8).length = 0 by rfl]; exact g1)
      have Tw7 := Lib.hid (T6.out.grown g2 (fun i hi e => by have := (HO6.out.lt i e.symm).1; omega))
      clear g1 g2 g3
      obtain ⟨L7, hL7⟩ : ∃ L, L = N6 ++ ([] : List B8) := ⟨_, rfl⟩
      rw [← hL7] at HOw7
      have HL7 := Lib.hid hL7
      have lL7 : L7.length = N6.length + 0 := by rw [hL7, List.length_append, show ([] : List B8).length = 0 by rfl]
      clear hL7
      have TW7 := Lib.hid (T5.out.trans Tw7.out (fun _ _ h => h))
      obtain ⟨r1, r2, r3, r4⟩ := RW.out w7 TW7.out
      go_wp2_with (go_at_call 58; refine stop ?_)
      unfold Stop
      refine (NL.out w7).mono ?_
      rintro r w8 ⟨u8, rfl, o8, t⟩
      have T8 := Lib.hid (Tw7.out.trans t (fun _ _ h => h))
      have HO8 := Lib.hid (t.own HOw7.out (fun _ _ h => h))
      obtain ⟨A8, c8, rfl, s8, -, hc8, ha8⟩ := own_sl o8
      have S8 := Lib.hid s8
      have C8 := Lib.hid ha8
      clear t o8 s8 hc8 ha8 r1 r2 r3 r4
      obtain ⟨N8, hN8⟩ : ∃ N, N = numB nl := ⟨_, rfl⟩
      rw [← hN8] at S8 ⊢
      have lN8 : N8.length ≤ 9 := by rw [hN8]; exact numB_le (by omega)
      have HN8 := Lib.hid hN8
      obtain ⟨m8, hm8⟩ : ∃ m, m = N8.length := ⟨_, rfl⟩
      rw [← hm8] at lN8
      rw [← hm8]
      have HM8 := Lib.hid hm8
      clear hN8 hm8
      go_wp2_with (at_builtin; refine stop ?_)
      unfold Stop
      refine wpList_append_any_at (o := ⟨some 31, _, _, _, _, _⟩) rfl _ _ 22 rfl w5.heap.size 5 i0 (.int .u8 0) 1 Tryd.underlying22 hi hz0 hz1 hz2 rfl _ _ _ rfl HO8.out A8 m8 c8 (N8.map bv) rfl C8.out (by rw [List.length_map]; exact HM8.out.symm) (fun j u hu => (S8.out j u hu).elim fun ad h => ⟨ad, h.1, h.2.2⟩) (bv_one _) (by unfold maxLen; have := BIG.out; omega) (by have := BIG.out; omega) (T8.out.size) ?_
      intro v9 w9 g1 g2 g3
      have HOw9 := Lib.hid (show w9.ownsRow w5.heap.size 5 1 v9 (L7 ++ N8).length ((L7 ++ N8).map bv) by
        rw [List.length_append, List.map_append, show N8.length = m8 by exact HM8.out.symm]; exact g1)
      have Tw9 := Lib.hid (T8.out.grown g2 (fun i hi e => by have := (HO8.out.lt i e.symm).1; omega))
      clear g1 g2 g3
      obtain ⟨L9, hL9⟩ : ∃ L, L = L7 ++ N8 := ⟨_, rfl⟩
      rw [← hL9] at HOw9
      have HL9 := Lib.hid hL9
      have lL9 : L9.length = L7.length + m8 := by rw [hL9, List.length_append, show N8.length = m8 by exact HM8.out.symm]
      clear hL9
      have TW9 := Lib.hid (T5.out.trans Tw9.out (fun _ _ h => h))
      go_upto_region 9 with fail
      go_loopw [5, 6] (fun v i wr => ∃ k : Nat, k ≤ nl ∧ i = .int .i64 (k : Int) ∧ wr.ownsRow w5.heap.size 5 1 v (L9 ++ (ids.take k).flatten).length ((L9 ++ (ids.take k).flatten).map bv) ∧ Turn (fun _ => False) w5 wr) (fun _ i _ => nl - (intOf i).toNat)
      case atStart => exact ⟨0, Nat.zero_le _, rfl, by simpa using HOw9.out, Tw9.out⟩
      case round =>
        obtain ⟨k, hk, rfl, ho, ht⟩ := hrel
        have HOr := Lib.hid ho
        have Tr := Lib.hid ht
        have TWr := Lib.hid (T5.out.trans Tr.out (fun _ _ h => h))
        clear ho ht
        obtain ⟨r1, r2, r3, r4⟩ := RW.out wr TWr.out
        by_cases hlt : k < nl
        · have t1 : decide ((k : Int) < (nl : Int)) = true := by rw [decide_eq_true_eq]; omega
          obtain ⟨d, hd⟩ : ∃ d, ids[k]? = some d := ⟨_, List.getElem?_eq_getElem (by rw [← HNL.out]; exact hlt)⟩
          obtain ⟨pb, po, hA, hpb, hrow⟩ := (PX.out wr TWr.out).row hd
          subst hA
          have TD := Lib.hid (fun w => TI.out d (List.mem_of_getElem? hd) w)
          have d32 := Lib.hid (ID32.out d (List.mem_of_getElem? hd))
          have HFT := Lib.hid (flat32_take ids k d hd)
          have lfl := flat32_len ids ID32.out k (by rw [← HNL.out]; exact hk)
          obtain ⟨DC, hDC⟩ : ∃ D, D = (d.map bv).toArray := ⟨_, rfl⟩
          rw [← hDC] at TD hrow
          obtain ⟨Lk, hLk⟩ : ∃ L, L = L9 ++ (ids.take k).flatten := ⟨_, rfl⟩
          have lLk : Lk.length = L9.length + k * 32 := by rw [hLk, List.length_append, lfl]
          rw [← hLk] at HOr
          have HLk := Lib.hid hLk
          clear hd hDC hLk lfl
          go_wp2_with (go_at_call 59; refine stop ?_)
          unfold Stop
          refine (TD.out wr).mono ?_
          rintro r wa ⟨ua, rfl, oa, ta⟩
          have ta := Turn.of_below ta
          have Ta := Lib.hid (Tr.out.trans ta (fun _ _ h => h))
          have HOa := Lib.hid (ta.own HOr.out (fun _ _ h => h))
          obtain ⟨Aa, ca, rfl, sa, -, hca, haa⟩ := own_sl oa
          have Sa := Lib.hid sa
          have Ca := Lib.hid haa
          clear ta oa sa hca haa hrow r1 r2 r3 r4
          go_wp2_with (at_builtin; refine stop ?_)
          unfold Stop
          refine wpList_append_any_at (o := ⟨some 46, _, _, _, _, _⟩) rfl _ _ 22 rfl w5.heap.size 5 i0 (.int .u8 0) 1 Tryd.underlying22 hi hz0 hz1 hz2 rfl _ _ _ rfl HOa.out Aa 32 ca (d.map bv) rfl Ca.out (by rw [List.length_map]; exact d32.out) (fun j u hu => (Sa.out j u hu).elim fun ad h => ⟨ad, h.1, h.2.2⟩) (bv_one _) (by unfold maxLen; have := BIG.out; omega) (by have := BIG.out; omega) (Ta.out.size) ?_
          intro vb wb g1 g2 g3
          have HOwb := Lib.hid (show wb.ownsRow w5.heap.size 5 1 vb (Lk ++ d).length ((Lk ++ d).map bv) by
            rw [List.length_append, List.map_append, show d.length = 32 by exact d32.out]; exact g1)
          have Twb := Lib.hid (Ta.out.grown g2 (fun i hi e => by have := (HOa.out.lt i e.symm).1; omega))
          clear g1 g2 g3
          obtain ⟨Lb, hLb⟩ : ∃ L, L = Lk ++ d := ⟨_, rfl⟩
          rw [← hLb] at HOwb
          have HLb := Lib.hid hLb
          have lLb : Lb.length = Lk.length + 32 := by rw [hLb, List.length_append, show d.length = 32 by exact d32.out]
          clear hLb
          go_wp2_with fail
          go_roundw
          case rel => exact ⟨k + 1, by omega, by go_num, by rw [HFT.out, ← List.append_assoc, ← HLk.out, ← HLb.out]; exact HOwb.out, Twb.out⟩
          case measure => simp [intOf]; omega
        · obtain rfl : k = nl := by omega
          have t1 : decide ((k : Int) < (k : Int)) = false := by rw [decide_eq_false_iff_not]; omega
          have lfl := flat32_len ids ID32.out k (by rw [← HNL.out]; exact hk)
          have hfull : ids.take k = ids := List.take_of_length_le (by rw [← HNL.out]; exact Nat.le_refl _)
          rw [hfull] at lfl
          obtain ⟨LA, hLA⟩ : ∃ L, L = L9 ++ ids.flatten := ⟨_, rfl⟩
          have lLA : LA.length = L9.length + k * 32 := by rw [hLA, List.length_append, lfl]
          have HOA := Lib.hid (show wr.ownsRow w5.heap.size 5 1 _ LA.length (LA.map bv) by have := HOr.out; rw [hfull, ← hLA] at this; exact this)
          have HLA := Lib.hid hLA
          have SHr := Lib.hid (Tr.out.sl SH5.out (fun _ _ h => h))
          clear hLA lfl hfull hlt hk HOr
          go_wp2_with (go_at_call 58; refine stop ?_)
          unfold Stop
          refine (TNH.out wr).mono ?_
          rintro r wa ⟨ua, rfl, oa, ta⟩
          have Ta := Lib.hid (Tr.out.trans ta (fun _ _ h => h))
          have HOa := Lib.hid (ta.own HOA.out (fun _ _ h => h))
          have SHa := Lib.hid (ta.sl SHr.out (fun _ _ h => h))
          obtain ⟨Aa, ca, rfl, sa, -, hca, haa⟩ := own_sl oa
          have Sa := Lib.hid sa
          have Ca := Lib.hid haa
          clear ta oa sa hca haa r1 r2 r3 r4
          obtain ⟨NA, hNA⟩ : ∃ N, N = numB 0 := ⟨_, rfl⟩
          rw [← hNA] at Sa ⊢
          have lNA : NA.length ≤ 9 := by rw [hNA]; exact numB_le (by omega)
          have HNA := Lib.hid hNA
          obtain ⟨ma, hma⟩ : ∃ m, m = NA.length := ⟨_, rfl⟩
          rw [← hma] at lNA
          rw [← hma]
          have HMA := Lib.hid hma
          clear hNA hma
          go_wp2_with (at_builtin; refine stop ?_)
          unfold Stop
          refine wpList_append_any_at (o := ⟨some 52, _, _, _, _, _⟩) rfl _ _ 22 rfl w5.heap.size 5 i0 (.int .u8 0) 1 Tryd.underlying22 hi hz0 hz1 hz2 rfl _ _ _ rfl HOa.out Aa ma ca (NA.map bv) rfl Ca.out (by rw [List.length_map]; exact HMA.out.symm) (fun j u hu => (Sa.out j u hu).elim fun ad h => ⟨ad, h.1, h.2.2⟩) (bv_one _) (by unfold maxLen; have := BIG.out; omega) (by have := BIG.out; omega) (Ta.out.size) ?_
          intro vb wb g1 g2 g3
          have HOwb := Lib.hid (show wb.ownsRow w5.heap.size 5 1 vb (LA ++ NA).length ((LA ++ NA).map bv) by
            rw [List.length_append, List.map_append, show NA.length = ma by exact HMA.out.symm]; exact g1)
          have Twb := Lib.hid (Ta.out.grown g2 (fun i hi e => by have := (HOa.out.lt i e.symm).1; omega))
          clear g1 g2 g3
          obtain ⟨LB, hLB⟩ : ∃ L, L = LA ++ NA := ⟨_, rfl⟩
          rw [← hLB] at HOwb
          have HLB := Lib.hid hLB
          have lLB : LB.length = LA.length + ma := by rw [hLB, List.length_append, show NA.length = ma by exact HMA.out.symm]
          clear hLB
          have SHb := Lib.hid (show Sl wb w5.heap.size none (([] : List B8).map bv) from Twb.out.sl SH5.out (fun _ _ h => h))
          go_wp2_with (at_builtin; refine stop ?_)
          unfold Stop
          refine wpList_append_any_at (o := ⟨some 55, _, _, _, _, _⟩) rfl _ _ 22 rfl w5.heap.size 5 i0 (.int .u8 0) 1 Tryd.underlying22 hi hz0 hz1 hz2 rfl _ _ _ rfl HOwb.out none 0 0 (([] : List B8).map bv) rfl (fun _ => rfl) (by rw [List.length_map]; rfl) (fun j u hu => (SHb.out j u hu).elim fun ad h => ⟨ad, h.1, h.2.2⟩) (bv_one _) (by unfold maxLen; have := BIG.out; omega) (by have := BIG.out; omega) (Twb.out.size) ?_
          intro vc wc g1 g2 g3
          have HOwc := Lib.hid (show wc.ownsRow w5.heap.size 5 1 vc (LB ++ ([] : List B8)).length ((LB ++ ([] : List B8)).map bv) by
            rw [List.length_append, List.map_append, show ([] : List B8).length = 0 by rfl]; exact g1)
          have Twc := Lib.hid (Twb.out.grown g2 (fun i hi e => by have := (HOwb.out.lt i e.symm).1; omega))
          clear g1 g2 g3
          obtain ⟨LC, hLC⟩ : ∃ L, L = LB ++ ([] : List B8) := ⟨_, rfl⟩
          rw [← hLC] at HOwc
          have HLC := Lib.hid hLC
          have lLC : LC.length = LB.length + 0 := by rw [hLC, List.length_append, show ([] : List B8).length = 0 by rfl]
          clear hLC
          have TWc := Lib.hid (T5.out.trans Twc.out (fun _ _ h => h))
          obtain ⟨r1, r2, r3, r4⟩ := RW.out wc TWc.out
          go_wp2_with (go_at_call 59; refine stop ?_)
          unfold Stop
          refine (TT.out wc).mono ?_
          rintro r wd ⟨ud, rfl, od, td⟩
          have td := Turn.of_below td
          have Td := Lib.hid (Twc.out.trans td (fun _ _ h => h))
          have HOd := Lib.hid (td.own HOwc.out (fun _ _ h => h))
          obtain ⟨Ad, cd, rfl, sd, -, hcd, had⟩ := own_sl od
          have Sd := Lib.hid sd
          have Cd := Lib.hid had
          clear td od sd hcd had r1 r2 r3 r4
          go_wp2_with (at_builtin; refine stop ?_)
          unfold Stop
          refine wpList_append_any_at (o := ⟨some 60, _, _, _, _, _⟩) rfl _ _ 22 rfl w5.heap.size 5 i0 (.int .u8 0) 1 Tryd.underlying22 hi hz0 hz1 hz2 rfl _ _ _ rfl HOd.out Ad 32 cd (x.t.map bv) rfl Cd.out (by rw [List.length_map]; exact TL.out) (fun j u hu => (Sd.out j u hu).elim fun ad h => ⟨ad, h.1, h.2.2⟩) (bv_one _) (by unfold maxLen; have := BIG.out; omega) (by have := BIG.out; omega) (Td.out.size) ?_
          intro ve we g1 g2 g3
          have HOwe := Lib.hid (show we.ownsRow w5.heap.size 5 1 ve (LC ++ x.t).length ((LC ++ x.t).map bv) by
            rw [List.length_append, List.map_append, show x.t.length = 32 by exact TL.out]; exact g1)
          have Twe := Lib.hid (Td.out.grown g2 (fun i hi e => by have := (HOd.out.lt i e.symm).1; omega))
          clear g1 g2 g3
          obtain ⟨LD, hLD⟩ : ∃ L, L = LC ++ x.t := ⟨_, rfl⟩
          rw [← hLD] at HOwe
          have HLD := Lib.hid hLD
          have lLD : LD.length = LC.length + 32 := by rw [hLD, List.length_append, show x.t.length = 32 by exact TL.out]
          clear hLD
          go_wp2
          go_ret
          have hL : formC x = LD := by
            rw [FC.out, PFE.out, show ([] : List B8).length = 0 from rfl, PFH.out, show ([] : List B8).length = 0 from rfl, HLD.out, HLC.out, HLB.out, HLA.out, HL9.out, HL7.out, HN6.out, HN8.out, HNA.out]
            simp only [List.append_assoc, List.nil_append, List.append_nil]
          rw [hL]
          exact ⟨_, rfl, own_more HOwe.out (by have := HB.out; have := T5.out.size; omega), T1.out.trans (T5.out.trans Twe.out (fun _ _ h => h)) (fun _ _ h => h)⟩
end
end Go.Proofs.YthoaaieiiokcmaaDoor
