/- 'MappingTells': its walk. -/
import Derived.Test.YtoclfohgchlpnaaDoorMpV
import Derived.Test.YtoclfohgchlpnaaDoorMpO
set_option linter.unusedVariables false
set_option linter.unusedSimpArgs false
namespace Go.Proofs.YtoclfohgchlpnaaDoor
open Go.RowKit
set_option maxRecDepth 100000 in
theorem add_zero' (a : Addr) : a.add 0 = a := by unfold Addr.add; simp
set_option maxRecDepth 100000 in
set_option maxHeartbeats 16000000 in
theorem mappingTells_walk (Ai : Option Addr) (ci : Nat) (Ao : Option Addr) (co : Nat) (t : Ptx) (n s : Int) (w : World) (h : TxAt w w.heap.size Ai ci Ao co t) (hG : Glob w) :
    Calls Tryd.prog 4 #[txV Ai ci Ao co t, .int .i64 n, .int .i64 s] w fun e w' => e = .returned (.bool true) ∧ Below w.heap.size w w' := by
  obtain ⟨i0, hi, hz0, hz1, hz2⟩ := info_parts info_i64
  obtain ⟨w0, hw0⟩ : ∃ w0, w0 = w.alloc (.cells (txCells Ai ci Ao co t).toArray 35) := ⟨_, rfl⟩
  obtain ⟨hbx, hb0⟩ := Box.new hw0 h (Nat.le_refl _) hG
  have B0 := Lib.hid hbx
  have HB0 := Lib.hid hb0
  have FIN := Lib.hid (fun (w' : World) (k : Stp w0 w') => show Below w.heap.size w w' from hb0.trans (Below.mono k hb0.size))
  obtain ⟨c0, c1, c2, c3⟩ := hbx.row
  have AW := Lib.hid awake_any
  have K0 := Lib.hid ((great_any Ai Ao ci co w.heap.size t w0 B0.out.at_).mono (fun _ _ ⟨h1, h2⟩ => And.intro h1 (show Below w0.heap.size w0 _ from turn_stp h2)))
  have HL := Lib.hid (sp_len t n)
  obtain ⟨g1, g2, g3⟩ := gath_sp t n
  have SP := Lib.hid (fun (bo : Bool) (w' : World) (k : Box w0 w.heap.size w.heap.size Ai Ao ci co t w') => spread_any Ai Ao ci co w.heap.size t n bo w' k.at_ k.size k.glob)
  have SI := Lib.hid (fun (w' : World) (k : Box w0 w.heap.size w.heap.size Ai Ao ci co t w') => single_any Ai Ao ci co w.heap.size t n w' k.at_ k.size k.glob)
  have AT := Lib.hid (fun (w' : World) (k : Box w0 w.heap.size w.heap.size Ai Ao ci co t w') => at_any Ai Ao ci co w.heap.size t n s w' k.at_ k.size k.glob)
  have IN := Lib.hid (fun (w' : World) (k : Box w0 w.heap.size w.heap.size Ai Ao ci co t w') => ins_any Ai Ao ci co w.heap.size t n w' k.at_ k.size k.glob)
  have OU := Lib.hid (fun (w' : World) (k : Box w0 w.heap.size w.heap.size Ai Ao ci co t w') => outs_any Ai Ao ci co w.heap.size t n w' k.at_ k.size k.glob)
  rw [g1] at IN
  rw [g2] at OU
  have HSV := Lib.hid (show singV t n = if (eachZ (spI t n ++ spO t n)).length = 1 then (eachZ (spI t n ++ spO t n)).getD 0 0 else 0 by unfold singV; rw [g3])
  have HSB := Lib.hid (show singB t n = decide ((eachZ (spI t n ++ spO t n)).length = 1) by unfold singB; rw [g3])
  have HIS := Lib.hid ints_b
  have SPI := Lib.hid (fun (w' : World) (k : Box w0 w.heap.size w.heap.size Ai Ao ci co t w') => show Calls Tryd.prog 11 #[.agg (txCells Ai ci Ao co t).toArray, .int .i64 n, .bool false] w' (fun e w'' => ∃ v, e = .returned v ∧ w''.ownsRow w'.heap.size 3 1 v (spI t n).length (i64s (spI t n)) ∧ Below w'.heap.size w' w'') from SP.out false w' k)
  have SPO := Lib.hid (fun (w' : World) (k : Box w0 w.heap.size w.heap.size Ai Ao ci co t w') => show Calls Tryd.prog 11 #[.agg (txCells Ai ci Ao co t).toArray, .int .i64 n, .bool true] w' (fun e w'' => ∃ v, e = .returned v ∧ w''.ownsRow w'.heap.size 3 1 v (spO t n).length (i64s (spO t n)) ∧ Below w'.heap.size w' w'') from SP.out true w' k)
  have HST := Lib.hid (fun (x y : World) (hx : Box w0 w.heap.size w.heap.size Ai Ao ci co t x) (k : Below x.heap.size x y) => hx.step k)
  unfold txV at K0 SI AT IN OU ⊢
  clear h hbx hb0 hG g1 g2 g3 SP
  generalize hspI : spI t n = la at *
  generalize hspO : spO t n = lb at *
  generalize singV t n = sv at *
  generalize singB t n = sb at *
  clear hspI hspO
  have HE7 := Lib.hid (eachZ_len la)
  have HE8 := Lib.hid (eachZ_len lb)
  have HL9 := Lib.hid (eachZ_len (la ++ lb))
  have HPX := Lib.hid (placesZ_len la s)
  have HPY := Lib.hid (placesZ_len lb s)
  have E7F := Lib.hid (fun (A : Option Addr) (c n : Nat) (w : World) (hs : Sl w w.heap.size A (i64s la)) (hn : la.length = n) (hm : n ≤ 1000) => each_any A c w.heap.size n la w hs (Nat.le_refl _) hn hm)
  have E8F := Lib.hid (fun (A : Option Addr) (c n : Nat) (w : World) (hs : Sl w w.heap.size A (i64s lb)) (hn : lb.length = n) (hm : n ≤ 1000) => each_any A c w.heap.size n lb w hs (Nat.le_refl _) hn hm)
  have E9F := Lib.hid (fun (A : Option Addr) (c n : Nat) (w : World) (hs : Sl w w.heap.size A (i64s (la ++ lb))) (hn : (la ++ lb).length = n) (hm : n ≤ 1000) => each_any A c w.heap.size n (la ++ lb) w hs (Nat.le_refl _) hn hm)
  have P7F := Lib.hid (fun (A : Option Addr) (c n : Nat) (w : World) (hs : Sl w w.heap.size A (i64s la)) (hn : la.length = n) (hm : n ≤ 1000) => rplaces_any A c w.heap.size n la s w hs (Nat.le_refl _) hn hm)
  have P8F := Lib.hid (fun (A : Option Addr) (c n : Nat) (w : World) (hs : Sl w w.heap.size A (i64s lb)) (hn : lb.length = n) (hm : n ≤ 1000) => rplaces_any A c w.heap.size n lb s w hs (Nat.le_refl _) hn hm)
  obtain ⟨ea, hea⟩ : ∃ ea, eachZ la = ea := ⟨_, rfl⟩
  obtain ⟨eb, heb⟩ : ∃ eb, eachZ lb = eb := ⟨_, rfl⟩
  obtain ⟨lz, hlz⟩ : ∃ lz, eachZ (la ++ lb) = lz := ⟨_, rfl⟩
  obtain ⟨pa, hpa⟩ : ∃ pa, placesZ la s = pa := ⟨_, rfl⟩
  obtain ⟨pb, hpb⟩ : ∃ pb, placesZ lb s = pb := ⟨_, rfl⟩
  rw [hea] at HE7 E7F IN
  rw [heb] at HE8 E8F OU
  rw [hlz] at HL9 E9F HSV HSB
  rw [hpa] at HPX P7F AT
  rw [hpb] at HPY P8F AT
  clear hea heb hlz hpa hpb
  go_enter Tryd.func4, Tryd.ntmps4
  go_upto_region 1 with fail
  change Code.wp _ _ _ _ (w.alloc (.cells (txCells Ai ci Ao co t).toArray 35))
  rw [← hw0]
  clear hw0
  go_wp2_with (go_at_call 10; refine stop ?_)
  unfold Stop
  refine K0.out.mono ?_
  rintro e w1 ⟨rfl, hb1⟩
  have B1 := Lib.hid (HST.out _ _ B0.out hb1)
  clear hb1 c0 c1 c2 c3 K0
  cases hgs : greatB t
  · have e1 := great_no hgs
    rw [e1]
    clear hgs e1
    go_wp2_with fail
    refine wp_region_rel 99 Stp [.one ?_, .one ?_, .rel (fun v w => w.ownsRow w1.heap.size 3 1 v la.length (i64s la)), .one ?_, .one ?_, .rel (fun v w => w.ownsRow w1.heap.size 3 1 v lb.length (i64s lb)), .rel (fun v w => w.ownsRow w1.heap.size 3 1 v la.length (i64s la)), .rel (fun v w => w.ownsRow w1.heap.size 3 1 v lb.length (i64s lb))] (by kernel_rfl) (by kernel_rfl) rfl (by kernel_rfl) Stp.refl Stp.trans ⟨fun v w w' h hs => own_below h hs, fun v w w' h hs => own_below h hs, fun v w w' h hs => own_below h hs, fun v w w' h hs => own_below h hs, trivial⟩ ?main
    case main =>
    refine wpR_one (A' := ?_) Stp.refl (by rfl) _ rfl 99 (by rfl) (by rfl) ?_ ?_ ?_
    rotate_left 1
    · simp only [Act.put, List.setIfInBounds_toArray, List.set_cons_zero, List.set_cons_succ]; rfl
    · intro w9 hs hf K hK
      refine cls_load 35 (.tmp 3) rfl (w.heap.size) (0) rfl (txCells Ai ci Ao co t) _ (fun w2 h2 => (HST.out w1 w2 B1.out (stp_start (Stp.trans _ _ _ hs h2) (Below.refl _ _))).range) Tryd.underlying35 rfl (by kernel_rfl) ?_
      refine hK _ ?_
      simp only [Act.put, List.setIfInBounds_toArray, List.set_cons_zero, List.set_cons_succ]
      rfl
    iterate 1
      refine wpR_one (A' := ?_) Stp.refl (by rfl) _ rfl 99 (by rfl) (by rfl) ?_ ?_ ?_
      rotate_left 1
      · simp only [Act.put, List.setIfInBounds_toArray, List.set_cons_zero, List.set_cons_succ]; rfl
      · intro w1 hs hf K hK
        go_big_quiet_op
        first
          | go_big_quiet_on
          | (refine ⟨_, fun _ _ => rfl, ?_⟩; go_big_quiet_on)
        rfl
    refine wpR_rel (A' := ?_) (by rfl) ?_ ?_ ?_
    · intro w9 hs hf
      refine does_call (w' := w9) (f := 11) (args := #[.agg (txCells Ai ci Ao co t).toArray, .int .i64 n, .bool false]) (by kernel_rfl) ((SPI.out w9 (HST.out w1 w9 B1.out (stp_start hs (Below.refl _ _)))).mono ?_)
      rintro e w3 ⟨v, rfl, ho, h3⟩
      exact ⟨v, rfl, own_more ho (Below.size (w := w1.drew) hs), h3⟩
    rotate_left 1
    · intro x
      simp only [Act.put, List.setIfInBounds_toArray, List.set_cons_zero, List.set_cons_succ]; rfl
    intro x20
    refine wpR_one (A' := ?_) Stp.refl (by rfl) _ rfl 99 (by rfl) (by rfl) ?_ ?_ ?_
    rotate_left 1
    · simp only [Act.put, List.setIfInBounds_toArray, List.set_cons_zero, List.set_cons_succ]; rfl
    · intro w9 hs hf K hK
      refine cls_load 35 (.tmp 3) rfl (w.heap.size) (0) rfl (txCells Ai ci Ao co t) _ (fun w2 h2 => (HST.out w1 w2 B1.out (stp_start (Stp.trans _ _ _ hs h2) (Below.refl _ _))).range) Tryd.underlying35 rfl (by kernel_rfl) ?_
      refine hK _ ?_
      simp only [Act.put, List.setIfInBounds_toArray, List.set_cons_zero, List.set_cons_succ]
      rfl
    iterate 1
      refine wpR_one (A' := ?_) Stp.refl (by rfl) _ rfl 99 (by rfl) (by rfl) ?_ ?_ ?_
      rotate_left 1
      · simp only [Act.put, List.setIfInBounds_toArray, List.set_cons_zero, List.set_cons_succ]; rfl
      · intro w1 hs hf K hK
        go_big_quiet_op
        first
          | go_big_quiet_on
          | (refine ⟨_, fun _ _ => rfl, ?_⟩; go_big_quiet_on)
        rfl
    refine wpR_rel (A' := ?_) (by rfl) ?_ ?_ ?_
    · intro w9 hs hf
      refine does_call (w' := w9) (f := 11) (args := #[.agg (txCells Ai ci Ao co t).toArray, .int .i64 n, .bool true]) (by kernel_rfl) ((SPO.out w9 (HST.out w1 w9 B1.out (stp_start hs (Below.refl _ _)))).mono ?_)
      rintro e w3 ⟨v, rfl, ho, h3⟩
      exact ⟨v, rfl, own_more ho (Below.size (w := w1.drew) hs), h3⟩
    rotate_left 1
    · intro x
      simp only [Act.put, List.setIfInBounds_toArray, List.set_cons_zero, List.set_cons_succ]; rfl
    intro x23
    refine wpR_rel (A' := ?_) (by rfl) ?_ ?_ ?_
    · intro w9 hs hf
      exact does_run (w' := w9) (u := x20) (by rfl) ⟨AllF_at hf 1 rfl (by kernel_rfl), Stp.refl _⟩
    rotate_left 1
    · intro x
      simp only [Act.put, List.setIfInBounds_toArray, List.set_cons_zero, List.set_cons_succ]; rfl
    intro x7
    refine wpR_rel (A' := ?_) (by rfl) ?_ ?_ ?_
    · intro w9 hs hf
      exact does_run (w' := w9) (u := x23) (by rfl) ⟨AllF_at hf 1 rfl (by kernel_rfl), Stp.refl _⟩
    rotate_left 1
    · intro x
      simp only [Act.put, List.setIfInBounds_toArray, List.set_cons_zero, List.set_cons_succ]; rfl
    intro x8
    intro w2 hs hf
    obtain ⟨hx23, hx20, -⟩ := hf
    change w2.ownsRow w1.heap.size 3 1 x8 lb.length (i64s lb) at hx23
    change w2.ownsRow w1.heap.size 3 1 x7 la.length (i64s la) at hx20
    have hb2 : Below w1.heap.size w1 w2 := stp_start hs (Below.refl _ _)
    have B2 := Lib.hid (HST.out _ _ B1.out hb2)
    obtain ⟨A7, k7, rfl, s7, -, hk7, ha7⟩ := own_sl hx20
    obtain ⟨A8, k8, rfl, s8, -, hk8, ha8⟩ := own_sl hx23
    have S7 := Lib.hid s7
    have S8 := Lib.hid s8
    have HA7 := Lib.hid ha7
    have HA8 := Lib.hid ha8
    have HK7 := Lib.hid hk7
    have HK8 := Lib.hid hk8
    obtain ⟨na, hna⟩ : ∃ na, na = la.length := ⟨_, rfl⟩
    obtain ⟨nb, hnb⟩ : ∃ nb, nb = lb.length := ⟨_, rfl⟩
    have hna16 : na ≤ 16 := by rw [hna]; exact HL.out.1
    have hnb16 : nb ≤ 16 := by rw [hnb]; exact HL.out.2
    have HNA := Lib.hid hna.symm
    have HNB := Lib.hid hnb.symm
    rw [← hna, ← hnb]
    clear hs hb2 hx23 hx20 s7 s8 ha7 ha8 hk7 hk8 hna hnb
    go_upto_region 4 with fail
    go_step
    refine wpList_val rfl (.slice (some ⟨w2.heap.size, 0, none⟩) 0 0) (w2.alloc (.cells #[] 3)) (by kernel_rfl) ?_
    obtain ⟨w3, hw3⟩ : ∃ w3, w3 = w2.alloc (.cells #[] 3) := ⟨_, rfl⟩
    have hb3 : Below w2.heap.size w2 w3 := by rw [hw3]; exact (Below.refl _ _).alloc (Nat.le_refl _) _
    have HO3 := Lib.hid (show w3.ownsRow w2.heap.size 3 1 (.slice (some ⟨w2.heap.size, 0, none⟩) 0 0) 0 [] by rw [hw3]; exact own_new w2 w2.heap.size 3 [] 0 rfl (Nat.le_refl _) (by unfold maxLen; omega))
    have HB3 := Lib.hid hb3
    rw [← hw3]
    clear hw3 hb3
    generalize Value.slice (some ⟨w2.heap.size, 0, none⟩) 0 0 = v24 at *
    go_wp2_with (at_builtin; refine stop ?_)
    unfold Stop
    refine wpList_append_any (o := ⟨some 26, _, _, _, _, _⟩) rfl _ _ 37 rfl w2.heap.size 3 i0 (.int .i64 0) 8 Tryd.underlying37 hi hz0 hz1 hz2 rfl _ _ _ rfl HO3.out A7 na k7 (i64s la) rfl HA7.out (by rw [i64s_len]; exact HNA.out) (fun j u hj => by obtain ⟨ad, e1, _, hc⟩ := (S7.out.below HB3.out).at hj; exact ⟨ad, e1, hc⟩) ?_ ?_ ?_ ?_ ?_
    · intro u hu; simp [i64s] at hu; obtain ⟨x, _, rfl⟩ := hu; rfl
    · unfold maxLen; omega
    · omega
    · exact HB3.out.size
    intro v4 w4 q1 q2
    have HO4 := Lib.hid q1
    have HB4 := Lib.hid (show Below w2.heap.size w2 w4 from HB3.out.grown q2 HB3.out.size (fun j hj => (HO3.out.lt j hj).1))
    clear q1 q2
    go_wp2_with (at_builtin; refine stop ?_)
    unfold Stop
    refine wpList_append_any (o := ⟨some 28, _, _, _, _, _⟩) rfl _ _ 37 rfl w2.heap.size 3 i0 (.int .i64 0) 8 Tryd.underlying37 hi hz0 hz1 hz2 rfl _ _ _ rfl HO4.out A8 nb k8 (i64s lb) rfl HA8.out (by rw [i64s_len]; exact HNB.out) (fun j u hj => by obtain ⟨ad, e1, _, hc⟩ := (S8.out.below HB4.out).at hj; exact ⟨ad, e1, hc⟩) ?_ ?_ ?_ ?_ ?_
    · intro u hu; simp [i64s] at hu; obtain ⟨x, _, rfl⟩ := hu; rfl
    · unfold maxLen; omega
    · omega
    · exact HB4.out.size
    intro v5 w5 q1 q2
    have hb5 : Below w2.heap.size w2 w5 := HB4.out.grown q2 HB4.out.size (fun j hj => (HO4.out.lt j hj).1)
    have ho5 : w5.ownsRow w2.heap.size 3 1 v5 (na + nb) (i64s (la ++ lb)) := by
      have e : i64s (la ++ lb) = [] ++ i64s la ++ i64s lb := by rw [List.nil_append]; exact List.map_append ..
      rw [e, ← Nat.zero_add na]; exact q1
    obtain ⟨A5, k5, rfl, s5, -, hk5, ha5⟩ := own_sl ho5
    have B5 := Lib.hid (HST.out _ _ B2.out hb5)
    have S7 := Lib.hid ((S7.out.below hb5).more hb5.size)
    have S8 := Lib.hid ((S8.out.below hb5).more hb5.size)
    have E5 := Lib.hid (E9F.out A5 k5 (na + nb) w5 s5 (by rw [List.length_append, HNA.out, HNB.out]) (by omega))
    clear q1 q2 hb5 ho5 s5 HO3 HB3 HO4 HB4
    go_wp2_with (go_at_call 12; refine stop ?_)
    unfold Stop
    refine E5.out.mono ?_
    rintro e w6 ⟨v9, rfl, ho6, hb6⟩
    obtain ⟨A9, k9, rfl, s9, -, hk9, ha9⟩ := own_sl ho6
    have B6 := Lib.hid (HST.out _ _ B5.out hb6)
    have S7 := Lib.hid ((S7.out.below hb6).more hb6.size)
    have S8 := Lib.hid ((S8.out.below hb6).more hb6.size)
    have S9 := Lib.hid s9
    obtain ⟨nz, hnz⟩ : ∃ nz, nz = lz.length := ⟨_, rfl⟩
    have HNZ := Lib.hid hnz.symm
    have hnz64 : nz ≤ 64 := by rw [hnz]; exact HL9.out
    rw [← hnz]
    rw [← hnz] at HSV HSB hk9
    clear hb6 ho6 s9 E5 hnz HL9
    go_upto_region 5 with fail
    obtain ⟨c0, c1, c2, c3⟩ := B6.out.row
    go_wp2_with (go_at_call 13; refine stop ?_)
    unfold Stop
    refine (SI.out w6 B6.out).mono ?_
    rintro e w7 ⟨rfl, hb7⟩
    have B7 := Lib.hid (HST.out _ _ B6.out hb7)
    have S7 := Lib.hid ((S7.out.below hb7).more hb7.size)
    have S8 := Lib.hid ((S8.out.below hb7).more hb7.size)
    have S9 := Lib.hid ((S9.out.below hb7).more hb7.size)
    clear hb7 c0 c1 c2 c3
    go_upto_region 6 with fail
    obtain ⟨c0, c1, c2, c3⟩ := B7.out.row
    go_wp2_with (go_at_call 14; refine stop ?_)
    unfold Stop
    refine (AT.out w7 B7.out).mono ?_
    rintro e w8 ⟨x, y, rfl, hx, hy, hb8⟩
    obtain ⟨AX, kx, rfl, sx, -, hkx, hax⟩ := own_sl hx
    obtain ⟨AY, ky, rfl, sy, -, hky, hay⟩ := own_sl hy
    have B8 := Lib.hid (HST.out _ _ B7.out hb8)
    have S7 := Lib.hid ((S7.out.below hb8).more hb8.size)
    have S8 := Lib.hid ((S8.out.below hb8).more hb8.size)
    have S9 := Lib.hid ((S9.out.below hb8).more hb8.size)
    have SX := Lib.hid sx
    have SY := Lib.hid sy
    clear hb8 hx hy sx sy c0 c1 c2 c3
    go_upto_region 7 with fail
    obtain ⟨c0, c1, c2, c3⟩ := B8.out.row
    go_wp2_with (go_at_call 16; refine stop ?_)
    unfold Stop
    refine (IN.out w8 B8.out).mono ?_
    rintro e w9 ⟨u1, rfl, ho, hb9⟩
    obtain ⟨AI, kI, rfl, sI, -, hkI, haI⟩ := own_sl ho
    have B9 := Lib.hid (HST.out _ _ B8.out hb9)
    have S7 := Lib.hid ((S7.out.below hb9).more hb9.size)
    have S8 := Lib.hid ((S8.out.below hb9).more hb9.size)
    have S9 := Lib.hid ((S9.out.below hb9).more hb9.size)
    have SX := Lib.hid ((SX.out.below hb9).more hb9.size)
    have SY := Lib.hid ((SY.out.below hb9).more hb9.size)
    have SI' := Lib.hid sI
    clear hb9 ho sI c0 c1 c2 c3
    go_wp2_with (go_at_call 12; refine stop ?_)
    unfold Stop
    refine (E7F.out A7 k7 na w9 S7.out HNA.out (by omega)).mono ?_
    rintro e w10 ⟨u2, rfl, ho, hb10⟩
    obtain ⟨AE, kE, rfl, sE, -, hkE, haE⟩ := own_sl ho
    have B10 := Lib.hid (HST.out _ _ B9.out hb10)
    have S7 := Lib.hid ((S7.out.below hb10).more hb10.size)
    have S8 := Lib.hid ((S8.out.below hb10).more hb10.size)
    have S9 := Lib.hid ((S9.out.below hb10).more hb10.size)
    have SX := Lib.hid ((SX.out.below hb10).more hb10.size)
    have SY := Lib.hid ((SY.out.below hb10).more hb10.size)
    have I10 := Lib.hid (HIS.out AI AE kI kE w10.heap.size w10.heap.size _ ea w10 ((SI'.out.below hb10).more hb10.size) sE rfl (by have := HE7.out; omega))
    clear hb10 ho sE SI'
    go_wp2_with (go_at_call 15; refine stop ?_)
    unfold Stop
    refine I10.out.mono ?_
    rintro e w11 ⟨rfl, hb11⟩
    have B11 := Lib.hid (HST.out _ _ B10.out hb11)
    have S7 := Lib.hid ((S7.out.below hb11).more hb11.size)
    have S8 := Lib.hid ((S8.out.below hb11).more hb11.size)
    have S9 := Lib.hid ((S9.out.below hb11).more hb11.size)
    have SX := Lib.hid ((SX.out.below hb11).more hb11.size)
    have SY := Lib.hid ((SY.out.below hb11).more hb11.size)
    clear hb11 I10
    obtain ⟨c0, c1, c2, c3⟩ := B11.out.row
    go_wp2_with (go_at_call 17; refine stop ?_)
    unfold Stop
    refine (OU.out w11 B11.out).mono ?_
    rintro e w12 ⟨u3, rfl, ho, hb12⟩
    obtain ⟨AU, kU, rfl, sU, -, hkU, haU⟩ := own_sl ho
    have B12 := Lib.hid (HST.out _ _ B11.out hb12)
    have S7 := Lib.hid ((S7.out.below hb12).more hb12.size)
    have S8 := Lib.hid ((S8.out.below hb12).more hb12.size)
    have S9 := Lib.hid ((S9.out.below hb12).more hb12.size)
    have SX := Lib.hid ((SX.out.below hb12).more hb12.size)
    have SY := Lib.hid ((SY.out.below hb12).more hb12.size)
    have SU' := Lib.hid sU
    clear hb12 ho sU c0 c1 c2 c3
    go_wp2_with (go_at_call 12; refine stop ?_)
    unfold Stop
    refine (E8F.out A8 k8 nb w12 S8.out HNB.out (by omega)).mono ?_
    rintro e w13 ⟨u4, rfl, ho, hb13⟩
    obtain ⟨AF, kF, rfl, sF, -, hkF, haF⟩ := own_sl ho
    have B13 := Lib.hid (HST.out _ _ B12.out hb13)
    have S7 := Lib.hid ((S7.out.below hb13).more hb13.size)
    have S8 := Lib.hid ((S8.out.below hb13).more hb13.size)
    have S9 := Lib.hid ((S9.out.below hb13).more hb13.size)
    have SX := Lib.hid ((SX.out.below hb13).more hb13.size)
    have SY := Lib.hid ((SY.out.below hb13).more hb13.size)
    have I13 := Lib.hid (HIS.out AU AF kU kF w13.heap.size w13.heap.size _ eb w13 ((SU'.out.below hb13).more hb13.size) sF rfl (by have := HE8.out; omega))
    clear hb13 ho sF SU'
    go_wp2_with (go_at_call 15; refine stop ?_)
    unfold Stop
    refine I13.out.mono ?_
    rintro e w14 ⟨rfl, hb14⟩
    have B14 := Lib.hid (HST.out _ _ B13.out hb14)
    have S7 := Lib.hid ((S7.out.below hb14).more hb14.size)
    have S8 := Lib.hid ((S8.out.below hb14).more hb14.size)
    have S9 := Lib.hid ((S9.out.below hb14).more hb14.size)
    have SX := Lib.hid ((SX.out.below hb14).more hb14.size)
    have SY := Lib.hid ((SY.out.below hb14).more hb14.size)
    clear hb14 I13
    by_cases hone : nz = 1
    · obtain ⟨z, hz⟩ : ∃ z, lz = [z] := by
        have hl := HNZ.out
        rw [hone] at hl
        cases lz with
        | nil => simp at hl
        | cons a l => cases l with
          | nil => exact ⟨a, rfl⟩
          | cons b l => simp at hl
      have e1 : sv = z := by rw [HSV.out, if_pos hone, hz]; rfl
      have e2 : sb = true := by rw [HSB.out]; exact decide_eq_true hone
      obtain ⟨ad, hA9, _, hcz⟩ := S9.out.at (show (i64s lz)[0]? = some (.int .i64 z) by rw [hz]; rfl)
      subst e1 e2 hone hA9
      rw [add_zero'] at hcz
      clear HSV HSB hz HNZ
      go_wp2_with (go_at_call 18; refine stop ?_)
      unfold Stop
      refine (P7F.out A7 k7 na w14 S7.out HNA.out (by omega)).mono ?_
      rintro e w15 ⟨u5, rfl, ho, hb15⟩
      obtain ⟨AP, kP, rfl, sP, -, hkP, haP⟩ := own_sl ho
      have B15 := Lib.hid (HST.out _ _ B14.out hb15)
      have S8 := Lib.hid ((S8.out.below hb15).more hb15.size)
      have SY := Lib.hid ((SY.out.below hb15).more hb15.size)
      have I15 := Lib.hid (HIS.out AX AP kx kP w15.heap.size w15.heap.size _ pa w15 ((SX.out.below hb15).more hb15.size) sP rfl (by have := HPX.out; rw [HNA.out] at this; omega))
      clear hb15 ho sP SX S7 S9
      go_wp2_with (go_at_call 15; refine stop ?_)
      unfold Stop
      refine I15.out.mono ?_
      rintro e w16 ⟨rfl, hb16⟩
      have B16 := Lib.hid (HST.out _ _ B15.out hb16)
      have S8 := Lib.hid ((S8.out.below hb16).more hb16.size)
      have SY := Lib.hid ((SY.out.below hb16).more hb16.size)
      clear hb16 I15
      go_wp2_with (go_at_call 18; refine stop ?_)
      unfold Stop
      refine (P8F.out A8 k8 nb w16 S8.out HNB.out (by omega)).mono ?_
      rintro e w17 ⟨u6, rfl, ho, hb17⟩
      obtain ⟨AQ, kQ, rfl, sQ, -, hkQ, haQ⟩ := own_sl ho
      have B17 := Lib.hid (HST.out _ _ B16.out hb17)
      have I17 := Lib.hid (HIS.out AY AQ ky kQ w17.heap.size w17.heap.size _ pb w17 ((SY.out.below hb17).more hb17.size) sQ rfl (by have := HPY.out; rw [HNB.out] at this; omega))
      clear hb17 ho sQ SY S8
      go_wp2_with (go_at_call 15; refine stop ?_)
      unfold Stop
      refine I17.out.mono ?_
      rintro e w18 ⟨rfl, hb18⟩
      have B18 := Lib.hid (HST.out _ _ B17.out hb18)
      clear hb18 I17
      go_wp2_with (go_at_call 9; refine stop ?_)
      unfold Stop
      refine (AW.out w18 B18.out.glob).mono ?_
      rintro e w19 ⟨rfl, hb19⟩
      have B19 := Lib.hid (HST.out _ _ B18.out hb19)
      clear hb19
      go_wp2
      go_ret
      exact ⟨rfl, FIN.out _ B19.out.stp⟩
    · have e1 : sv = 0 := by rw [HSV.out, if_neg hone]
      have e2 : sb = false := by rw [HSB.out]; exact decide_eq_false hone
      have hd : ((nz : Int) == 1) = false := beq_false_of_ne (by omega)
      subst e1 e2
      clear HSV HSB HNZ
      go_wp2_with (go_at_call 18; refine stop ?_)
      unfold Stop
      refine (P7F.out A7 k7 na w14 S7.out HNA.out (by omega)).mono ?_
      rintro e w15 ⟨u5, rfl, ho, hb15⟩
      obtain ⟨AP, kP, rfl, sP, -, hkP, haP⟩ := own_sl ho
      have B15 := Lib.hid (HST.out _ _ B14.out hb15)
      have S8 := Lib.hid ((S8.out.below hb15).more hb15.size)
      have SY := Lib.hid ((SY.out.below hb15).more hb15.size)
      have I15 := Lib.hid (HIS.out AX AP kx kP w15.heap.size w15.heap.size _ pa w15 ((SX.out.below hb15).more hb15.size) sP rfl (by have := HPX.out; rw [HNA.out] at this; omega))
      clear hb15 ho sP SX S7 S9
      go_wp2_with (go_at_call 15; refine stop ?_)
      unfold Stop
      refine I15.out.mono ?_
      rintro e w16 ⟨rfl, hb16⟩
      have B16 := Lib.hid (HST.out _ _ B15.out hb16)
      have S8 := Lib.hid ((S8.out.below hb16).more hb16.size)
      have SY := Lib.hid ((SY.out.below hb16).more hb16.size)
      clear hb16 I15
      go_wp2_with (go_at_call 18; refine stop ?_)
      unfold Stop
      refine (P8F.out A8 k8 nb w16 S8.out HNB.out (by omega)).mono ?_
      rintro e w17 ⟨u6, rfl, ho, hb17⟩
      obtain ⟨AQ, kQ, rfl, sQ, -, hkQ, haQ⟩ := own_sl ho
      have B17 := Lib.hid (HST.out _ _ B16.out hb17)
      have I17 := Lib.hid (HIS.out AY AQ ky kQ w17.heap.size w17.heap.size _ pb w17 ((SY.out.below hb17).more hb17.size) sQ rfl (by have := HPY.out; rw [HNB.out] at this; omega))
      clear hb17 ho sQ SY S8
      go_wp2_with (go_at_call 15; refine stop ?_)
      unfold Stop
      refine I17.out.mono ?_
      rintro e w18 ⟨rfl, hb18⟩
      have B18 := Lib.hid (HST.out _ _ B17.out hb18)
      clear hb18 I17
      go_wp2_with (go_at_call 9; refine stop ?_)
      unfold Stop
      refine (AW.out w18 B18.out.glob).mono ?_
      rintro e w19 ⟨rfl, hb19⟩
      have B19 := Lib.hid (HST.out _ _ B18.out hb19)
      clear hb19
      go_wp2
      go_ret
      exact ⟨rfl, FIN.out _ B19.out.stp⟩
  · have e1 := great_yes hgs
    rw [e1]
    clear hgs e1
    go_wp2_with (go_at_call 9; refine stop ?_)
    unfold Stop
    refine (AW.out w1 B1.out.glob).mono ?_
    rintro e w2 ⟨rfl, hb2⟩
    have B2 := Lib.hid (HST.out _ _ B1.out hb2)
    clear hb2
    go_wp2
    go_ret
    exact ⟨rfl, FIN.out _ B2.out.stp⟩
set_option maxRecDepth 100000 in
theorem mappingTells_walk' (Ai : Option Addr) (ci : Nat) (Ao : Option Addr) (co : Nat) (t : Ptx) (n s : Int) (w : World) (h : TxAt w w.heap.size Ai ci Ao co t) (_ : (Lit.int .i64 n).wf = true) (_ : (Lit.int .i64 s).wf = true) (hG : Glob w) :
    Calls Tryd.prog 4 #[txV Ai ci Ao co t, .int .i64 n, .int .i64 s] w fun e w' => e = .returned (.bool true) ∧ Below w.heap.size w w' := mappingTells_walk Ai ci Ao co t n s w h hG
end Go.Proofs.YtoclfohgchlpnaaDoor
