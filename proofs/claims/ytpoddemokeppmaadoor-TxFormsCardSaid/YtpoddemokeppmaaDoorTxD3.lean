/- The contracts of the searches of 'Same', and of it. -/
import Derived.Test.YtpoddemokeppmaaDoorTxD1
set_option linter.unusedVariables false
set_option linter.unusedSimpArgs false
namespace Go.Proofs.YtpoddemokeppmaaDoor
open Go.RowKit
attribute [local go_sem ↓] loadAt_out
attribute [local go_sem] rowOf_drew rowOf_drewN run_outLoad
set_option maxRecDepth 100000 in
theorem Pin.whole {w : World} {g : Nat} {p : Pin} {S : Option Addr} {c : Nat} {t : TypeId} {fr : Nat × Nat} (h : w.heap[g]? = some (.cells (p.cells S c).toArray t fr)) : w.rangeAt g 0 (p.cells S c) := fun j v hj => by
  rw [cell_of_row w g _ _ _ _ h, List.getElem?_toArray, Nat.zero_add]; exact hj
set_option maxRecDepth 100000 in
set_option maxHeartbeats 4000000 in
theorem eqFunc_any (A A' : Option Addr) (c c' B B' : Nat) (l m : List Pin) (w : World) (hI : InsAt w B A l) (hJ : InsAt w B' A' m) (hl : l.length ≤ maxLen) (hm : m.length ≤ maxLen) :
    Calls Tryd.prog 42 #[.slice A l.length c, .slice A' m.length c', .func (.func 43) #[] #[]] w fun e w' => e = .returned (.bool (decide (l = m))) ∧ Turn (fun _ => False) w w' := by
  unfold maxLen at hl hm
  have HI := Lib.hid hI
  have HJ := Lib.hid hJ
  have hzd := zero_in
  change ∀ w, _ = Result.ok (Value.agg ZIn) w at hzd
  clear hI hJ
  obtain ⟨r, hr⟩ : ∃ r, r = decide (l = m) := ⟨_, rfl⟩
  rw [← hr]
  have HRR := Lib.hid hr
  clear hr
  by_cases hlm : l.length = m.length
  · have t1 : ((l.length : Int) != (m.length : Int)) = false := by rw [hlm]; simp
    have HLM := Lib.hid hlm
    clear hlm
    go_enter Tryd.func42, Tryd.ntmps42
    go_wp2
    go_loopw [17] (fun i wr => ∃ k : Nat, k ≤ l.length ∧ i = .int .i64 k ∧ l.take k = m.take k ∧ Turn (fun _ => False) w wr) (fun i _ => l.length - (intOf i).toNat)
    case atStart => exact ⟨0, Nat.zero_le _, rfl, rfl, Turn.refl _ _⟩
    case round =>
      obtain ⟨k, hk, rfl, htk, ht⟩ := hrel
      have HTK := Lib.hid htk
      by_cases hlt : k < l.length
      · have hlt' : k < m.length := by have := HLM.out; omega
        obtain ⟨hokp, b, o, S, cp, rfl, -, hsp, hrp⟩ := (HI.out.turn ht (fun _ _ h => h)) k l[k] (List.getElem?_eq_getElem hlt)
        obtain ⟨hokq, b', o', S', cq, rfl, -, hsq, hrq⟩ := (HJ.out.turn ht (fun _ _ h => h)) k m[k] (List.getElem?_eq_getElem hlt')
        have HNO := Lib.hid (fun hne : ¬ l[k] = m[k] => show false = r by rw [HRR.out]; symm; rw [decide_eq_false_iff_not]; rintro rfl; exact hne rfl)
        have HYES := Lib.hid (fun he => take_next hlt hlt' HTK.out he)
        obtain ⟨p, hp⟩ : ∃ p, p = l[k] := ⟨_, rfl⟩
        obtain ⟨q, hq⟩ : ∃ q, q = m[k] := ⟨_, rfl⟩
        rw [← hp] at hokp hsp hrp HNO HYES
        rw [← hq] at hokq hsq hrq HNO HYES
        have HLP := Lib.hid (show (Tryd.prog.info? 47).map (·.size) = some (p.cells S cp).length by rw [p.len S cp hokp.d]; kernel_rfl)
        have HLQ := Lib.hid (show (Tryd.prog.info? 47).map (·.size) = some (q.cells S' cq).length by rw [q.len S' cq hokq.d]; kernel_rfl)
        obtain ⟨D, hD⟩ : ∃ D, D = (p.cells S cp).toArray := ⟨_, rfl⟩
        obtain ⟨E, hE⟩ : ∃ E, E = (q.cells S' cq).toArray := ⟨_, rfl⟩
        have sD : D.size = 35 := by rw [hD, List.size_toArray, p.len S cp hokp.d]
        have sE : E.size = 35 := by rw [hE, List.size_toArray, q.len S' cq hokq.d]
        have D1 := Lib.hid (show (Tryd.prog.info? 47).map (·.size) = some D.size by rw [sD]; kernel_rfl)
        have D2 := Lib.hid (show ZIn.size = D.size by rw [sD]; rfl)
        have D3 := Lib.hid (show D.all (·.oneCell') = true by rw [hD]; exact p.one S cp)
        have E1 := Lib.hid (show (Tryd.prog.info? 47).map (·.size) = some E.size by rw [sE]; kernel_rfl)
        have E2 := Lib.hid (show ZIn.size = E.size by rw [sE]; rfl)
        have E3 := Lib.hid (show E.all (·.oneCell') = true by rw [hE]; exact q.one S' cq)
        obtain ⟨w1, hw1⟩ : ∃ w1, w1 = wr.alloc (.cells D 47) := ⟨_, rfl⟩
        obtain ⟨w2, hw2⟩ : ∃ w2, w2 = w1.alloc (.cells E 47) := ⟨_, rfl⟩
        obtain ⟨gd, hgd⟩ : ∃ gd, gd = wr.heap.size := ⟨_, rfl⟩
        obtain ⟨ge, hge⟩ : ∃ ge, ge = w1.heap.size := ⟨_, rfl⟩
        have t1' : Turn (fun _ => False) wr w1 := by rw [hw1]; exact (Turn.refl _ _).alloc _
        have t2' : Turn (fun _ => False) w1 w2 := by rw [hw2]; exact (Turn.refl _ _).alloc _
        have h1 : w1.heap[gd]? = some (.cells (p.cells S cp).toArray 47 (0, 0)) := by rw [hw1, hgd, ← hD]; exact heap_alloc_new _ _
        have h2 : w2.heap[ge]? = some (.cells (q.cells S' cq).toArray 47 (0, 0)) := by rw [hw2, hge, ← hE]; exact heap_alloc_new _ _
        have RD := Lib.hid (Pin.whole (t2'.heap h1 (fun h => h)))
        have RE := Lib.hid (Pin.whole h2)
        have RP := Lib.hid hrp
        have RQ := Lib.hid (t1'.range hrq (fun h => h))
        have C := Lib.hid (sameIn_any p q S S' cp cq B B' w2 hokp hokq ((hsp.turn t1' (fun _ _ h => h)).turn t2' (fun _ _ h => h)) ((hsq.turn t1' (fun _ _ h => h)).turn t2' (fun _ _ h => h)))
        rw [← hD, ← hE] at C
        have HD := Lib.hid hD
        have HE := Lib.hid hE
        have HW1 := Lib.hid hw1
        have HW2 := Lib.hid hw2
        have HGD := Lib.hid hgd
        have HGE := Lib.hid hge
        have HT2 := Lib.hid ((ht.trans t1' (fun _ _ h => h)).trans t2' (fun _ _ h => h))
        clear hokp hokq hsp hsq hrp hrq hp hq hD hE sD sE hw1 hw2 hgd hge t1' t2' h1 h2 htk ht
        go_upto_region 6 with (first
          | (refine wpList_load_mid (op := ⟨some 21, _, _, _, _, _⟩) rfl _ _ rfl b (o + k * 35) rfl (p.cells S cp) _ RP.out Tryd.underlying47 rfl HLP.out ?_; rw [← HD.out])
          | (refine wpList_store_row rfl _ _ _ rfl wr.heap.size D rfl rfl 47 _ (heap_alloc_new wr _) D1.out D2.out D3.out ?_; rw [World.setRow_alloc_new, ← HW1.out, ← HGD.out]))
        go_wp2_with (first
          | (refine wpList_load_mid (op := ⟨some 25, _, _, _, _, _⟩) rfl _ _ rfl b' (o' + k * 35) rfl (q.cells S' cq) _ RQ.out Tryd.underlying47 rfl HLQ.out ?_; rw [← HE.out])
          | (refine wpList_store_row rfl _ _ _ rfl w1.heap.size E rfl rfl 47 _ (heap_alloc_new w1 _) E1.out E2.out E3.out ?_; rw [World.setRow_alloc_new, ← HW2.out, ← HGE.out])
          | (refine wpList_load_mid (op := ⟨some 27, _, _, _, _, _⟩) rfl _ _ rfl gd 0 rfl (p.cells S cp) _ RD.out Tryd.underlying47 rfl HLP.out ?_; rw [← HD.out])
          | (refine wpList_load_mid (op := ⟨some 28, _, _, _, _, _⟩) rfl _ _ rfl ge 0 rfl (q.cells S' cq) _ RE.out Tryd.underlying47 rfl HLQ.out ?_; rw [← HE.out]))
        refine C.out.mono ?_
        rintro e w3 ⟨rfl, t3⟩
        have HT3 := Lib.hid (HT2.out.trans t3 (fun _ _ h => h))
        clear t3
        by_cases hpq : p = q
        · have HR := Lib.hid (HYES.out hpq)
          rw [show decide (p = q) = true by simp [hpq]]
          clear hpq
          go_wp2
          go_roundw
          case rel => exact ⟨k + 1, by omega, by go_num, HR.out, HT3.out⟩
          case measure => simp [intOf]; omega
        · have HR := Lib.hid (HNO.out hpq)
          rw [show decide (p = q) = false by simp [hpq]]
          clear hpq
          go_wp2
          go_ret
          exact ⟨ret_bool HR.out, HT3.out⟩
      · obtain rfl : k = l.length := by omega
        have HR := Lib.hid (show true = r by
          have h1 := HTK.out
          rw [List.take_length, HLM.out, List.take_length] at h1
          rw [HRR.out, h1]; simp)
        clear htk
        go_wp2
        go_ret
        exact ⟨ret_bool HR.out, ht⟩
  · have t1 : ((l.length : Int) != (m.length : Int)) = true := by simp; omega
    have HR := Lib.hid (show false = r by rw [HRR.out]; symm; rw [decide_eq_false_iff_not]; rintro rfl; exact hlm rfl)
    clear hlm
    go_enter Tryd.func42, Tryd.ntmps42
    go_wp2
    go_ret
    exact ⟨ret_bool HR.out, Turn.refl _ _⟩
set_option maxRecDepth 100000 in
set_option maxHeartbeats 4000000 in
theorem eqOuts_any (A A' : Option Addr) (c c' B B' : Nat) (l m : List Pout) (w : World) (hI : OutsAt w B A l) (hJ : OutsAt w B' A' m) (hl : l.length ≤ maxLen) (hm : m.length ≤ maxLen) :
    Calls Tryd.prog 44 #[.slice A l.length c, .slice A' m.length c'] w fun e w' => e = .returned (.bool (decide (l = m))) ∧ Turn (fun _ => False) w w' := by
  unfold maxLen at hl hm
  have HI := Lib.hid hI
  have HJ := Lib.hid hJ
  clear hI hJ
  obtain ⟨r, hr⟩ : ∃ r, r = decide (l = m) := ⟨_, rfl⟩
  rw [← hr]
  have HRR := Lib.hid hr
  clear hr
  by_cases hlm : l.length = m.length
  · have t1 : ((l.length : Int) != (m.length : Int)) = false := by rw [hlm]; simp
    have HLM := Lib.hid hlm
    clear hlm
    go_enter Tryd.func44, Tryd.ntmps44
    go_wp2
    go_loopw [13] (fun i wr => ∃ k n : Nat, k ≤ l.length ∧ i = .int .i64 k ∧ l.take k = m.take k ∧ wr = w.drewN n) (fun i _ => l.length - (intOf i).toNat)
    case atStart => exact ⟨0, 0, Nat.zero_le _, rfl, rfl, rfl⟩
    case round =>
      obtain ⟨k, n, hk, rfl, htk, rfl⟩ := hrel
      have HTK := Lib.hid htk
      by_cases hlt : k < l.length
      · have hlt' : k < m.length := by have := HLM.out; omega
        obtain ⟨hokp, b, o, rfl, -, hrp⟩ := HI.out k l[k] (List.getElem?_eq_getElem hlt)
        obtain ⟨hokq, b', o', rfl, -, hrq⟩ := HJ.out k m[k] (List.getElem?_eq_getElem hlt')
        have rp := Pout.rowAt hrp hokp.d
        have rq := Pout.rowAt hrq hokq.d
        have HNO := Lib.hid (fun hne : ¬ l[k] = m[k] => show false = r by rw [HRR.out]; symm; rw [decide_eq_false_iff_not]; rintro rfl; exact hne rfl)
        have HYES := Lib.hid (fun he => take_next hlt hlt' HTK.out he)
        obtain ⟨p, hp⟩ : ∃ p, p = l[k] := ⟨_, rfl⟩
        obtain ⟨q, hq⟩ : ∃ q, q = m[k] := ⟨_, rfl⟩
        rw [← hp] at hokp rp HNO HYES
        rw [← hq] at hokq rq HNO HYES
        have hne := neq_out p q hokp.d hokq.d
        obtain ⟨PP, hPP⟩ : ∃ PP, PP = (recV p.d (.int .u64 (p.n : Int))).toArray := ⟨_, rfl⟩
        obtain ⟨PQ, hPQ⟩ : ∃ PQ, PQ = (recV q.d (.int .u64 (q.n : Int))).toArray := ⟨_, rfl⟩
        rw [← hPP] at rp hne
        rw [← hPQ] at rq hne
        obtain ⟨w2, hw2⟩ : ∃ w2, w2 = w.drewN n := ⟨_, rfl⟩
        rw [← hw2]
        have HW2 := Lib.hid hw2
        have rp1 : rowOf w2 b (o + k * 33) 33 = some PP := by rw [hw2]; exact rp
        have rq1 : rowOf w2 b' (o' + k * 33) 33 = some PQ := by rw [hw2]; exact rq
        clear hokp hokq hrp hrq hp hq hPP hPQ hw2 htk
        by_cases hpq : p = q
        · have HR := Lib.hid (HYES.out hpq)
          rw [show decide (p = q) = true by simp [hpq]] at hne
          clear hpq
          go_wp2
          go_quiet (fail)
          go_wp2
          go_roundw
          case rel => exact ⟨k + 1, n + nq, by omega, by go_num, HR.out, by rw [HW2.out, drewN_add]⟩
          case measure => simp [intOf]; omega
        · have HR := Lib.hid (HNO.out hpq)
          rw [show decide (p = q) = false by simp [hpq]] at hne
          clear hpq
          go_wp2
          go_quiet (fail)
          go_wp2
          go_ret
          exact ⟨ret_bool HR.out, by rw [HW2.out]; exact ((Turn.refl _ _).drewN n).drewN nq⟩
      · obtain rfl : k = l.length := by omega
        have HR := Lib.hid (show true = r by
          have h1 := HTK.out
          rw [List.take_length, HLM.out, List.take_length] at h1
          rw [HRR.out, h1]; simp)
        clear htk
        go_wp2
        go_ret
        exact ⟨ret_bool HR.out, (Turn.refl _ _).drewN n⟩
  · have t1 : ((l.length : Int) != (m.length : Int)) = true := by simp; omega
    have HR := Lib.hid (show false = r by rw [HRR.out]; symm; rw [decide_eq_false_iff_not]; rintro rfl; exact hlm rfl)
    clear hlm
    go_enter Tryd.func44, Tryd.ntmps44
    go_wp2
    go_ret
    exact ⟨ret_bool HR.out, Turn.refl _ _⟩
set_option maxRecDepth 100000 in
theorem same_eq (s t : Ptx) : sameB s t = (decide (s.ins = t.ins) && (decide (s.outs = t.outs) && (((s.fee : Int) == (t.fee : Int)) && (s.exp == t.exp)))) := by
  rw [Bool.eq_iff_iff]
  simp only [sameB, Bool.and_eq_true, decide_eq_true_eq, beq_iff_eq]
  constructor
  · rintro rfl; exact ⟨rfl, rfl, rfl, rfl⟩
  · rintro ⟨h1, h2, h3, h4⟩; cases s; cases t; simp_all; omega
set_option maxRecDepth 100000 in
set_option maxHeartbeats 4000000 in
theorem tsame_any (A1 A2 A3 A4 : Option Addr) (k1 k2 k3 k4 B : Nat) (s t : Ptx) (w : World) (h : TxAt w B A1 k1 A2 k2 s) (h' : TxAt w B A3 k3 A4 k4 t) :
    Calls Tryd.prog 18 #[txV A1 k1 A2 k2 s, txV A3 k3 A4 k4 t] w fun e w' => e = .returned (.bool (sameB s t)) ∧ Turn (fun _ => False) w w' := by
  obtain ⟨w0, hw0⟩ : ∃ w0, w0 = (w.alloc (.cells #[.slice A1 s.ins.length k1, .slice A2 s.outs.length k2, .int .u64 (s.fee : Int), .int .i64 s.exp] 26)).alloc (.cells #[.slice A3 t.ins.length k3, .slice A4 t.outs.length k4, .int .u64 (t.fee : Int), .int .i64 t.exp] 26) := ⟨_, rfl⟩
  have hT0 : Turn (fun _ => False) w w0 := by rw [hw0]; exact ((Turn.refl _ _).alloc _).alloc _
  have hg0 : w0.heap[w.heap.size]? = some (.cells #[.slice A1 s.ins.length k1, .slice A2 s.outs.length k2, .int .u64 (s.fee : Int), .int .i64 s.exp] 26 (0, 0)) := by rw [hw0]; exact heap_alloc2_old _ _ _
  have hg1 : w0.heap[w.heap.size + 1]? = some (.cells #[.slice A3 t.ins.length k3, .slice A4 t.outs.length k4, .int .u64 (t.fee : Int), .int .i64 t.exp] 26 (0, 0)) := by rw [hw0]; exact heap_alloc2_new _ _ _
  have CF := Lib.hid (fun (w' : World) (k : Turn (fun _ => False) w0 w') => And.intro (row4 (k.heap hg0 (fun h => h))).1 (row4 (k.heap hg1 (fun h => h))).1)
  obtain ⟨⟨c0, c1, c2, c3⟩, ⟨d0, d1, d2, d3⟩⟩ := CF.out w0 (Turn.refl _ _)
  have I := Lib.hid (eqFunc_any A1 A3 k1 k3 B B s.ins t.ins w0 (h.ins.turn hT0 (fun _ _ h => h)) (h'.ins.turn hT0 (fun _ _ h => h)) h.im h'.im)
  have O := Lib.hid (fun w' (k : Turn (fun _ => False) w0 w') => eqOuts_any A2 A4 k2 k4 B B s.outs t.outs w' (h.outs.turn (hT0.trans k (fun _ _ h => h)) (fun _ _ h => h)) (h'.outs.turn (hT0.trans k (fun _ _ h => h)) (fun _ _ h => h)) h.om h'.om)
  have HT0 := Lib.hid hT0
  have HE := Lib.hid (same_eq s t)
  generalize sameB s t = r at *
  generalize decide (s.ins = t.ins) = r1 at *
  generalize decide (s.outs = t.outs) = r2 at *
  unfold txV
  clear h h' hT0 hg0 hg1
  go_enter Tryd.func18, Tryd.ntmps18
  go_upto_region 1 with fail
  change Code.wp _ _ _ _ ((w.alloc (.cells #[.slice A1 s.ins.length k1, .slice A2 s.outs.length k2, .int .u64 (s.fee : Int), .int .i64 s.exp] 26)).alloc (.cells #[.slice A3 t.ins.length k3, .slice A4 t.outs.length k4, .int .u64 (t.fee : Int), .int .i64 t.exp] 26))
  rw [← hw0]
  clear hw0
  go_wp2_with fail
  refine I.out.mono ?_
  rintro e w1 ⟨rfl, t1⟩
  have HT1 := Lib.hid t1
  clear c0 c1 c2 c3 d0 d1 d2 d3
  obtain ⟨⟨c0, c1, c2, c3⟩, ⟨d0, d1, d2, d3⟩⟩ := CF.out w1 t1
  clear t1
  cases r1
  · have HR := Lib.hid (show false = r from by rw [HE.out]; simp)
    go_wp2
    go_ret
    exact ⟨ret_bool HR.out, HT0.out.trans HT1.out (fun _ _ h => h)⟩
  · go_wp2_with fail
    refine (O.out _ HT1.out).mono ?_
    rintro e w2 ⟨rfl, t2⟩
    have HT2 := Lib.hid (HT1.out.trans t2 (fun _ _ h => h))
    clear c0 c1 c2 c3 d0 d1 d2 d3 t2
    obtain ⟨⟨c0, c1, c2, c3⟩, ⟨d0, d1, d2, d3⟩⟩ := CF.out w2 HT2.out
    cases r2
    · have HR := Lib.hid (show false = r from by rw [HE.out]; simp)
      go_wp2
      go_ret
      exact ⟨ret_bool HR.out, HT0.out.trans HT2.out (fun _ _ h => h)⟩
    · generalize hb3 : ((s.fee : Int) == (t.fee : Int)) = r3 at *
      generalize hb4 : (s.exp == t.exp) = r4 at *
      have HR := Lib.hid (show (r3 && r4) = r from by rw [HE.out]; simp)
      cases r3
      · go_wp2
        go_ret
        exact ⟨ret_bool HR.out, HT0.out.trans HT2.out (fun _ _ h => h)⟩
      · go_wp2
        go_ret
        exact ⟨ret_bool (by rw [← HR.out]; simp), HT0.out.trans HT2.out (fun _ _ h => h)⟩
end Go.Proofs.YtpoddemokeppmaaDoor
