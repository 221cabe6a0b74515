/- The contract of the document's Check. -/
import Derived.Test.YteaoaabjdgdcmaaTxT
import Derived.Deep.QuietTactic
import Derived.BigQuiet
set_option linter.unusedVariables false
set_option linter.unusedSimpArgs false
namespace Go.Proofs.Yteaoaabjdgdcmaa
open Go.RowKit
attribute [local go_sem ↓] loadAt_pt
attribute [local go_sem] rowOf_drew rowOf_drewN run_ptLoad
set_option maxRecDepth 100000 in
theorem newOne (w : World) (x : Value) (t : TypeId) : ∀ (j : Nat) (u : Value), [x][j]? = some u → ∃ ad, some (⟨w.heap.size, 0, none⟩ : Addr) = some ad ∧ (w.alloc (.cells #[x] t)).cell? (ad.add j) = some u := fun j u hu => ⟨_, rfl, World.news_of_block (heap_alloc_new w (.cells #[x] t)) j u hu⟩
set_option maxRecDepth 100000 in
theorem any_take_false {g : Pin → Bool} {l : List Pin} {k : Nat} (hk : k < l.length) (h : g l[k] = true) : l.any g = true := List.any_eq_true.2 ⟨_, List.getElem_mem hk, h⟩
set_option maxRecDepth 100000 in
theorem insN_take_succ {l : List Pin} {k : Nat} (h : k < l.length) : insN (l.take (k + 1)) = insN (l.take k) ++ [l[k].n] := by unfold insN; rw [List.take_succ_eq_append_getElem h, List.map_append]; rfl
set_option maxRecDepth 100000 in
theorem outsN_take_succ {l : List Pout} {k : Nat} (h : k < l.length) : outsN (l.take (k + 1)) = outsN (l.take k) ++ [l[k].n] := by unfold outsN; rw [List.take_succ_eq_append_getElem h, List.map_append]; rfl
set_option maxRecDepth 100000 in
theorem zeroB_app (a b : List Nat) : zeroB (a ++ b) = (zeroB a || zeroB b) := by unfold zeroB; rw [List.any_append]
set_option maxRecDepth 100000 in
theorem zeroB_one (n : Nat) : zeroB [n] = ((n : Int) == 0) := by
  unfold zeroB; rw [Bool.eq_iff_iff]; simp
set_option maxRecDepth 100000 in
theorem u64s_app (a : List Nat) (n : Nat) : u64s (a ++ [n]) = u64s a ++ [.int .u64 (n : Int)] := by unfold u64s; rw [List.map_append]; rfl
set_option maxRecDepth 100000 in
theorem u64s_len (a : List Nat) : (u64s a).length = a.length := by simp [u64s]
set_option maxRecDepth 100000 in
theorem chk4 {t : Ptx} (h : withinB t = false) : chk t = 4 := by unfold chk; rw [if_pos h]
set_option maxRecDepth 100000 in
theorem chk7 {t : Ptx} (h : withinB t = true) (h2 : twiceB t.ins = true) : chk t = 7 := by unfold chk; rw [if_neg (by rw [h]; decide), if_pos h2]
set_option maxRecDepth 100000 in
theorem chk8 {t : Ptx} (h : withinB t = true) (h2 : twiceB t.ins = false) (h3 : (zeroB (insN t.ins) || zeroB (outsN t.outs)) = true) : chk t = 8 := by
  unfold chk; rw [if_neg (by rw [h]; decide), if_neg (by rw [h2]; decide), if_pos (by simpa using h3)]
set_option maxRecDepth 100000 in
theorem chk9 {t : Ptx} (h : withinB t = true) (h2 : twiceB t.ins = false) (h3 : (zeroB (insN t.ins) || zeroB (outsN t.outs)) = false) : chk t = balE (insN t.ins) (outsN t.outs ++ [t.fee]) := by
  unfold chk; rw [if_neg (by rw [h]; decide), if_neg (by rw [h2]; decide), if_neg (by simp at h3; simp [h3])]
set_option maxRecDepth 100000 in
set_option maxHeartbeats 8000000 in
theorem rcheck_any (Ai Ao : Option Addr) (ci co B : Nat) (t : Ptx) (w : World) (h : TxAt w B Ai ci Ao co t) :
    Calls Try.prog 18 #[txV Ai ci Ao co t] w fun e w' => e = .returned (.int .i64 ((chk t : Nat) : Int)) ∧ Turn (fun _ => False) w w' := by
  obtain ⟨i0, hi, hz0, hz1, hz2⟩ := info_parts info_u64
  obtain ⟨w0, hw0⟩ : ∃ w0, w0 = w.alloc (.cells #[.slice Ai t.ins.length ci, .slice Ao t.outs.length co, .int .u64 (t.fee : Int), .int .i64 t.exp] 28) := ⟨_, rfl⟩
  have hT0 : Turn (fun _ => False) w w0 := by rw [hw0]; exact (Turn.refl _ _).alloc _
  have hg0 : w0.heap[w.heap.size]? = some (.cells #[.slice Ai t.ins.length ci, .slice Ao t.outs.length co, .int .u64 (t.fee : Int), .int .i64 t.exp] 28 (0, 0)) := by rw [hw0]; exact heap_alloc_new _ _
  have HGX := Lib.hid hg0
  have CF := Lib.hid (fun (w' : World) (k : Turn (fun _ => False) w0 w') => (row4 (k.heap hg0 (fun h => h))).1)
  obtain ⟨c0, c1, c2, c3⟩ := CF.out w0 (Turn.refl _ _)
  have him := h.im
  have hom := h.om
  unfold maxLen at him hom
  have x0 := h.x0
  have x1 := h.x1
  have hfee := h.fee
  have HI := Lib.hid (h.ins.turn hT0 (fun _ _ h => h))
  have HO := Lib.hid (h.outs.turn hT0 (fun _ _ h => h))
  have HT0 := Lib.hid hT0
  have K4 := Lib.hid (@chk4 t)
  have K7 := Lib.hid (@chk7 t)
  have K8 := Lib.hid (@chk8 t)
  have K9 := Lib.hid (@chk9 t)
  have HL1 := Lib.hid (u64s_lt fun p hp => (h.ins.oks p hp).n)
  have HL2 := Lib.hid (show ∀ x ∈ outsN t.outs ++ [t.fee], x < 18446744073709551616 from fun x hx => by
    rcases List.mem_append.1 hx with hx | hx
    · simp only [outsN, List.mem_map] at hx
      obtain ⟨p, hp, rfl⟩ := hx
      exact (h.outs.oks p hp).n
    · simp at hx; omega)
  generalize chk t = zc at *
  unfold txV
  by_cases hcnt : 1 ≤ t.ins.length ∧ t.ins.length ≤ 16 ∧ 1 ≤ t.outs.length ∧ t.outs.length ≤ 16 ∧ 0 ≤ t.exp ∧ t.exp ≤ 1099511627776
  · have HW := Lib.hid (withinB_yes1 hcnt)
    obtain ⟨h1, h2, h3, h4, h5, h6⟩ := hcnt
    have e1 : ¬ (t.ins.length : Int) < 1 := by omega
    have e2 : ¬ (16 : Int) < (t.ins.length : Int) := by omega
    have e3 : ¬ (t.outs.length : Int) < 1 := by omega
    have e4 : ¬ (16 : Int) < (t.outs.length : Int) := by omega
    have e5 : ¬ t.exp < 0 := by omega
    have e6 : ¬ (1099511627776 : Int) < t.exp := by omega
    clear h hT0 hg0
    go_enter Try.func18, Try.ntmps18
    go_upto_region 1 with fail
    change Code.wp _ _ _ _ (w.alloc (.cells #[.slice Ai t.ins.length ci, .slice Ao t.outs.length co, .int .u64 (t.fee : Int), .int .i64 t.exp] 28))
    rw [← hw0]
    clear hw0
    go_wp2
    go_loop [3] (fun i => ∃ k : Nat, k ≤ t.ins.length ∧ i = .int .i64 k ∧ (t.ins.take k).any outB = false) (fun i => t.ins.length - (intOf i).toNat)
    case atStart => exact ⟨0, Nat.zero_le _, rfl, rfl⟩
    case round =>
      obtain ⟨k, hk, rfl, ha⟩ := hrel
      by_cases hlt : k < t.ins.length
      · obtain ⟨hok, b, o, S, cp, rfl, hbb, hs, hr⟩ := HI.out k t.ins[k] (List.getElem?_eq_getElem hlt)
        obtain ⟨d0, d1, d2⟩ := Pin.rc hr hok.d
        have HNX := Lib.hid (fun h1 => any_take_succ outB t.ins k hlt ha h1)
        have HHIT := Lib.hid (fun h1 => any_take_false (g := outB) hlt h1)
        obtain ⟨p, hp⟩ : ∃ p, p = t.ins[k] := ⟨_, rfl⟩
        rw [← hp] at d0 d1 d2 hok HNX HHIT
        have hpm := hok.m
        unfold maxLen at hpm
        have y0 := hok.x0
        have y1 := hok.x1
        cases hob : outB p
        · obtain ⟨f1, f2, f3⟩ := outB_false hob
          have HN := Lib.hid (HNX.out hob)
          have g1 : ¬ (64 : Int) < (p.b.length : Int) := by omega
          have g2 : ¬ p.x < 0 := by omega
          have g3 : ¬ (15 : Int) < p.x := by omega
          clear hr hok hp hs ha hob HNX HHIT
          go_wp2
          go_round
          case rel => exact ⟨k + 1, by omega, by go_num, HN.out⟩
          case measure => simp [intOf]; omega
        · have HWF := Lib.hid (K4.out (by rw [HW.out, HHIT.out hob]; rfl))
          have HOB := Lib.hid (show ¬ (p.b.length ≤ 64 ∧ 0 ≤ p.x ∧ p.x ≤ 15) from fun h => by rw [outB_no (by omega)] at hob; cases hob)
          generalize p.b.length = bl at *
          clear hr hok hp hs ha hob HNX HHIT
          go_wp2
          all_goals
            first
              | (go_ret; exact ⟨ret_int (by rw [HWF.out]; rfl), HT0.out⟩)
              | (exfalso; have := HOB.out; omega)
      · obtain rfl : k = t.ins.length := by omega
        rw [List.take_length] at ha
        have hw1 : withinB t = true := by rw [HW.out, ha]; rfl
        have HW1 := Lib.hid hw1
        clear ha hw1 HW
        go_wp2
        go_loopw [4, 6, 7] (fun v z i wr => ∃ k : Nat, k ≤ t.ins.length ∧ i = .int .i64 k ∧ z = .bool (zeroB (insN (t.ins.take k))) ∧ (List.range k).any (twAt t.ins) = false ∧ wr.ownsRow w0.heap.size 26 1 v k (u64s (insN (t.ins.take k))) ∧ Turn (fun _ => False) w0 wr) (fun _ _ i _ => t.ins.length - (intOf i).toNat)
        case atStart => exact ⟨0, Nat.zero_le _, rfl, rfl, rfl, World.ownsRow_nil _ _ _ _, Turn.refl _ _⟩
        case round =>
          clear c0 c1 c2 c3
          obtain ⟨k, hk, rfl, rfl, htw, hown, ht⟩ := hrel
          obtain ⟨c0, c1, c2, c3⟩ := CF.out _ ht
          have HTR := Lib.hid ht
          have HOW := Lib.hid hown
          have HTW := Lib.hid htw
          clear hown htw
          by_cases hlt : k < t.ins.length
          · obtain ⟨hok, b, o, S, cp, rfl, hbb, hs, hr⟩ := (HI.out.turn ht (fun _ _ h => h)) k t.ins[k] (List.getElem?_eq_getElem hlt)
            have hrk := Pin.ptAt hr hok.d
            have HRK := Lib.hid hr
            have HTA := Lib.hid (twAt_at hlt)
            have HH7 := Lib.hid (fun h1 => K7.out HW1.out (twiceB_hit hlt h1))
            have HNX := Lib.hid (fun h1 => range_any_succ (twAt t.ins) k HTW.out h1)
            have HINS := Lib.hid (insN_take_succ hlt)
            obtain ⟨q, hq⟩ : ∃ q, q = t.ins[k] := ⟨_, rfl⟩
            rw [← hq] at hrk hok HTA HRK HINS
            have HQK := Lib.hid hok
            have HQL := Lib.hid (show t.ins[k]? = some q by rw [hq]; exact List.getElem?_eq_getElem hlt)
            obtain ⟨PK, hPK⟩ : ∃ PK, PK = (recV q.d (.int .i64 q.x)).toArray := ⟨_, rfl⟩
            rw [← hPK] at hrk
            have HPK := Lib.hid hPK
            have HIR := Lib.hid (HI.out.turn ht (fun _ _ h => h))
            clear hr hok hs hq hPK ht
            go_wp2
            go_loopw [8] (fun i wr2 => ∃ (j m : Nat), j ≤ k ∧ i = .int .i64 j ∧ (t.ins.take j).any (fun p => samePt p q) = false ∧ wr2 = wr.drewN m) (fun i _ => k - (intOf i).toNat)
            case atStart => exact ⟨0, 0, Nat.zero_le _, rfl, rfl, rfl⟩
            case round =>
              obtain ⟨j, m, hj, rfl, haj, rfl⟩ := hrel
              by_cases hjk : j < k
              · have hjl : j < t.ins.length := by omega
                obtain ⟨hokj, b', o', S', cp', e', hbb', hs', hr'⟩ := HIR.out j t.ins[j] (List.getElem?_eq_getElem hjl)
                injection e' with e'
                injection e' with e1' e2' e3'
                subst e1' e2'
                have hrj := Pin.ptAt hr' hokj.d
                have HNJ := Lib.hid (fun h1 => any_take_succ (fun p => samePt p q) t.ins j hjl haj h1)
                have HHJ := Lib.hid (fun h1 : samePt t.ins[j] q = true => show twAt t.ins k = true from by
                  rw [HTA.out]
                  exact List.any_eq_true.2 ⟨t.ins[j], by rw [List.mem_take_iff_getElem]; exact ⟨j, by omega, rfl⟩, h1⟩)
                obtain ⟨p, hp⟩ : ∃ p, p = t.ins[j] := ⟨_, rfl⟩
                rw [← hp] at hrj hokj HNJ HHJ
                have he := eql_point p q hokj.d HQK.out.d
                obtain ⟨PJ, hPJ⟩ : ∃ PJ, PJ = (recV p.d (.int .i64 p.x)).toArray := ⟨_, rfl⟩
                rw [← hPJ] at hrj he
                rw [← HPK.out] at he
                have c0' : (wr.drewN m).cell? ⟨w.heap.size, 0, none⟩ = some (.slice (some ⟨b, o, none⟩) t.ins.length ci) := c0
                clear hr' hs' hokj hp hPJ haj
                cases hsp : samePt p q
                · rw [hsp] at he
                  have HN := Lib.hid (HNJ.out hsp)
                  clear hsp HNJ HHJ
                  go_wp2
                  go_quiet (fail)
                  go_wp2
                  go_roundw
                  case rel => exact ⟨j + 1, m + nq, by omega, by go_num, HN.out, by first | rfl | rw [drewN_add]⟩
                  case measure => simp [intOf]; omega
                · rw [hsp] at he
                  have HN := Lib.hid (HH7.out (HHJ.out hsp))
                  clear hsp HNJ HHJ
                  go_wp2
                  go_quiet (fail)
                  go_wp2
                  go_ret
                  exact ⟨ret_int (by rw [HN.out]; rfl), HT0.out.trans ((HTR.out.drewN m).drewN nq) (fun _ _ h => h)⟩
              · obtain rfl : j = k := by omega
                have HTF := Lib.hid (HNX.out (by rw [HTA.out]; exact haj))
                have ht1 : Turn (fun _ => False) wr (wr.drewN m) := (Turn.refl _ _).drewN m
                have HOW1 := Lib.hid (ht1.own HOW.out (fun _ _ h => h))
                have HT1 := Lib.hid (HTR.out.trans ht1 (fun _ _ h => h))
                have hrc := Pin.rc (ht1.range HRK.out (fun h => h)) HQK.out.d
                have hqn := HQK.out.n
                clear c0 c1 c2 c3 hrk haj ht1
                obtain ⟨d32, d33, d34⟩ := hrc
                obtain ⟨c0, c1, c2, c3⟩ := CF.out _ HT1.out
                have HZ := Lib.hid (show zeroB (insN (t.ins.take (j + 1))) = (zeroB (insN (t.ins.take j)) || ((q.n : Int) == 0)) by rw [HINS.out, zeroB_app, zeroB_one])
                have HU := Lib.hid (show u64s (insN (t.ins.take (j + 1))) = u64s (insN (t.ins.take j)) ++ [.int .u64 (q.n : Int)] by rw [HINS.out, u64s_app])
                have HRK1 := Lib.hid (show (wr.drewN m).rangeAt b (o + j * 35) (q.cells S cp) from HRK.out)
                generalize wr.drewN m = w1 at *
                generalize zeroB (insN (t.ins.take j)) = zb at *
                go_wp2_with (at_builtin; refine stop ?_)
                unfold Stop
                refine wpList_append_any (o := ⟨some 114, _, _, _, _, _⟩) rfl _ _ 60 rfl w0.heap.size 26 i0 (.int .u64 0) 8 Try.underlying60 hi hz0 hz1 hz2 rfl _ j _ rfl (HOW1.out.alloc _) (some ⟨w1.heap.size, 0, none⟩) 1 1 [.int .u64 (q.n : Int)] rfl (fun h => by cases h) rfl (newOne w1 _ _) (by intro u hu; simp at hu; rw [hu]; rfl) (by unfold maxLen; omega) (by omega) (by have := HT1.out.size; simp; omega) ?_
                intro v3 w3 g1 g2
                have HO3 := Lib.hid g1
                have ht3 : Turn (fun _ => False) w0 w3 := (HT1.out.alloc _).grown g2 (fun i hi e => by have := (HOW1.out.lt i e.symm).1; omega)
                obtain ⟨-, b2, o2, S2, cp2, e2', -, -, hr2⟩ := (HI.out.turn ht3 (fun _ _ h => h)) j q HQL.out
                injection e2' with e2'
                injection e2' with e21 e22 e23
                subst e21 e22
                obtain ⟨-, f33, -⟩ := Pin.rc hr2 HQK.out.d
                have HT3 := Lib.hid ht3
                clear c0 c1 c2 c3 d32 d33 d34 g1 g2 hr2
                obtain ⟨c0, c1, c2, c3⟩ := CF.out _ ht3
                clear ht3
                cases zb
                · go_wp2
                  go_roundw
                  case rel => exact ⟨j + 1, by omega, by go_num, by rw [HZ.out]; rfl, HTF.out, by rw [HU.out]; exact HO3.out, HT3.out⟩
                  case measure => simp [intOf]; omega
                · go_wp2
                  go_roundw
                  case rel => exact ⟨j + 1, by omega, by go_num, by rw [HZ.out]; rfl, HTF.out, by rw [HU.out]; exact HO3.out, HT3.out⟩
                  case measure => simp [intOf]; omega
          · obtain rfl : k = t.ins.length := by omega
            have HOW2 := Lib.hid (show wr.ownsRow w0.heap.size 26 1 u4 t.ins.length (u64s (insN t.ins)) by have := HOW.out; rwa [List.take_length] at this)
            obtain ⟨A4, k4, rfl, hs4, -, hk4, ha4⟩ := own_sl HOW2.out
            have HS4 := Lib.hid hs4
            have HTWF := Lib.hid (show twiceB t.ins = false by rw [twiceB_eq]; exact HTW.out)
            rw [List.take_length]
            generalize hzb : zeroB (insN t.ins) = zb at *
            clear HOW HOW2 HTW hs4 ht hk4 ha4
            clear c0 c1 c2 c3
            obtain ⟨c0, c1, c2, c3⟩ := CF.out _ HTR.out
            go_wp2
            generalize wr = wk at *
            go_loopw [5, 6, 9] (fun v z i wr => ∃ k : Nat, k ≤ t.outs.length ∧ i = .int .i64 k ∧ z = .bool (zb || zeroB (outsN (t.outs.take k))) ∧ wr.ownsRow wk.heap.size 26 1 v k (u64s (outsN (t.outs.take k))) ∧ Turn (fun _ => False) wk wr) (fun _ _ i _ => t.outs.length - (intOf i).toNat)
            case atStart => exact ⟨0, Nat.zero_le _, rfl, by cases zb <;> rfl, World.ownsRow_nil _ _ _ _, Turn.refl _ _⟩
            case round =>
              clear c0 c1 c2 c3
              obtain ⟨k, hk, rfl, rfl, hown, ht5⟩ := hrel
              have HT5 := Lib.hid (HTR.out.trans ht5 (fun _ _ h => h))
              have HV5 := Lib.hid ht5
              have HO5 := Lib.hid hown
              obtain ⟨c0, c1, c2, c3⟩ := CF.out _ HT5.out
              clear hown ht5
              by_cases hlt : k < t.outs.length
              · obtain ⟨hok, b, o, rfl, hbb, hr⟩ := (HO.out.turn HT5.out (fun _ _ h => h)) k t.outs[k] (List.getElem?_eq_getElem hlt)
                have d33 := Pout.rc hr hok.d
                have HINS := Lib.hid (outsN_take_succ hlt)
                obtain ⟨q, hq⟩ : ∃ q, q = t.outs[k] := ⟨_, rfl⟩
                rw [← hq] at d33 hok HINS
                have HQK := Lib.hid hok
                have HQL := Lib.hid (show t.outs[k]? = some q by rw [hq]; exact List.getElem?_eq_getElem hlt)
                have hqn := hok.n
                have HZ := Lib.hid (show (zb || zeroB (outsN (t.outs.take (k + 1)))) = ((zb || zeroB (outsN (t.outs.take k))) || ((q.n : Int) == 0)) by rw [HINS.out, zeroB_app, zeroB_one, Bool.or_assoc])
                have HU := Lib.hid (show u64s (outsN (t.outs.take (k + 1))) = u64s (outsN (t.outs.take k)) ++ [.int .u64 (q.n : Int)] by rw [HINS.out, u64s_app])
                generalize (zb || zeroB (outsN (t.outs.take k))) = z5 at *
                clear hr hok hq
                go_wp2_with (at_builtin; refine stop ?_)
                unfold Stop
                refine wpList_append_any (o := ⟨some 140, _, _, _, _, _⟩) rfl _ _ 60 rfl wk.heap.size 26 i0 (.int .u64 0) 8 Try.underlying60 hi hz0 hz1 hz2 rfl _ k _ rfl (HO5.out.alloc _) (some ⟨wr.heap.size, 0, none⟩) 1 1 [.int .u64 (q.n : Int)] rfl (fun h => by cases h) rfl (newOne wr _ _) (by intro u hu; simp at hu; rw [hu]; rfl) (by unfold maxLen; omega) (by omega) (by have := HV5.out.size; simp; omega) ?_
                intro v3 w3 g1 g2
                have HO3 := Lib.hid g1
                have hv3 : Turn (fun _ => False) wk w3 := (HV5.out.alloc _).grown g2 (fun i hi e => by have := (HO5.out.lt i e.symm).1; omega)
                have ht3 := HTR.out.trans hv3 (S := fun _ => False) (fun _ _ h => h)
                obtain ⟨-, b2, o2, e2', -, hr2⟩ := (HO.out.turn ht3 (fun _ _ h => h)) k q HQL.out
                injection e2' with e2'
                injection e2' with e21 e22 e23
                subst e21 e22
                have f33 := Pout.rc hr2 HQK.out.d
                have HV3 := Lib.hid hv3
                clear c0 c1 c2 c3 d33 g1 g2 hr2
                obtain ⟨c0, c1, c2, c3⟩ := CF.out _ ht3
                clear ht3 hv3
                cases z5
                · go_wp2
                  go_roundw
                  case rel => exact ⟨k + 1, by omega, by go_num, by rw [HZ.out]; rfl, by rw [HU.out]; exact HO3.out, HV3.out⟩
                  case measure => simp [intOf]; omega
                · go_wp2
                  go_roundw
                  case rel => exact ⟨k + 1, by omega, by go_num, by rw [HZ.out]; rfl, by rw [HU.out]; exact HO3.out, HV3.out⟩
                  case measure => simp [intOf]; omega
              · obtain rfl : k = t.outs.length := by omega
                rw [List.take_length] at *
                have HO6 := Lib.hid (show wr.ownsRow wk.heap.size 26 1 u5 t.outs.length (u64s (outsN t.outs)) from HO5.out)
                have HS5 := Lib.hid (HV5.out.sl HS4.out (fun _ _ h => h))
                generalize hz5 : (zb || zeroB (outsN t.outs)) = z5 at *
                cases z5
                · have HCK := Lib.hid (K9.out HW1.out HTWF.out (by first | rfl | rw [hzb, hz5]))
                  have HN1 := Lib.hid (insN_len t.ins)
                  have HN2 := Lib.hid (outsN_len t.outs)
                  have RC1 := Lib.hid (fun w' (k : Turn (fun _ => False) wr w') => rall_any A4 k4 wk.heap.size (insN t.ins) w' (k.sl HS5.out (fun _ _ h => h)) (by rw [HN1.out]; unfold maxLen; omega) HL1.out)
                  rw [HN1.out] at RC1
                  have hb : balE (insN t.ins) (outsN t.outs ++ [t.fee]) = if (allV 0 (insN t.ins)).2 ≠ 0 then (allV 0 (insN t.ins)).2 else if (allV 0 (outsN t.outs ++ [t.fee])).2 ≠ 0 then (allV 0 (outsN t.outs ++ [t.fee])).2 else if (allV 0 (insN t.ins)).1 ≠ (allV 0 (outsN t.outs ++ [t.fee])).1 then 9 else 0 := rfl
                  have HRC2 := Lib.hid (fun (A' : Option Addr) (c' B' : Nat) (w' : World) (hs : Sl w' B' A' (u64s (outsN t.outs ++ [t.fee]))) => rall_any A' c' B' (outsN t.outs ++ [t.fee]) w' hs (by rw [List.length_append, HN2.out]; unfold maxLen; simp; omega) HL2.out)
                  have hl2 : (outsN t.outs ++ [t.fee]).length = t.outs.length + 1 := by rw [List.length_append, HN2.out]; rfl
                  rw [hl2] at HRC2
                  rw [← HCK.out] at hb
                  generalize (allV 0 (insN t.ins)).1 = a1 at *
                  generalize (allV 0 (insN t.ins)).2 = a2 at *
                  generalize (allV 0 (outsN t.outs ++ [t.fee])).1 = b1 at *
                  generalize (allV 0 (outsN t.outs ++ [t.fee])).2 = b2 at *
                  have HBE := Lib.hid hb
                  clear hb hl2 HCK hzb hz5
                  go_wp2_with fail
                  refine (RC1.out _ (Turn.refl _ _)).mono ?_
                  rintro r w6 ⟨rfl, rfl⟩
                  by_cases ha2 : a2 ≠ 0
                  · have t1 : ((a2 : Int) != 0) = true := by simp; omega
                    have HZ := Lib.hid (show ((a2 : Nat) : Int) = zc by rw [HBE.out, if_pos ha2])
                    clear ha2
                    go_wp2
                    go_ret
                    exact ⟨ret_int HZ.out, HT0.out.trans HT5.out (fun _ _ h => h)⟩
                  · have t1 : ((a2 : Int) != 0) = false := by simp; omega
                    have HA2 := Lib.hid ha2
                    clear ha2
                    go_wp2_with (at_builtin; refine stop ?_)
                    unfold Stop
                    refine wpList_append_any (o := ⟨some 165, _, _, _, _, _⟩) rfl _ _ 60 rfl wk.heap.size 26 i0 (.int .u64 0) 8 Try.underlying60 hi hz0 hz1 hz2 rfl _ t.outs.length _ rfl (HO6.out.alloc _) (some ⟨wr.heap.size, 0, none⟩) 1 1 [.int .u64 (t.fee : Int)] rfl (fun h => by cases h) rfl (newOne wr _ _) (by intro u hu; simp at hu; rw [hu]; rfl) (by unfold maxLen; omega) (by omega) (by have := HV5.out.size; simp; omega) ?_
                    intro v7 w7 g1 g2
                    have hv7 : Turn (fun _ => False) wk w7 := (HV5.out.alloc _).grown g2 (fun i hi e => by have := (HO6.out.lt i e.symm).1; omega)
                    have HV7 := Lib.hid ((HT0.out.trans HTR.out (fun _ _ h => h)).trans hv7 (S := fun _ => False) (fun _ _ h => h))
                    obtain ⟨A7, k7, rfl, hs7, -⟩ := own_sl g1
                    have RC2 := Lib.hid (HRC2.out A7 k7 w7.heap.size w7 (by rw [u64s_app]; exact hs7))
                    clear hv7 g1 g2 hs7
                    go_wp2_with fail
                    refine RC2.out.mono ?_
                    rintro r w8 ⟨rfl, rfl⟩
                    by_cases hb2 : b2 ≠ 0
                    · have t2 : ((b2 : Int) != 0) = true := by simp; omega
                      have HZ := Lib.hid (show ((b2 : Nat) : Int) = zc by rw [HBE.out, if_neg HA2.out, if_pos hb2])
                      clear hb2
                      go_wp2
                      go_ret
                      exact ⟨ret_int HZ.out, HV7.out⟩
                    · have t2 : ((b2 : Int) != 0) = false := by simp; omega
                      by_cases hab : a1 ≠ b1
                      · have t3 : ((a1 : Int) != (b1 : Int)) = true := by simp; omega
                        have HZ := Lib.hid (show (9 : Int) = zc by rw [HBE.out, if_neg HA2.out, if_neg hb2, if_pos hab]; rfl)
                        clear hb2 hab
                        go_wp2
                        go_ret
                        exact ⟨ret_int HZ.out, HV7.out⟩
                      · have t3 : ((a1 : Int) != (b1 : Int)) = false := by simp; omega
                        have HZ := Lib.hid (show (0 : Int) = zc by rw [HBE.out, if_neg HA2.out, if_neg hb2, if_neg hab]; rfl)
                        clear hb2 hab
                        go_wp2
                        go_ret
                        exact ⟨ret_int HZ.out, HV7.out⟩
                · have HCK := Lib.hid (K8.out HW1.out HTWF.out (by first | rfl | rw [hzb, hz5]))
                  clear hzb hz5
                  go_wp2
                  go_ret
                  exact ⟨ret_int (by rw [HCK.out]; rfl), HT0.out.trans HT5.out (fun _ _ h => h)⟩
  · have HWF := Lib.hid (K4.out (withinB_no1 hcnt))
    have HC := Lib.hid hcnt
    generalize t.ins.length = n at *
    generalize t.outs.length = m at *
    generalize t.exp = x at *
    generalize t.fee = f at *
    clear h hcnt hT0 hg0
    go_enter Try.func18, Try.ntmps18
    go_upto_region 1 with fail
    change Code.wp _ _ _ _ (w.alloc (.cells #[.slice Ai n ci, .slice Ao m co, .int .u64 (f : Int), .int .i64 x] 28))
    rw [← hw0]
    clear hw0
    go_wp2
    all_goals
      first
        | (go_ret; exact ⟨ret_int (by rw [HWF.out]; rfl), HT0.out⟩)
        | (exfalso; have := HC.out; omega)
end Go.Proofs.Yteaoaabjdgdcmaa
