/- The contracts of the document's Great and Put. -/
import Derived.Test.YtoclfohgchlpnaaDoorTxD3
import Derived.IntWalk
set_option linter.unusedVariables false
set_option linter.unusedSimpArgs false
namespace Go.Proofs.YtoclfohgchlpnaaDoor
open Go.RowKit
set_option maxRecDepth 100000 in
theorem beN_cons (q n : Nat) : beN (q + 1) n = BitVec.ofNat 8 (n / 256 ^ q) :: beN q n := rfl
set_option maxRecDepth 100000 in
theorem byte_int (n q : Nat) : IntKind.u8.wrap ((n : Int) / 2 ^ (8 * q)) = ((BitVec.ofNat 8 (n / 256 ^ q)).toNat : Int) := by
  rw [IntKind.wrap_u8, BitVec.toNat_ofNat, show (2 : Int) ^ (8 * q) = ((256 ^ q : Nat) : Int) by rw [Int.natCast_pow, Int.pow_mul]; rfl]
  omega
set_option maxRecDepth 100000 in
set_option maxHeartbeats 1000000 in
theorem rnum_any (n : Nat) (w : World) (hn : n < 18446744073709551616) :
    Calls Tryd.prog 47 #[.int .u64 (n : Int)] w fun e w' => ∃ v, e = .returned v ∧ w'.ownsRow w.heap.size 5 1 v (numB n).length ((numB n).map bv) ∧ Turn (fun _ => False) w w' := by
  obtain ⟨i0, hi, hz0, hz1, hz2⟩ := info_parts info_u8
  have hk8 := klen_eight hn
  have HK8 := Lib.hid hk8
  go_enter Tryd.func47, Tryd.ntmps47
  go_wp2
  go_loop [3, 4] (fun k v => ∃ j q : Nat, k = .int .i64 j ∧ v = .int .u64 q ∧ j + klen q = klen n ∧ q < 18446744073709551616) (fun _ v => (intOf v).toNat)
  case atStart => exact ⟨0, n, rfl, rfl, by omega, hn⟩
  case round =>
    obtain ⟨j, q, rfl, rfl, hj, hq⟩ := hrel
    by_cases h0 : q = 0
    · subst h0
      rw [klen_zero] at hj
      obtain rfl : j = klen n := by omega
      obtain ⟨k, hkk⟩ : ∃ k, k = klen n := ⟨_, rfl⟩
      rw [← hkk] at hk8 ⊢
      have HN := Lib.hid (show numB n = BitVec.ofNat 8 k :: beN k n by rw [hkk]; rfl)
      clear hkk hj hq HK8
      have ho := own_new w w.heap.size 5 [bv (BitVec.ofNat 8 k)] 1 rfl (Nat.le_refl _) (by unfold maxLen; omega)
      have hkb : bv (BitVec.ofNat 8 k) = Value.int IntKind.u8 (k : Int) := by unfold bv; rw [BitVec.toNat_ofNat, Nat.mod_eq_of_lt (by omega)]
      rw [hkb] at ho
      have HO := Lib.hid ho
      have HT := Lib.hid ((Turn.refl (fun _ => False) w).alloc (.cells #[Value.int IntKind.u8 (k : Int)] 5))
      have HKB := Lib.hid hkb
      clear ho hkb
      go_wp2
      go_loopw [5, 6] (fun u i wr => ∃ (m : Nat) (z : Int) (W : List B8), i = .int .i64 z ∧ z ≤ (m : Int) - 1 ∧ (m : Int) - 1 ≤ z ∧ m ≤ k ∧ W ++ beN m n = numB n ∧ wr.ownsRow w.heap.size 5 1 u W.length (W.map bv) ∧ Turn (fun _ => False) w wr) (fun _ i _ => (intOf i + 1).toNat)
      case atStart => exact ⟨k, _, [BitVec.ofNat 8 k], rfl, by omega, by omega, Nat.le_refl _, by rw [HN.out]; rfl, by simp only [List.map_cons, List.map_nil, HKB.out]; exact HO.out, HT.out⟩
      case round =>
        clear HO HT
        obtain ⟨m, z, W, rfl, hz1', hz2', hmk, hW, hown, ht⟩ := hrel
        have hWl : W.length + m = 1 + k := by
          have := congrArg List.length hW
          rw [HN.out] at this
          simp [beN_len] at this; omega
        have HW := Lib.hid hW
        have HO := Lib.hid hown
        have HT := Lib.hid ht
        clear hW hown ht
        by_cases h0 : m = 0
        · subst h0
          obtain rfl : z = -1 := by omega
          have hW := HW.out
          rw [beN, List.append_nil] at hW
          subst hW
          go_wp2
          go_ret
          exact ⟨_, rfl, HO.out, HT.out⟩
        · obtain ⟨q, rfl⟩ : ∃ q, m = q + 1 := ⟨m - 1, by omega⟩
          obtain rfl : z = (q : Int) := by omega
          have hq8 : (8 * (q : Int)).toNat = 8 * q := by omega
          have hwr : IntKind.i64.wrap (8 * (q : Int)) = 8 * (q : Int) := IntWalk.i64_in _ (by omega)
          obtain ⟨y, hyy⟩ : ∃ y, y = BitVec.ofNat 8 (n / 256 ^ q) := ⟨_, rfl⟩
          have hy : IntKind.u8.wrap ((n : Int) / 2 ^ (8 * q)) = (y.toNat : Int) := by rw [hyy]; exact byte_int n q
          have HY := Lib.hid hyy
          clear hyy
          go_upto_region 10 with fail
          go_step
          iterate 21 go_step
          refine wpList_append_any_at (o := ⟨some 30, _, _, _, _, _⟩) rfl _ _ 52 rfl w.heap.size 5 i0 (.int .u8 0) 1 Tryd.underlying52 hi hz0 hz1 hz2 rfl u5 W.length _ rfl (HO.out.alloc _) (some ⟨wr.heap.size, 0, none⟩) 1 1 (([y] : List B8).map bv) rfl (fun h => by cases h) rfl ?_ (bv_one [y]) ?_ ?_ ?_ ?_
          · intro j u hu
            exact ⟨_, rfl, World.news_of_block (heap_alloc_new wr (.cells #[.int .u8 (y.toNat : Int)] 5)) j u hu⟩
          · unfold maxLen; omega
          · omega
          · have := HT.out.size; simp; omega
          intro v1 w1 own1 gr1 at1
          have HO1 := Lib.hid own1
          have HT1 := Lib.hid ((HT.out.alloc (.cells #[.int .u8 (y.toNat : Int)] 5)).grown gr1 (fun i hi e => by have := (HO.out.lt i e.symm).1; omega))
          clear own1 gr1 at1
          go_wp2
          go_roundw
          case rel => exact ⟨q, _, W ++ [y], rfl, by omega, by omega, by omega, by rw [← HW.out, HY.out, beN_cons]; simp, by rw [List.length_append, List.map_append]; exact HO1.out, HT1.out⟩
          case measure => simp [intOf]
    · have hd : klen q = klen (q / 256) + 1 := klen_pos h0
      have hp : (0 : Int) < (q : Int) := by omega
      have hj8 : j ≤ 8 := by omega
      have HD := Lib.hid (show (j + 1) + klen (q / 256) = klen n by omega)
      clear hd hj
      go_wp2
      go_round
      case rel => exact ⟨j + 1, q / 256, by go_num, by go_num, HD.out, by omega⟩
      case measure => simp [intOf]; omega
def greB (p : Pin) : Bool := decide (100 < p.b.length)
def greatB (t : Ptx) : Bool := decide (20 < t.ins.length ∨ 20 < t.outs.length) || t.ins.any greB
def greatZ (t : Ptx) : Int := if greatB t = true then 1 else 0
set_option maxRecDepth 100000 in
theorem great_yes {t : Ptx} (h : greatB t = true) : greatZ t = 1 := by unfold greatZ; rw [if_pos h]
set_option maxRecDepth 100000 in
theorem great_no {t : Ptx} (h : greatB t = false) : greatZ t = 0 := by unfold greatZ; rw [if_neg (by rw [h]; decide)]
set_option maxRecDepth 100000 in
theorem great_any (Ai Ao : Option Addr) (ci co B : Nat) (t : Ptx) (w : World) (h : TxAt w B Ai ci Ao co t) :
    Calls Tryd.prog 10 #[txV Ai ci Ao co t] w fun e w' => e = .returned (.int .i64 (greatZ t)) ∧ Turn (fun _ => False) w w' := by
  obtain ⟨w0, hw0⟩ : ∃ w0, w0 = w.alloc (.cells #[.slice Ai t.ins.length ci, .slice Ao t.outs.length co, .int .u64 (t.fee : Int), .int .i64 t.exp] 35) := ⟨_, rfl⟩
  have hT0 : Turn (fun _ => False) w w0 := by rw [hw0]; exact (Turn.refl _ _).alloc _
  have hg0 : w0.heap[w.heap.size]? = some (.cells #[.slice Ai t.ins.length ci, .slice Ao t.outs.length co, .int .u64 (t.fee : Int), .int .i64 t.exp] 35 (0, 0)) := by rw [hw0]; exact heap_alloc_new _ _
  obtain ⟨⟨c0, c1, c2, c3⟩, -⟩ := row4 hg0
  have him := h.im
  have hom := h.om
  unfold maxLen at him hom
  have HI := Lib.hid (h.ins.turn hT0 (fun _ _ h => h))
  have HT0 := Lib.hid hT0
  have GY := Lib.hid (fun hb : greatB t = true => great_yes hb)
  have GN := Lib.hid (fun hb : greatB t = false => great_no hb)
  generalize greatZ t = gz at *
  unfold txV
  clear h hT0 hg0
  by_cases hbig : 20 < t.ins.length ∨ 20 < t.outs.length
  · have HB := Lib.hid hbig
    have HR := Lib.hid (GY.out (by unfold greatB; rw [decide_eq_true hbig]; rfl))
    clear GY GN HI
    generalize t.ins.length = n at *
    generalize t.outs.length = m at *
    clear hbig
    go_enter Tryd.func10, Tryd.ntmps10
    go_upto_region 1 with fail
    change Code.wp _ _ _ _ (w.alloc (.cells #[.slice Ai n ci, .slice Ao m co, .int .u64 (t.fee : Int), .int .i64 t.exp] 35))
    rw [← hw0]
    clear hw0
    go_wp2
    all_goals
      first
        | (go_ret; exact ⟨ret_int HR.out.symm, HT0.out⟩)
        | (exfalso; have := HB.out; omega)
  · have e1 : ¬ (20 : Int) < (t.ins.length : Int) := by omega
    have e2 : ¬ (20 : Int) < (t.outs.length : Int) := by omega
    have HG := Lib.hid (show greatB t = t.ins.any greB by unfold greatB; rw [decide_eq_false hbig]; rfl)
    clear hbig
    go_enter Tryd.func10, Tryd.ntmps10
    go_upto_region 1 with fail
    change Code.wp _ _ _ _ (w.alloc (.cells #[.slice Ai t.ins.length ci, .slice Ao t.outs.length co, .int .u64 (t.fee : Int), .int .i64 t.exp] 35))
    rw [← hw0]
    clear hw0
    go_wp2
    go_loop [3] (fun i => ∃ k : Nat, k ≤ t.ins.length ∧ i = .int .i64 k ∧ (t.ins.take k).any greB = false) (fun i => t.ins.length - (intOf i).toNat)
    case atStart => exact ⟨0, Nat.zero_le _, rfl, rfl⟩
    case round =>
      obtain ⟨k, hk, rfl, ha⟩ := hrel
      by_cases hlt : k < t.ins.length
      · obtain ⟨hok, b, o, S, cp, rfl, hbb, hs, hr⟩ := HI.out k t.ins[k] (List.getElem?_eq_getElem hlt)
        obtain ⟨d0, d1, d2⟩ := Pin.rc hr hok.d
        have HNX := Lib.hid (fun h1 => any_take_succ greB t.ins k hlt ha h1)
        have HHIT := Lib.hid (fun h1 => any_take_false (g := greB) hlt h1)
        obtain ⟨p, hp⟩ : ∃ p, p = t.ins[k] := ⟨_, rfl⟩
        rw [← hp] at d0 d1 d2 hok HNX HHIT
        have hpm := hok.m
        unfold maxLen at hpm
        by_cases h100 : 100 < p.b.length
        · have HR := Lib.hid (GY.out (by rw [HG.out]; exact HHIT.out (decide_eq_true h100)))
          generalize p.b.length = bl at *
          clear hr hok hp hs ha HNX HHIT
          go_wp2
          go_ret
          exact ⟨ret_int HR.out.symm, HT0.out⟩
        · have HN := Lib.hid (HNX.out (decide_eq_false h100))
          generalize p.b.length = bl at *
          have g1 : ¬ (100 : Int) < (bl : Int) := by omega
          clear hr hok hp hs ha HNX HHIT
          go_wp2
          go_round
          case rel => exact ⟨k + 1, by omega, by go_num, HN.out⟩
          case measure => simp [intOf]; omega
      · obtain rfl : k = t.ins.length := by omega
        rw [List.take_length] at ha
        have HR := Lib.hid (GN.out (by rw [HG.out]; exact ha))
        clear ha
        go_wp2
        go_ret
        exact ⟨ret_int HR.out.symm, HT0.out⟩
/-- A block that an appending row doesn't turn. -/
def RowFree (w : World) (v : Value) (g : Nat) : Prop := v.ownBlock ≠ some g ∧ g < w.heap.size
set_option maxRecDepth 100000 in
theorem RowFree.turn {w w' : World} {v : Value} {g : Nat} {S : Nat → Prop} (h : RowFree w v g) (t : Turn S w w') : RowFree w' v g := ⟨h.1, Nat.lt_of_lt_of_le h.2 t.size⟩
set_option maxRecDepth 100000 in
theorem RowFree.grow {w w' : World} {v v' : Value} {g : Nat} (h : RowFree w v g) (t : w.grownBy w' v.ownBlock) (e : v'.ownBlock = v.ownBlock ∨ v'.ownBlock = some w.heap.size) : RowFree w' v' g := by
  refine ⟨?_, Nat.lt_of_lt_of_le h.2 t.size⟩
  rcases e with e | e
  · rw [e]; exact h.1
  · rw [e]; intro x; injection x with x; have := h.2; omega
set_option maxRecDepth 100000 in
theorem grow_heap {w w' : World} {v : Value} {g : Nat} {o : Obj} (h : RowFree w v g) (t : w.grownBy w' v.ownBlock) (hg : w.heap[g]? = some o) : w'.heap[g]? = some o := (Turn.of_grown t).heap hg (fun e => h.1 e.symm)
set_option maxRecDepth 100000 in
set_option maxHeartbeats 8000000 in
theorem rput_any (Ai Ao : Option Addr) (ci co B : Nat) (t : Ptx) (w : World) (h : TxAt w B Ai ci Ao co t) (hBw : B ≤ w.heap.size) (hwi : withinB t = true) :
    Calls Tryd.prog 38 #[txV Ai ci Ao co t] w fun e w' => ∃ v, e = .returned v ∧ w'.ownsRow w.heap.size 5 1 v (formB t).length ((formB t).map bv) ∧ Turn (fun _ => False) w w' := by
  obtain ⟨i0, hi, hz0, hz1, hz2⟩ := info_parts info_u8
  have hzd := zero_in
  change ∀ w, _ = Result.ok (Value.agg ZIn) w at hzd
  obtain ⟨hil, hol, hx0, hx1, hno⟩ := within_all hwi
  have hfee := h.fee
  obtain ⟨y, hy⟩ : ∃ y : Nat, t.exp = (y : Int) := ⟨t.exp.toNat, by omega⟩
  have HFM := Lib.hid (show formB t = (numB t.ins.length ++ insF t.ins) ++ ((numB t.outs.length ++ outsF t.outs) ++ (numB t.fee ++ numB y)) by unfold formB; rw [show t.exp.toNat = y by omega])
  obtain ⟨fm, hfm⟩ : ∃ fm, fm = formB t := ⟨_, rfl⟩
  rw [← hfm] at HFM ⊢
  obtain ⟨fe, hfe⟩ : ∃ fe, fe = t.fee := ⟨_, rfl⟩
  unfold txV
  rw [hy, ← hfe]
  rw [← hfe] at hfee HFM
  obtain ⟨w0, hw0⟩ : ∃ w0, w0 = w.alloc (.cells #[.slice Ai t.ins.length ci, .slice Ao t.outs.length co, .int .u64 (fe : Int), .int .i64 (y : Int)] 35) := ⟨_, rfl⟩
  have hT0 : Turn (fun _ => False) w w0 := by rw [hw0]; exact (Turn.refl _ _).alloc _
  have hg0 : w0.heap[w.heap.size]? = some (.cells #[.slice Ai t.ins.length ci, .slice Ao t.outs.length co, .int .u64 (fe : Int), .int .i64 (y : Int)] 35 (0, 0)) := by rw [hw0]; exact heap_alloc_new _ _
  have CF := Lib.hid (fun (w' : World) (k : Turn (fun _ => False) w0 w') => (row4 (k.heap hg0 (fun h => h))).1)
  obtain ⟨c0, c1, c2, c3⟩ := CF.out w0 (Turn.refl _ _)
  have HI := Lib.hid (h.ins.turn hT0 (fun _ _ h => h))
  have HU := Lib.hid (h.outs.turn hT0 (fun _ _ h => h))
  have HT0 := Lib.hid hT0
  have HB0 := Lib.hid (Nat.le_trans hBw hT0.size)
  have HNO := Lib.hid hno
  have HK := Lib.hid (fun k => insF_le (l := t.ins.take k) (fun p hp => h.ins.oks p (List.mem_of_mem_take hp)) (fun p hp => hno p (List.mem_of_mem_take hp)))
  have HKO := Lib.hid (fun k => outsF_le (l := t.outs.take k) (fun p hp => h.outs.oks p (List.mem_of_mem_take hp)))
  have hy40 : y ≤ 1099511627776 := by omega
  have hn1 := numB_le (n := t.ins.length) (by omega)
  have hn2 := numB_le (n := t.outs.length) (by omega)
  have hn3 := numB_le hfee
  have hn4 := numB_le (n := y) (by omega)
  have N1 := Lib.hid (rnum_any t.ins.length w0 (by omega))
  have N2 := Lib.hid (fun w => rnum_any t.outs.length w (by omega))
  have N3 := Lib.hid (fun w => rnum_any fe w hfee)
  have N4 := Lib.hid (fun w => rnum_any y w (by omega))
  clear h hT0 hg0 hBw hx0 hx1 hno hfm hfe hy
  go_enter Tryd.func38, Tryd.ntmps38
  go_upto_region 1 with fail
  change Code.wp _ _ _ _ (w.alloc (.cells #[.slice Ai t.ins.length ci, .slice Ao t.outs.length co, .int .u64 (fe : Int), .int .i64 (y : Int)] 35))
  rw [← hw0]
  clear hw0
  go_wp2_with fail
  refine N1.out.mono ?_
  rintro r w1 ⟨v1, rfl, o1, t1⟩
  have HO1 := Lib.hid o1
  have HT1 := Lib.hid t1
  clear c0 c1 c2 c3 o1 t1
  obtain ⟨c0, c1, c2, c3⟩ := CF.out w1 HT1.out
  go_wp2
  go_loopw [3, 4] (fun v i wr => ∃ k : Nat, k ≤ t.ins.length ∧ i = .int .i64 k ∧ wr.ownsRow w0.heap.size 5 1 v (numB t.ins.length ++ insF (t.ins.take k)).length ((numB t.ins.length ++ insF (t.ins.take k)).map bv) ∧ Turn (fun _ => False) w0 wr) (fun _ i _ => t.ins.length - (intOf i).toNat)
  case atStart => exact ⟨0, Nat.zero_le _, rfl, by simpa [insF] using HO1.out, HT1.out⟩
  case round =>
    clear c0 c1 c2 c3 HO1 HT1
    obtain ⟨k, hk, rfl, hown, ht⟩ := hrel
    obtain ⟨c0, c1, c2, c3⟩ := CF.out wr ht
    have HTR := Lib.hid ht
    obtain ⟨XA, hXA⟩ : ∃ XA, XA = numB t.ins.length ++ insF (t.ins.take k) := ⟨_, rfl⟩
    rw [← hXA] at hown
    have hxA : XA.length ≤ 2000 := by
      have := HK.out k
      rw [List.length_take] at this
      rw [hXA, List.length_append]; omega
    have HXA := Lib.hid hXA
    have HOW := Lib.hid hown
    clear hown hXA
    by_cases hlt : k < t.ins.length
    · have hlk := List.getElem?_eq_getElem hlt
      obtain ⟨hok, b, o, S, cp, rfl, hbb, hs, hr⟩ := HI.out k t.ins[k] hlk
      have HBS := Lib.hid (fun (w' : World) (k : Turn (fun _ => False) w0 w') => hs.turn k (fun _ _ h => h))
      have hr := ht.range hr (fun h => h)
      have HSUC := Lib.hid (insF_succ hlt)
      have hout := HNO.out t.ins[k] (List.getElem_mem hlt)
      obtain ⟨q, hq⟩ : ∃ q, q = t.ins[k] := ⟨_, rfl⟩
      rw [← hq] at hok hr hs hout HSUC HBS
      obtain ⟨ob, ox0, ox1⟩ := outB_false hout
      obtain ⟨z, hz⟩ : ∃ z : Nat, q.x = (z : Int) := ⟨q.x.toNat, by omega⟩
      have hz15 : z ≤ 15 := by omega
      have HIN := Lib.hid (show inF q = q.d ++ (numB z ++ (numB q.n ++ (numB q.b.length ++ q.b))) by unfold inF; rw [show q.x.toNat = z by omega])
      have HL := Lib.hid (show (Tryd.prog.info? 58).map (·.size) = some (q.cells S cp).length by rw [q.len S cp hok.d]; kernel_rfl)
      obtain ⟨D, hD⟩ : ∃ D, D = (q.cells S cp).toArray := ⟨_, rfl⟩
      have sD : D.size = 35 := by rw [hD, List.size_toArray, q.len S cp hok.d]
      have H1 := Lib.hid (show (Tryd.prog.info? 58).map (·.size) = some D.size by rw [sD]; kernel_rfl)
      have H2 := Lib.hid (show ZIn.size = D.size by rw [sD]; rfl)
      have H3 := Lib.hid (show D.all (·.oneCell') = true by rw [hD]; exact q.one S cp)
      have HR := Lib.hid hr
      obtain ⟨wa, hwa⟩ : ∃ wa, wa = wr.alloc (.cells D 58) := ⟨_, rfl⟩
      obtain ⟨g, hg⟩ : ∃ g, g = wr.heap.size := ⟨_, rfl⟩
      have ta : Turn (fun _ => False) wr wa := by rw [hwa]; exact (Turn.refl _ _).alloc _
      have hga : wa.heap[g]? = some (.cells (q.cells S cp).toArray 58 (0, 0)) := by rw [hwa, hg, ← hD]; exact heap_alloc_new wr _
      have HOA := Lib.hid (ta.own HOW.out (fun _ _ h => h))
      have HFA := Lib.hid (show RowFree wa u3 g from ⟨fun e => by have := (HOW.out.lt g e).2; omega, by rw [hwa, hg]; simp⟩)
      have HGA := Lib.hid hga
      have HTA := Lib.hid (ht.trans ta (fun _ _ h => h))
      obtain ⟨C, hC⟩ : ∃ C, C = (q.d.map bv).toArray := ⟨_, rfl⟩
      have HLI := Lib.hid (show (Tryd.prog.info? 23).map (·.size) = some (q.d.map bv).length by rw [List.length_map, hok.d]; kernel_rfl)
      have RI := Lib.hid (Pin.idr hga)
      have ID := Lib.hid (fun w => rbytesId_any q.d w hok.d)
      rw [← hC] at ID
      have CELLS := Lib.hid (fun (w' : World) (hg : w'.heap[g]? = some (.cells (q.cells S cp).toArray 58 (0, 0))) => Pin.cell hg hok.d)
      obtain ⟨c32, c33, c34⟩ := CELLS.out _ hga
      rw [hz] at c32
      have HOY := Lib.hid hz
      have NZ := Lib.hid (fun w => rnum_any z w (by omega))
      have NN := Lib.hid (fun w => rnum_any q.n w hok.n)
      have NL := Lib.hid (fun w => rnum_any q.b.length w (by omega))
      have hz9 := numB_le (n := z) (by omega)
      have hqn9 := numB_le hok.n
      have hql9 := numB_le (n := q.b.length) (by omega)
      have HQD := Lib.hid hok.d
      have HDD := Lib.hid hD
      have HCC := Lib.hid hC
      have HWA := Lib.hid hwa
      have HGG := Lib.hid hg
      clear hr hs hok hq hout hz hD sD hwa hg ta hga hC ht hlk ox0 ox1
      go_upto_region 6 with (first
        | (refine wpList_load_mid (op := ⟨some 23, _, _, _, _, _⟩) rfl _ _ rfl b (o + k * 35) rfl (q.cells S cp) _ HR.out Tryd.underlying58 rfl HL.out ?_; rw [← HDD.out])
        | (refine wpList_store_row (o := ⟨none, .store 58 _ _, _, _, _, _⟩) rfl _ _ _ rfl wr.heap.size D rfl rfl 58 _ (heap_alloc_new wr _) H1.out H2.out H3.out ?_; rw [World.setRow_alloc_new, ← HWA.out, ← HGG.out]))
      go_wp2_with (refine wpList_load_mid (op := ⟨some 27, _, _, _, _, _⟩) rfl _ _ rfl g 0 rfl (q.d.map bv) _ RI.out Tryd.underlying23 rfl HLI.out ?_; rw [← HCC.out])
      refine (ID.out _).mono ?_
      rintro r mB1 ⟨uB1, rfl, om, tm⟩
      have tm := Turn.of_below tm
      have om2 := tm.own HOA.out (fun _ _ h => h)
      have hg := tm.heap HGA.out (fun h => h)
      obtain ⟨AmB1, cmB1, rfl, sm, lm, hcm, ham⟩ := own_sl om
      have HOMB1 := Lib.hid om2
      have HSMB1 := Lib.hid sm
      have HAMB1 := Lib.hid ham
      have HTMB1 := Lib.hid (HTA.out.trans tm (fun _ _ h => h))
      have HFMB1 := Lib.hid (HFA.out.turn tm)
      have HGMB1 := Lib.hid hg
      clear om om2 sm lm hcm ham tm hg
      go_wp2_with (at_builtin; refine stop ?_)
      unfold Stop
      refine wpList_append_any_at (o := ⟨some 29, _, _, _, _, _⟩) rfl _ _ 52 rfl w0.heap.size 5 i0 (.int .u8 0) 1 Tryd.underlying52 hi hz0 hz1 hz2 rfl _ XA.length _ rfl HOMB1.out AmB1 _ cmB1 ((q.d).map bv) rfl HAMB1.out (by rw [List.length_map, HQD.out]) (fun j u hu => (HSMB1.out j u hu).elim fun ad h => ⟨ad, h.1, h.2.2⟩) (bv_one _) (by unfold maxLen; omega) (by omega) HTMB1.out.size ?_
      intro vB1 wB1 g1 g2 g3
      obtain ⟨XB1, hXB1⟩ : ∃ X, X = XA ++ (q.d) := ⟨_, rfl⟩
      have HXB1 := Lib.hid hXB1
      have hxB1 : XB1.length ≤ 2040 := by rw [hXB1, List.length_append]; have := HQD.out; omega
      have HOB1 := Lib.hid (show wB1.ownsRow w0.heap.size 5 1 vB1 XB1.length (XB1.map bv) by rw [hXB1, List.length_append, List.map_append, HQD.out]; exact g1)
      have HTB1 := Lib.hid (HTMB1.out.grown g2 (fun i hi e => by have := (HOMB1.out.lt i e.symm).1; omega))
      have HFB1 := Lib.hid (HFMB1.out.grow g2 g3)
      have hgn := grow_heap HFMB1.out g2 HGMB1.out
      have HGB1 := Lib.hid hgn
      clear c32 c33 c34
      obtain ⟨c32, c33, c34⟩ := CELLS.out _ hgn
      rw [HOY.out] at c32
      clear hgn
      clear g1 g2 g3 hXB1
      go_wp2_with fail
      refine (NZ.out _).mono ?_
      rintro r mB2 ⟨uB2, rfl, om, tm⟩
      have om2 := tm.own HOB1.out (fun _ _ h => h)
      have hg := tm.heap HGB1.out (fun h => h)
      obtain ⟨AmB2, cmB2, rfl, sm, lm, hcm, ham⟩ := own_sl om
      have HOMB2 := Lib.hid om2
      have HSMB2 := Lib.hid sm
      have HAMB2 := Lib.hid ham
      have HTMB2 := Lib.hid (HTB1.out.trans tm (fun _ _ h => h))
      have HFMB2 := Lib.hid (HFB1.out.turn tm)
      have HGMB2 := Lib.hid hg
      clear om om2 sm lm hcm ham tm hg
      go_wp2_with (at_builtin; refine stop ?_)
      unfold Stop
      refine wpList_append_any_at (o := ⟨some 36, _, _, _, _, _⟩) rfl _ _ 52 rfl w0.heap.size 5 i0 (.int .u8 0) 1 Tryd.underlying52 hi hz0 hz1 hz2 rfl _ XB1.length _ rfl HOMB2.out AmB2 _ cmB2 ((numB z).map bv) rfl HAMB2.out (by rw [List.length_map]) (fun j u hu => (HSMB2.out j u hu).elim fun ad h => ⟨ad, h.1, h.2.2⟩) (bv_one _) (by unfold maxLen; omega) (by omega) HTMB2.out.size ?_
      intro vB2 wB2 g1 g2 g3
      obtain ⟨XB2, hXB2⟩ : ∃ X, X = XB1 ++ (numB z) := ⟨_, rfl⟩
      have HXB2 := Lib.hid hXB2
      have hxB2 : XB2.length ≤ 2060 := by rw [hXB2, List.length_append]; omega
      have HOB2 := Lib.hid (show wB2.ownsRow w0.heap.size 5 1 vB2 XB2.length (XB2.map bv) by rw [hXB2, List.length_append, List.map_append]; exact g1)
      have HTB2 := Lib.hid (HTMB2.out.grown g2 (fun i hi e => by have := (HOMB2.out.lt i e.symm).1; omega))
      have HFB2 := Lib.hid (HFMB2.out.grow g2 g3)
      have hgn := grow_heap HFMB2.out g2 HGMB2.out
      have HGB2 := Lib.hid hgn
      clear c32 c33 c34
      obtain ⟨c32, c33, c34⟩ := CELLS.out _ hgn
      rw [HOY.out] at c32
      clear hgn
      clear g1 g2 g3 hXB2
      go_wp2_with fail
      refine (NN.out _).mono ?_
      rintro r mB3 ⟨uB3, rfl, om, tm⟩
      have om2 := tm.own HOB2.out (fun _ _ h => h)
      have hg := tm.heap HGB2.out (fun h => h)
      obtain ⟨AmB3, cmB3, rfl, sm, lm, hcm, ham⟩ := own_sl om
      have HOMB3 := Lib.hid om2
      have HSMB3 := Lib.hid sm
      have HAMB3 := Lib.hid ham
      have HTMB3 := Lib.hid (HTB2.out.trans tm (fun _ _ h => h))
      have HFMB3 := Lib.hid (HFB2.out.turn tm)
      have HGMB3 := Lib.hid hg
      clear om om2 sm lm hcm ham tm hg
      go_wp2_with (at_builtin; refine stop ?_)
      unfold Stop
      refine wpList_append_any_at (o := ⟨some 41, _, _, _, _, _⟩) rfl _ _ 52 rfl w0.heap.size 5 i0 (.int .u8 0) 1 Tryd.underlying52 hi hz0 hz1 hz2 rfl _ XB2.length _ rfl HOMB3.out AmB3 _ cmB3 ((numB q.n).map bv) rfl HAMB3.out (by rw [List.length_map]) (fun j u hu => (HSMB3.out j u hu).elim fun ad h => ⟨ad, h.1, h.2.2⟩) (bv_one _) (by unfold maxLen; omega) (by omega) HTMB3.out.size ?_
      intro vB3 wB3 g1 g2 g3
      obtain ⟨XB3, hXB3⟩ : ∃ X, X = XB2 ++ (numB q.n) := ⟨_, rfl⟩
      have HXB3 := Lib.hid hXB3
      have hxB3 : XB3.length ≤ 2080 := by rw [hXB3, List.length_append]; omega
      have HOB3 := Lib.hid (show wB3.ownsRow w0.heap.size 5 1 vB3 XB3.length (XB3.map bv) by rw [hXB3, List.length_append, List.map_append]; exact g1)
      have HTB3 := Lib.hid (HTMB3.out.grown g2 (fun i hi e => by have := (HOMB3.out.lt i e.symm).1; omega))
      have HFB3 := Lib.hid (HFMB3.out.grow g2 g3)
      have hgn := grow_heap HFMB3.out g2 HGMB3.out
      have HGB3 := Lib.hid hgn
      clear c32 c33 c34
      obtain ⟨c32, c33, c34⟩ := CELLS.out _ hgn
      rw [HOY.out] at c32
      clear hgn
      clear g1 g2 g3 hXB3
      go_wp2_with fail
      refine (NL.out _).mono ?_
      rintro r mB4 ⟨uB4, rfl, om, tm⟩
      have om2 := tm.own HOB3.out (fun _ _ h => h)
      have hg := tm.heap HGB3.out (fun h => h)
      obtain ⟨AmB4, cmB4, rfl, sm, lm, hcm, ham⟩ := own_sl om
      have HOMB4 := Lib.hid om2
      have HSMB4 := Lib.hid sm
      have HAMB4 := Lib.hid ham
      have HTMB4 := Lib.hid (HTB3.out.trans tm (fun _ _ h => h))
      have HFMB4 := Lib.hid (HFB3.out.turn tm)
      have HGMB4 := Lib.hid hg
      clear om om2 sm lm hcm ham tm hg
      go_wp2_with (at_builtin; refine stop ?_)
      unfold Stop
      refine wpList_append_any_at (o := ⟨some 48, _, _, _, _, _⟩) rfl _ _ 52 rfl w0.heap.size 5 i0 (.int .u8 0) 1 Tryd.underlying52 hi hz0 hz1 hz2 rfl _ XB3.length _ rfl HOMB4.out AmB4 _ cmB4 ((numB q.b.length).map bv) rfl HAMB4.out (by rw [List.length_map]) (fun j u hu => (HSMB4.out j u hu).elim fun ad h => ⟨ad, h.1, h.2.2⟩) (bv_one _) (by unfold maxLen; omega) (by omega) HTMB4.out.size ?_
      intro vB4 wB4 g1 g2 g3
      obtain ⟨XB4, hXB4⟩ : ∃ X, X = XB3 ++ (numB q.b.length) := ⟨_, rfl⟩
      have HXB4 := Lib.hid hXB4
      have hxB4 : XB4.length ≤ 2100 := by rw [hXB4, List.length_append]; omega
      have HOB4 := Lib.hid (show wB4.ownsRow w0.heap.size 5 1 vB4 XB4.length (XB4.map bv) by rw [hXB4, List.length_append, List.map_append]; exact g1)
      have HTB4 := Lib.hid (HTMB4.out.grown g2 (fun i hi e => by have := (HOMB4.out.lt i e.symm).1; omega))
      have HFB4 := Lib.hid (HFMB4.out.grow g2 g3)
      have hgn := grow_heap HFMB4.out g2 HGMB4.out
      have HGB4 := Lib.hid hgn
      clear c32 c33 c34
      obtain ⟨c32, c33, c34⟩ := CELLS.out _ hgn
      rw [HOY.out] at c32
      clear hgn
      clear g1 g2 g3 hXB4
      have HBT := Lib.hid (HBS.out wB4 HTB4.out)
      go_wp2_with (at_builtin; refine stop ?_)
      unfold Stop
      refine wpList_append_any_at (o := ⟨some 52, _, _, _, _, _⟩) rfl _ _ 52 rfl w0.heap.size 5 i0 (.int .u8 0) 1 Tryd.underlying52 hi hz0 hz1 hz2 rfl _ XB4.length _ rfl HOB4.out S _ cp (q.b.map bv) rfl HBT.out.a (by rw [List.length_map]) (fun j u hu => (HBT.out.s j u hu).elim fun ad h => ⟨ad, h.1, h.2.2⟩) (bv_one _) (by unfold maxLen; omega) (by omega) HTB4.out.size ?_
      intro v5 w5 g1 g2 g3
      have HO5 := Lib.hid (show w5.ownsRow w0.heap.size 5 1 v5 (numB t.ins.length ++ insF (t.ins.take (k + 1))).length ((numB t.ins.length ++ insF (t.ins.take (k + 1))).map bv) from by
        have e : numB t.ins.length ++ insF (t.ins.take (k + 1)) = XB4 ++ q.b := by rw [HSUC.out, HIN.out, HXB4.out, HXB3.out, HXB2.out, HXB1.out, HXA.out]; simp only [List.append_assoc]
        rw [e, List.length_append, List.map_append]; exact g1)
      have HT5 := Lib.hid (HTB4.out.grown g2 (fun i hi e => by have := (HOB4.out.lt i e.symm).1; omega))
      clear g1 g2 g3
      go_wp2_with fail
      go_roundw
      case rel => exact ⟨k + 1, by omega, by go_num, HO5.out, HT5.out⟩
      case measure => simp [intOf]; omega
    · obtain rfl : k = t.ins.length := by omega
      rw [List.take_length] at HXA
      have HOA := Lib.hid HOW.out
      have HTA := Lib.hid ht
      clear ht HOW
      go_wp2_with fail
      refine (N2.out _).mono ?_
      rintro r mB1 ⟨uB1, rfl, om, tm⟩
      have om2 := tm.own HOA.out (fun _ _ h => h)
      obtain ⟨AmB1, cmB1, rfl, sm, lm, hcm, ham⟩ := own_sl om
      have HOMB1 := Lib.hid om2
      have HSMB1 := Lib.hid sm
      have HAMB1 := Lib.hid ham
      have HTMB1 := Lib.hid (HTA.out.trans tm (fun _ _ h => h))
      clear om om2 sm lm hcm ham tm 
      go_wp2_with (at_builtin; refine stop ?_)
      unfold Stop
      refine wpList_append_any_at (o := ⟨some 59, _, _, _, _, _⟩) rfl _ _ 52 rfl w0.heap.size 5 i0 (.int .u8 0) 1 Tryd.underlying52 hi hz0 hz1 hz2 rfl _ XA.length _ rfl HOMB1.out AmB1 _ cmB1 ((numB t.outs.length).map bv) rfl HAMB1.out (by rw [List.length_map]) (fun j u hu => (HSMB1.out j u hu).elim fun ad h => ⟨ad, h.1, h.2.2⟩) (bv_one _) (by unfold maxLen; omega) (by omega) HTMB1.out.size ?_
      intro vB1 wB1 g1 g2 g3
      obtain ⟨XB1, hXB1⟩ : ∃ X, X = XA ++ (numB t.outs.length) := ⟨_, rfl⟩
      have HXB1 := Lib.hid hXB1
      have hxB1 : XB1.length ≤ 2010 := by rw [hXB1, List.length_append]; omega
      have HOB1 := Lib.hid (show wB1.ownsRow w0.heap.size 5 1 vB1 XB1.length (XB1.map bv) by rw [hXB1, List.length_append, List.map_append]; exact g1)
      have HTB1 := Lib.hid (HTMB1.out.grown g2 (fun i hi e => by have := (HOMB1.out.lt i e.symm).1; omega))
      clear c0 c1 c2 c3
      obtain ⟨c0, c1, c2, c3⟩ := CF.out _ HTB1.out
      clear g1 g2 g3 hXB1
      go_wp2
      go_loopw [3, 6] (fun v i wr => ∃ k : Nat, k ≤ t.outs.length ∧ i = .int .i64 k ∧ wr.ownsRow w0.heap.size 5 1 v (XB1 ++ outsF (t.outs.take k)).length ((XB1 ++ outsF (t.outs.take k)).map bv) ∧ Turn (fun _ => False) w0 wr) (fun _ i _ => t.outs.length - (intOf i).toNat)
      case atStart => exact ⟨0, Nat.zero_le _, rfl, by simpa [outsF] using HOB1.out, HTB1.out⟩
      case round =>
        clear c0 c1 c2 c3
        obtain ⟨k, hk, rfl, hown, ht⟩ := hrel
        obtain ⟨c0, c1, c2, c3⟩ := CF.out wr ht
        obtain ⟨XC, hXC⟩ : ∃ XC, XC = XB1 ++ outsF (t.outs.take k) := ⟨_, rfl⟩
        rw [← hXC] at hown
        have hxC : XC.length ≤ 2800 := by
          have := HKO.out k
          rw [List.length_take] at this
          rw [hXC, List.length_append]; omega
        have HXC := Lib.hid hXC
        have HOC := Lib.hid hown
        have HTC := Lib.hid ht
        clear hown hXC ht
        by_cases hlt : k < t.outs.length
        · have hlk := List.getElem?_eq_getElem hlt
          obtain ⟨hok, b, o, rfl, hbb, hr⟩ := HU.out k t.outs[k] hlk
          have HSUC := Lib.hid (outsF_succ hlt)
          obtain ⟨q, hq⟩ : ∃ q, q = t.outs[k] := ⟨_, rfl⟩
          rw [← hq] at hok hr HSUC
          have HIN := Lib.hid (show outF q = q.d ++ numB q.n from rfl)
          obtain ⟨C, hC⟩ : ∃ C, C = (q.d.map bv).toArray := ⟨_, rfl⟩
          have HLI := Lib.hid (show (Tryd.prog.info? 23).map (·.size) = some (q.d.map bv).length by rw [List.length_map, hok.d]; kernel_rfl)
          have RG := Lib.hid (fun (w' : World) (k : Turn (fun _ => False) w0 w') => k.range hr (fun h => h))
          have RI := Lib.hid (show wr.rangeAt b (o + k * 33) (q.d.map bv) from fun j v hj => (RG.out wr HTC.out) j v (by unfold Pout.cells; rw [List.getElem?_append_left (List.getElem?_eq_some_iff.1 hj).1]; exact hj))
          have ID := Lib.hid (fun w => rbytesId_any q.d w hok.d)
          rw [← hC] at ID
          have NN := Lib.hid (fun w => rnum_any q.n w hok.n)
          have hqn9 := numB_le hok.n
          have HQD := Lib.hid hok.d
          have HCC := Lib.hid hC
          clear hr hok hq hC hlk
          go_wp2_with (refine wpList_load_mid (op := ⟨some 73, _, _, _, _, _⟩) rfl _ _ rfl b (o + k * 33) rfl (q.d.map bv) _ RI.out Tryd.underlying23 rfl HLI.out ?_; rw [← HCC.out])
          refine (ID.out _).mono ?_
          rintro r mD1 ⟨uD1, rfl, om, tm⟩
          have tm := Turn.of_below tm
          have om2 := tm.own HOC.out (fun _ _ h => h)
          obtain ⟨AmD1, cmD1, rfl, sm, lm, hcm, ham⟩ := own_sl om
          have HOMD1 := Lib.hid om2
          have HSMD1 := Lib.hid sm
          have HAMD1 := Lib.hid ham
          have HTMD1 := Lib.hid (HTC.out.trans tm (fun _ _ h => h))
          clear om om2 sm lm hcm ham tm 
          go_wp2_with (at_builtin; refine stop ?_)
          unfold Stop
          refine wpList_append_any_at (o := ⟨some 75, _, _, _, _, _⟩) rfl _ _ 52 rfl w0.heap.size 5 i0 (.int .u8 0) 1 Tryd.underlying52 hi hz0 hz1 hz2 rfl _ XC.length _ rfl HOMD1.out AmD1 _ cmD1 ((q.d).map bv) rfl HAMD1.out (by rw [List.length_map, HQD.out]) (fun j u hu => (HSMD1.out j u hu).elim fun ad h => ⟨ad, h.1, h.2.2⟩) (bv_one _) (by unfold maxLen; omega) (by omega) HTMD1.out.size ?_
          intro vD1 wD1 g1 g2 g3
          obtain ⟨XD1, hXD1⟩ : ∃ X, X = XC ++ (q.d) := ⟨_, rfl⟩
          have HXD1 := Lib.hid hXD1
          have hxD1 : XD1.length ≤ 2840 := by rw [hXD1, List.length_append]; have := HQD.out; omega
          have HOD1 := Lib.hid (show wD1.ownsRow w0.heap.size 5 1 vD1 XD1.length (XD1.map bv) by rw [hXD1, List.length_append, List.map_append, HQD.out]; exact g1)
          have HTD1 := Lib.hid (HTMD1.out.grown g2 (fun i hi e => by have := (HOMD1.out.lt i e.symm).1; omega))
          clear c0 c1 c2 c3
          obtain ⟨c0, c1, c2, c3⟩ := CF.out _ HTD1.out
          clear g1 g2 g3 hXD1
          have d32 := Pout.rc (RG.out _ HTD1.out) HQD.out
          go_wp2_with fail
          refine (NN.out _).mono ?_
          rintro r mD2 ⟨uD2, rfl, om, tm⟩
          have om2 := tm.own HOD1.out (fun _ _ h => h)
          obtain ⟨AmD2, cmD2, rfl, sm, lm, hcm, ham⟩ := own_sl om
          have HOMD2 := Lib.hid om2
          have HSMD2 := Lib.hid sm
          have HAMD2 := Lib.hid ham
          have HTMD2 := Lib.hid (HTD1.out.trans tm (fun _ _ h => h))
          clear om om2 sm lm hcm ham tm 
          go_wp2_with (at_builtin; refine stop ?_)
          unfold Stop
          refine wpList_append_any_at (o := ⟨some 84, _, _, _, _, _⟩) rfl _ _ 52 rfl w0.heap.size 5 i0 (.int .u8 0) 1 Tryd.underlying52 hi hz0 hz1 hz2 rfl _ XD1.length _ rfl HOMD2.out AmD2 _ cmD2 ((numB q.n).map bv) rfl HAMD2.out (by rw [List.length_map]) (fun j u hu => (HSMD2.out j u hu).elim fun ad h => ⟨ad, h.1, h.2.2⟩) (bv_one _) (by unfold maxLen; omega) (by omega) HTMD2.out.size ?_
          intro vD2 wD2 g1 g2 g3
          obtain ⟨XD2, hXD2⟩ : ∃ X, X = XD1 ++ (numB q.n) := ⟨_, rfl⟩
          have HXD2 := Lib.hid hXD2
          have hxD2 : XD2.length ≤ 2860 := by rw [hXD2, List.length_append]; omega
          have HOD2 := Lib.hid (show wD2.ownsRow w0.heap.size 5 1 vD2 XD2.length (XD2.map bv) by rw [hXD2, List.length_append, List.map_append]; exact g1)
          have HTD2 := Lib.hid (HTMD2.out.grown g2 (fun i hi e => by have := (HOMD2.out.lt i e.symm).1; omega))
          clear c0 c1 c2 c3
          obtain ⟨c0, c1, c2, c3⟩ := CF.out _ HTD2.out
          clear g1 g2 g3 hXD2
          go_wp2_with fail
          go_roundw
          case rel =>
            refine ⟨k + 1, by omega, by go_num, ?_, HTD2.out⟩
            have e : XB1 ++ outsF (t.outs.take (k + 1)) = XD2 := by rw [HSUC.out, HIN.out, HXD2.out, HXD1.out, HXC.out]; simp only [List.append_assoc]
            rw [e]; exact HOD2.out
          case measure => simp [intOf]; omega
        · obtain rfl : k = t.outs.length := by omega
          rw [List.take_length] at HXC
          go_wp2_with fail
          refine (N3.out _).mono ?_
          rintro r mE1 ⟨uE1, rfl, om, tm⟩
          have om2 := tm.own HOC.out (fun _ _ h => h)
          obtain ⟨AmE1, cmE1, rfl, sm, lm, hcm, ham⟩ := own_sl om
          have HOME1 := Lib.hid om2
          have HSME1 := Lib.hid sm
          have HAME1 := Lib.hid ham
          have HTME1 := Lib.hid (HTC.out.trans tm (fun _ _ h => h))
          clear om om2 sm lm hcm ham tm 
          go_wp2_with (at_builtin; refine stop ?_)
          unfold Stop
          refine wpList_append_any_at (o := ⟨some 89, _, _, _, _, _⟩) rfl _ _ 52 rfl w0.heap.size 5 i0 (.int .u8 0) 1 Tryd.underlying52 hi hz0 hz1 hz2 rfl _ XC.length _ rfl HOME1.out AmE1 _ cmE1 ((numB fe).map bv) rfl HAME1.out (by rw [List.length_map]) (fun j u hu => (HSME1.out j u hu).elim fun ad h => ⟨ad, h.1, h.2.2⟩) (bv_one _) (by unfold maxLen; omega) (by omega) HTME1.out.size ?_
          intro vE1 wE1 g1 g2 g3
          obtain ⟨XE1, hXE1⟩ : ∃ X, X = XC ++ (numB fe) := ⟨_, rfl⟩
          have HXE1 := Lib.hid hXE1
          have hxE1 : XE1.length ≤ 2820 := by rw [hXE1, List.length_append]; omega
          have HOE1 := Lib.hid (show wE1.ownsRow w0.heap.size 5 1 vE1 XE1.length (XE1.map bv) by rw [hXE1, List.length_append, List.map_append]; exact g1)
          have HTE1 := Lib.hid (HTME1.out.grown g2 (fun i hi e => by have := (HOME1.out.lt i e.symm).1; omega))
          clear c0 c1 c2 c3
          obtain ⟨c0, c1, c2, c3⟩ := CF.out _ HTE1.out
          clear g1 g2 g3 hXE1
          go_wp2_with fail
          refine (N4.out _).mono ?_
          rintro r mE2 ⟨uE2, rfl, om, tm⟩
          have om2 := tm.own HOE1.out (fun _ _ h => h)
          obtain ⟨AmE2, cmE2, rfl, sm, lm, hcm, ham⟩ := own_sl om
          have HOME2 := Lib.hid om2
          have HSME2 := Lib.hid sm
          have HAME2 := Lib.hid ham
          have HTME2 := Lib.hid (HTE1.out.trans tm (fun _ _ h => h))
          clear om om2 sm lm hcm ham tm 
          go_wp2_with (at_builtin; refine stop ?_)
          unfold Stop
          refine wpList_append_any_at (o := ⟨some 95, _, _, _, _, _⟩) rfl _ _ 52 rfl w0.heap.size 5 i0 (.int .u8 0) 1 Tryd.underlying52 hi hz0 hz1 hz2 rfl _ XE1.length _ rfl HOME2.out AmE2 _ cmE2 ((numB y).map bv) rfl HAME2.out (by rw [List.length_map]) (fun j u hu => (HSME2.out j u hu).elim fun ad h => ⟨ad, h.1, h.2.2⟩) (bv_one _) (by unfold maxLen; omega) (by omega) HTME2.out.size ?_
          intro vE2 wE2 g1 g2 g3
          obtain ⟨XE2, hXE2⟩ : ∃ X, X = XE1 ++ (numB y) := ⟨_, rfl⟩
          have HXE2 := Lib.hid hXE2
          have hxE2 : XE2.length ≤ 2840 := by rw [hXE2, List.length_append]; omega
          have HOE2 := Lib.hid (show wE2.ownsRow w0.heap.size 5 1 vE2 XE2.length (XE2.map bv) by rw [hXE2, List.length_append, List.map_append]; exact g1)
          have HTE2 := Lib.hid (HTME2.out.grown g2 (fun i hi e => by have := (HOME2.out.lt i e.symm).1; omega))
          clear c0 c1 c2 c3
          obtain ⟨c0, c1, c2, c3⟩ := CF.out _ HTE2.out
          clear g1 g2 g3 hXE2
          go_wp2
          go_ret
          refine ⟨_, rfl, ?_, HT0.out.trans HTE2.out (fun _ _ h => h)⟩
          have e : fm = XE2 := by rw [HFM.out, HXE2.out, HXE1.out, HXC.out, HXB1.out, HXA.out]; simp only [List.append_assoc]
          rw [e]; exact own_more HOE2.out HT0.out.size
end Go.Proofs.YtoclfohgchlpnaaDoor
