/- The landed line: Join. -/
import Derived.Test.YtgjplbanfnomkaaLnO
set_option linter.unusedVariables false
set_option linter.unusedSimpArgs false
namespace Go.Proofs.Ytgjplbanfnomkaa
open Go.RowKit
set_option maxRecDepth 100000
theorem slice_own (A : Option Addr) (n i c : Nat) : (Value.slice A n c).ownBlock = (Value.slice A i c).ownBlock := by cases A <;> rfl
theorem lplace_c (g : Nat) (b i : Int) (w : World) (c0 : w.cell? ⟨g, 0, none⟩ = some (.int .i64 b)) (hb0 : 0 ≤ b) (hb1 : b ≤ 1099511627776) (hi : b < i) (hi2 : i ≤ 10000000000000) : Calls Try.prog 42 #[.pointer (some ⟨g, 0, none⟩), .int .i64 i] w fun r w' => r = .returned (.int .i64 (i - b - 1)) ∧ w' = w := by
  go_enter Try.func42, Try.ntmps42
  go_wp2
  go_ret
  exact ⟨rfl, rfl⟩
/-- Items of one's own in a row that B knows. -/
def CpI (B m : Nat) (l : List Itm) (v : Value) (w : World) : Prop := ∃ a c ds, v = .slice (some ⟨a, 0, none⟩) m c ∧ B ≤ a ∧ ItV w (NuK B w) l ds ∧ w.ownsRow B 36 2 v m ds
def NewIs (B : Nat) (l : List Itm) (news : List Value) (w : World) : Prop := ItV w (NuK B w) l news
theorem NewIs.turn {B : Nat} {l : List Itm} {news : List Value} {w w' : World} {row : Option Nat} (h : NewIs B l news w) (t : Turn (fun k => row = some k) w w') (hB : ∀ g, row = some g → g < B) : NewIs B l news w' :=
  ItV.turn h t (fun i e => .inl (hB i e)) (NuK.turn t (fun i e => .inl (hB i e)))
theorem CpI.turn {B m : Nat} {l : List Itm} {v : Value} {w w' : World} {row : Option Nat} (h : CpI B m l v w) (t : Turn (fun k => row = some k) w w') (hB : ∀ g, row = some g → g < B) : CpI B m l v w' := by
  obtain ⟨a, c, ds, e, ha, hv, ho⟩ := h
  refine ⟨a, c, ds, e, ha, NewIs.turn hv t hB, own_turn2 t ho fun k hk e2 => ?_⟩
  obtain ⟨cur, -, h1⟩ := row_block ho hk
  have := hB k e2
  omega
def JPost (g : Nat) (v : Value) (x : Ln) (prev term : Int) (its : List Itm) (w : World) (r : Ending) (w' : World) : Prop :=
  ∃ v', r = .returned (.tuple #[.int .i64 (x.join prev term its).2.1, .bool (x.join prev term its).2.2]) ∧ Lat w' g v' (x.join prev term its).1 ∧ LnStep w w' g v v'
theorem jpost_same {g : Nat} {v : Value} {x : Ln} {prev term : Int} {its : List Itm} {w w' : World} {ok : Bool} (h : Lat w g v x) (hj : x.join prev term its = (x, 0, ok)) (t : Turn (fun _ => False) w w') : JPost g v x prev term its w (.returned (.tuple #[.int .i64 0, .bool ok])) w' := by
  unfold JPost
  rw [hj]
  exact ⟨v, rfl, h.quiet t, LnStep.quiet t⟩
set_option maxHeartbeats 32000000 in
theorem ljoin_any (g : Nat) (v : Value) (x : Ln) (prev term : Int) (A2 : Option Addr) (c2 : Nat) (N : Nat → Prop) (its : List Itm) (w : World) (h : Lat w g v x) (hI : ItN w N A2 its) (hNw : ∀ i, Ow g v i → N i) (ha2 : A2 = none → c2 = 0) (hc2 : its.length ≤ c2) (hm2 : its.length ≤ 100000) :
    Calls Try.prog 13 #[.pointer (some ⟨g, 0, none⟩), .int .i64 prev, .int .i64 term, .slice A2 its.length c2] w (JPost g v x prev term its w) := by
  have T1 := lmeets_any g v x w h prev term
  have T2 := fun (w' : World) (t : Turn (fun _ => False) w w') => containsBad_any N A2 c2 its w' (hI.quiet t) (by unfold maxLen; omega)
  have T3 := fun (w' : World) (t : Turn (fun _ => False) w w') => lroom_any g v x w' (h.quiet t) (prev + its.length)
  change ∀ w', _ → Calls _ _ _ w' (fun r w'' => r = .returned (.bool (x.roomB (prev + its.length))) ∧ w'' = w') at T3
  have HH := Lib.hid h
  have HI := Lib.hid hI
  have HNW := Lib.hid hNw
  clear hNw
  obtain ⟨n2, hn2⟩ : ∃ n, n = its.length := ⟨_, rfl⟩
  rw [← hn2] at T2 T3 hc2 hm2 ⊢
  have HN2 := Lib.hid hn2
  have T2 := Lib.hid T2
  cases hm : x.meetB prev term with
  | false =>
    have HJ := Lib.hid (Ln.join_no1 (its := its) h.ok hm)
    rw [hm] at T1
    have T1 := Lib.hid T1
    have JS := Lib.hid (fun w' (t : Turn (fun _ => False) w w') => jpost_same HH.out HJ.out t)
    generalize JPost g v x prev term its w = PP at *
    clear h hI hm T2 T3 hn2
    go_enter Try.func13, Try.ntmps13
    go_wp2
    apply wp_scope_straight
    go_wp2_with (go_at_call 39; refine stop ?_)
    unfold Stop
    refine T1.out.mono ?_
    rintro r w1 ⟨rfl, t1⟩
    have HT1 := Lib.hid t1
    clear t1 T1
    go_wp2
    exact JS.out _ HT1.out
  | true =>
  rw [hm] at T1
  have T1 := Lib.hid T1
  obtain ⟨hp0, hpl⟩ := Ln.join_bounds h.ok hm
  have hlast : x.last ≤ 1099511627776 := by have := h.ok.m; unfold Ln.last; omega
  cases hb : its.any badI with
  | true =>
    have HJ := Lib.hid (Ln.join_no2 h.ok hm hb)
    have T2 := T2.out
    rw [hb] at T2
    have T2 := Lib.hid T2
    have JS := Lib.hid (fun w' (t : Turn (fun _ => False) w w') => jpost_same HH.out HJ.out t)
    generalize JPost g v x prev term its w = PP at *
    clear h hI hm hb T3 hn2
    go_enter Try.func13, Try.ntmps13
    go_wp2
    apply wp_scope_straight
    go_wp2_with (go_at_call 39; refine stop ?_)
    unfold Stop
    refine T1.out.mono ?_
    rintro r w1 ⟨rfl, t1⟩
    have HT1 := Lib.hid t1
    clear t1 T1
    go_wp2_with (go_at_call 40; refine stop ?_)
    unfold Stop
    refine (T2.out w1 HT1.out).mono ?_
    rintro r w2 ⟨rfl, t2⟩
    have HT2 := Lib.hid (HT1.out.trans t2 (fun _ _ h => h))
    clear t2 T2
    go_wp2
    exact JS.out _ HT2.out
  | false =>
  have T2 := T2.out
  rw [hb] at T2
  have T2 := Lib.hid T2
  cases hr : x.roomB (prev + n2) with
  | false =>
    rw [hr] at T3
    have T3 := Lib.hid T3
    have HJ := Lib.hid (Ln.join_no3 h.ok hm hb (by rw [← hn2]; exact hr))
    have JS := Lib.hid (fun w' (t : Turn (fun _ => False) w w') => jpost_same HH.out HJ.out t)
    generalize JPost g v x prev term its w = PP at *
    clear h hI hm hb hr hn2
    go_enter Try.func13, Try.ntmps13
    go_wp2
    apply wp_scope_straight
    go_wp2_with (go_at_call 39; refine stop ?_)
    unfold Stop
    refine T1.out.mono ?_
    rintro r w1 ⟨rfl, t1⟩
    have HT1 := Lib.hid t1
    clear t1 T1
    go_wp2_with (go_at_call 40; refine stop ?_)
    unfold Stop
    refine (T2.out w1 HT1.out).mono ?_
    rintro r w2 ⟨rfl, t2⟩
    have HT2 := Lib.hid (HT1.out.trans t2 (fun _ _ h => h))
    clear t2 T2
    go_wp2_with (go_at_call 35; refine stop ?_)
    unfold Stop
    refine (T3.out w2 HT2.out).mono ?_
    rintro r w3 ⟨rfl, hw3⟩
    rw [hw3]
    clear hw3 w3 T3
    go_wp2
    exact JS.out _ HT2.out
  | true =>
  rw [hr] at T3
  have T3 := Lib.hid T3
  have HM := Lib.hid hm
  have HB := Lib.hid hb
  have HRO := Lib.hid hr
  have HOKS := Lib.hid (ok_its hb).2
  have TT := Lib.hid (fun (w' : World) (t : Turn (fun _ => False) w w') (i : Int) => lterm_any g v x w' (h.quiet t) i)
  clear h hI hm hb hr hn2
  go_enter Try.func13, Try.ntmps13
  go_wp2
  apply wp_scope_straight
  go_wp2_with (go_at_call 39; refine stop ?_)
  unfold Stop
  refine T1.out.mono ?_
  rintro r w1 ⟨rfl, t1⟩
  have HT1 := Lib.hid t1
  clear t1 T1
  go_wp2_with (go_at_call 40; refine stop ?_)
  unfold Stop
  refine (T2.out w1 HT1.out).mono ?_
  rintro r w2 ⟨rfl, t2⟩
  have HT2 := Lib.hid (HT1.out.trans t2 (fun _ _ h => h))
  clear t2 T2
  go_wp2_with (go_at_call 35; refine stop ?_)
  unfold Stop
  refine (T3.out w2 HT2.out).mono ?_
  rintro r w3 ⟨rfl, hw3⟩
  rw [hw3]
  clear hw3 w3 T3
  go_wp2
  apply wp_label
  go_wp2
  go_loopw [10, 42] (fun a i wr => ∃ (k : Nat) (z : Int), k ≤ n2 ∧ i = .int .i64 k ∧ a = .int .i64 z ∧ z = prev + 1 + k ∧ x.first prev its k = none ∧ Turn (fun _ => False) w wr) (fun _ i _ => n2 - (intOf i).toNat)
  case atStart => exact ⟨0, prev + 1, Nat.zero_le _, rfl, rfl, by simp, rfl, HT2.out⟩
  case round =>
    clear HT1 HT2
    obtain ⟨k, z, hk, rfl, rfl, hz, hf, ht⟩ := hrel
    have HT := Lib.hid ht
    have HF := Lib.hid hf
    have hz1 : z ≤ 10000000000000 ∧ 0 ≤ z := by omega
    have HZ := Lib.hid hz
    obtain ⟨c0, c1, c3⟩ := (HH.out.quiet ht).cells
    have C0 := Lib.hid c0
    clear c1 c3 hf c0
    by_cases hlt : k < n2
    · have hlk : k < its.length := by have := HN2.out; omega
      have hgk := List.getElem?_eq_getElem hlk
      obtain ⟨hok, b, o, S, cp, hAe, -, hs, p0, p1⟩ := (HI.out.quiet ht) k its[k] hgk
      subst hAe
      have hpt := (okIt_parts (HOKS.out its[k] (List.getElem_mem hlk))).1
      obtain ⟨p, hp⟩ : ∃ p, p = its[k] := ⟨_, rfl⟩
      rw [← hp] at hgk hok p0 p1 hs hpt
      have HGK := Lib.hid hgk
      have HPT := Lib.hid hpt
      clear hp hok hs hgk hpt ht hz
      go_upto_region 7 with fail
      obtain ⟨w4, hw4⟩ : ∃ w4, w4 = wr.alloc (itO p S cp) := ⟨_, rfl⟩
      have t4 : Turn (fun _ => False) wr w4 := by rw [hw4]; exact (Turn.refl _ _).alloc _
      have g4 : w4.heap[wr.heap.size]? = some (.cells #[.int .i64 p.t, .slice S p.b.length cp] 36 (0, 0)) := by rw [hw4]; exact heap_alloc_new _ _
      have HT4 := Lib.hid (HT.out.trans t4 (fun _ _ h => h))
      have HC4 := Lib.hid (t4.cell C0.out (fun h => h))
      change Code.wp _ _ _ _ (wr.alloc (itO p S cp))
      rw [← hw4]
      clear hw4 t4 p0 p1
      generalize wr.heap.size = q at *
      have HG4 := Lib.hid g4
      clear g4
      have TZ := TT.out w4 HT4.out z
      have c0 := HC4.out
      obtain ⟨⟨d0, d1⟩, -⟩ := ys_row HG4.out
      by_cases hzb : z ≤ x.b
      · have HNX := Lib.hid (show x.first prev its (k + 1) = none by rw [Ln.first_succ HGK.out HF.out, if_neg (by have := HZ.out; omega)])
        generalize x.th z = ok at *
        generalize x.tm z = t' at *
        have TZ := Lib.hid TZ
        go_wp2_with (go_at_call 24; refine stop ?_)
        unfold Stop
        refine TZ.out.mono ?_
        rintro r w5 ⟨rfl, t5⟩
        have HT5 := Lib.hid (HT4.out.trans t5 (fun _ _ h => h))
        have HC5 := Lib.hid (t5.cell HC4.out (fun h => h))
        clear d0 d1 c0
        obtain ⟨⟨d0, d1⟩, -⟩ := ys_row (t5.heap HG4.out (fun h => h))
        have c0 := HC5.out
        clear t5
        go_wp2
        go_roundw
        case rel => exact ⟨k + 1, z + 1, by omega, by go_num, rfl, by have := HZ.out; push_cast; omega, HNX.out, HT5.out⟩
        case measure => simp [intOf]; omega
      · by_cases he : x.at z = p.t
        · have HNX := Lib.hid (show x.first prev its (k + 1) = none by rw [Ln.first_succ HGK.out HF.out, if_neg (by rw [← HZ.out, he]; rintro ⟨-, h⟩; exact h rfl)])
          rw [show x.th z = true by unfold Ln.th; rw [he]; exact decide_eq_true HPT.out, show x.tm z = p.t by unfold Ln.tm; rw [he, if_pos HPT.out]] at TZ
          have q9 : (p.t != p.t) = false := by simp
          have TZ := Lib.hid TZ
          clear he
          go_wp2_with (go_at_call 24; refine stop ?_)
          unfold Stop
          refine TZ.out.mono ?_
          rintro r w5 ⟨rfl, t5⟩
          have HT5 := Lib.hid (HT4.out.trans t5 (fun _ _ h => h))
          have HC5 := Lib.hid (t5.cell HC4.out (fun h => h))
          clear d0 d1 c0
          obtain ⟨⟨d0, d1⟩, -⟩ := ys_row (t5.heap HG4.out (fun h => h))
          have c0 := HC5.out
          clear t5
          go_wp2
          go_roundw
          case rel => exact ⟨k + 1, z + 1, by omega, by go_num, rfl, by have := HZ.out; push_cast; omega, HNX.out, HT5.out⟩
          case measure => simp [intOf]; omega
        · obtain ⟨i, hi, hil, hi2, hz3⟩ := Ln.some_parts HH.out.ok HM.out HB.out HGK.out HF.out (by have := HZ.out; omega)
          obtain ⟨hj, hok'⟩ := Ln.join_some HH.out.ok HM.out HB.out (by rw [← HN2.out]; exact HRO.out) HGK.out HF.out (by have := HZ.out; omega) (by rw [← HZ.out]; exact he) hi hil
          rw [← HZ.out] at hi2 hj
          have HJ := Lib.hid hj
          have HOKJ := Lib.hid hok'
          have HI2 := Lib.hid hi2
          have HIL := Lib.hid hil
          clear hi hj hok' hi2 hil hz3
          cases hth : x.th z with
          | true =>
            rw [hth] at TZ
            have q9 : (x.tm z != p.t) = true := by
              have e : x.tm z = x.at z := by unfold Ln.tm; unfold Ln.th at hth; rw [if_pos (of_decide_eq_true hth)]
              rw [e]; simpa using he
            generalize x.tm z = t' at *
            have TZ := Lib.hid TZ
            clear he hth
            go_wp2_with (go_at_call 24; refine stop ?_)
            unfold Stop
            refine TZ.out.mono ?_
            rintro r w5 ⟨rfl, t5⟩
            have HT5 := Lib.hid (HT4.out.trans t5 (fun _ _ h => h))
            have HC5 := Lib.hid (t5.cell HC4.out (fun h => h))
            clear d0 d1 c0
            obtain ⟨⟨d0, d1⟩, -⟩ := ys_row (t5.heap HG4.out (fun h => h))
            have c0 := HC5.out
            clear t5
            have hzk : z - prev - 1 = (k : Int) := by have := HZ.out; omega
            have hl0 : (((n2 - k : Nat) : Int) == 0) = false := by rw [beq_eq_false_iff_ne]; omega
            have hl1 : ((n2 : Int) - (k : Int) == 0) = false := by rw [beq_eq_false_iff_ne]; omega
            go_upto_region 15 with fail
            obtain ⟨m, hm⟩ : ∃ m, m = n2 - k := ⟨_, rfl⟩
            have hm0 : 0 < m := by omega
            have hm9 : m ≤ 100000 := by omega
            have hc5 : m ≤ c2 - k := by omega
            rw [← hm]
            have HHR := Lib.hid (HH.out.quiet HT5.out)
            obtain ⟨cs, hcv, hco⟩ := HHR.out.o
            obtain ⟨A, cA, eV, hcA, hmA, hAA, -⟩ := row_slice hco
            have hn4 := HH.out.ok.n
            obtain ⟨n, hn⟩ : ∃ n, n = x.l.length := ⟨_, rfl⟩
            rw [← hn] at eV hco hcA hn4
            have hil : i ≤ n := by have := HIL.out; omega
            obtain ⟨-, -, c2'⟩ := HHR.out.cells
            have hne := HHR.out.ne
            have hB : ∀ q, (Value.slice A i cA).ownBlock = some q → q < w5.heap.size := fun q e => HHR.out.ltV (by rw [eV, slice_own A n i cA]; exact e)
            have hrow : v.ownBlock = (Value.slice A i cA).ownBlock := by rw [eV]; exact slice_own A n i cA
            have hne' : (Value.slice A i cA).ownBlock ≠ some g := by rw [← hrow]; exact hne
            obtain ⟨l', hl'⟩ : ∃ l, l = its.drop k := ⟨_, rfl⟩
            rw [← hl'] at HJ HOKJ
            have HL' := Lib.hid (show l'.length = m by rw [hl', List.length_drop]; have := HN2.out; omega)
            have HSRC := Lib.hid (show ∀ w1, Turn (fun q => (Value.slice A i cA).ownBlock = some q) w5 w1 → ItN w1 (fun _ => False) (some ⟨b, o + k * 2, none⟩) l' from fun w1 t => by
              have h1 := (HI.out.quiet HT5.out).turn (N' := fun _ => False) t (fun q e => HNW.out q (.inr (by rw [hrow]; exact e))) (fun _ _ h => h.elim)
              have h2 := h1.cut k its.length
              rwa [List.take_of_length_le (by rw [List.length_drop]; omega), ← hl'] at h2)
            have HLB := Lib.hid (show ∀ p ∈ l', p.b.length ≤ 8192 from fun q hq => (okIt_parts (HOKS.out q (List.mem_of_mem_drop (by rw [← hl']; exact hq)))).2.2)
            have HFR := Lib.hid (row_front (eV ▸ hco) hil)
            have HCV := Lib.hid hcv
            have HXN := Lib.hid hn
            have C2 := Lib.hid (show w5.cell? ⟨g, 2, none⟩ = some (.slice A n cA) by rw [c2', eV])
            have HB' := Lib.hid hB
            have EV := Lib.hid eV
            have HROW := Lib.hid hrow
            have HMC := Lib.hid hm
            have hcap : ∀ q n' cR, (Value.slice A i cA) = .slice (some ⟨q, 0, none⟩) n' cR → cR = cA := fun q n' cR e => by injection e with _ _ e; exact e.symm
            have HRS : ∀ (news : List Value) (w1 w2 : World), NewIs w5.heap.size l' news w1 → Turn (fun q => (Value.slice A i cA).ownBlock = some q) w1 w2 → NewIs w5.heap.size l' news w2 := fun news w1 w2 h t => h.turn t hB
            have S94 : ∀ (u : Value) (w1 w2 : World), CpI w5.heap.size m l' u w1 → ApM 36 2 i m cA (Value.slice A i cA).ownBlock (cs.take (i * 2)) (NewIs w5.heap.size l') w1 w2 → CpI w5.heap.size m l' u w2 := fun u w1 w2 h hs => h.turn hs.t hB
            have HXB := Lib.hid (And.intro HH.out.ok.b0 HH.out.ok.b1)
            have HZB := Lib.hid (show x.b < z ∧ z ≤ 10000000000000 from ⟨by omega, hz1.1⟩)
            clear hcv hco eV hmA hAA c2' hn hl' hrow hm hzk hl0 hl1 d0 d1 c0 hlk hne
            refine wp_region_rel_tail 18 99 (by kernel_rfl) (by kernel_rfl) (ApM 36 2 i m cA (Value.slice A i cA).ownBlock (cs.take (i * 2)) (NewIs w5.heap.size l')) [.one ?_, .one ?_, .one ?_, .one ?_, .one ?_, .one ?_, .one ?_, .one ?_, .one ?_, .one ?_, .one ?_, .one ?_, .one ?_, .one ?_, .rel (CpI w5.heap.size m l'), .rel (ApdM 36 2 i m cA w5.heap.size (Value.slice A i cA).ownBlock (cs.take (i * 2)) (NewIs w5.heap.size l')), .one ?_, .one ?_] (by kernel_rfl) rfl (by kernel_rfl) ApM.refl (ApM.trans HRS) ⟨S94, ApdM.stable HRS hB, trivial⟩ ?main
            case main =>
            simp only [List.take_succ_cons, List.take_zero, List.drop_succ_cons, List.drop_zero]
            iterate 4
              refine wpR_one (A' := ?_) ApM.refl (by rfl) _ rfl 99 (by rfl) (by rfl) ?_ ?_ ?_
              rotate_left 1
              · simp only [Act.put, List.setIfInBounds_toArray, List.set_cons_zero, List.set_cons_succ]; rfl
              · intro w1 hs hf K hK
                go_big_quiet_op
                first
                  | go_big_quiet_on
                  | (refine ⟨_, fun _ _ => rfl, ?_⟩; go_big_quiet_on)
                rfl
            refine wpR_one (A' := ?_) ApM.refl (by rfl) _ rfl 99 (by rfl) (by rfl) ?_ ?_ ?_
            rotate_left 1
            · simp only [Act.put, List.setIfInBounds_toArray, List.set_cons_zero, List.set_cons_succ]; rfl
            · intro w1 hs hf K hK
              refine cls_load_cell 27 (.tmp 83) rfl ⟨g, 2, none⟩ rfl (.slice A n cA) (fun w h => by simp [go_sem, h]) (fun w2 h2 => ((ApM.trans HRS) _ _ _ hs h2).t.cell (show w5.drew.cell? _ = _ from C2.out) hne') ?_
              refine hK _ ?_
              simp only [Act.put, List.setIfInBounds_toArray, List.set_cons_zero, List.set_cons_succ]
              rfl
            iterate 2
              refine wpR_one (A' := ?_) ApM.refl (by rfl) _ rfl 99 (by rfl) (by rfl) ?_ ?_ ?_
              rotate_left 1
              · simp only [Act.put, List.setIfInBounds_toArray, List.set_cons_zero, List.set_cons_succ]; rfl
              · intro w1 hs hf K hK
                go_big_quiet_op
                first
                  | go_big_quiet_on
                  | (refine ⟨_, fun _ _ => rfl, ?_⟩; go_big_quiet_on)
                rfl
            refine wpR_one (A' := ?_) ApM.refl (by rfl) _ rfl 99 (by rfl) (by rfl) ?_ ?_ ?_
            rotate_left 1
            · simp only [Act.put, List.setIfInBounds_toArray, List.set_cons_zero, List.set_cons_succ]; rfl
            · intro w1 hs hf K hK
              go_big_quiet_op
              apply Exists.intro
              refine ⟨fun w2 h2 => ?_, ?_⟩
              · have T2 := ((ApM.trans HRS) _ _ _ hs h2).t
                have TP := lplace_c g x.b z w2 (T2.cell (show w5.drew.cell? _ = _ from HC5.out) hne') HXB.out.1 HXB.out.2 HZB.out.1 HZB.out.2
                rw [HI2.out] at TP
                refine TP.mono ?_
                rintro e w3 ⟨rfl, h3⟩
                exact ⟨rfl, by rw [h3]; exact h2⟩
              · go_big_quiet_on
                rfl
            iterate 3
              refine wpR_one (A' := ?_) ApM.refl (by rfl) _ rfl 99 (by rfl) (by rfl) ?_ ?_ ?_
              rotate_left 1
              · simp only [Act.put, List.setIfInBounds_toArray, List.set_cons_zero, List.set_cons_succ]; rfl
              · intro w1 hs hf K hK
                go_big_quiet_op
                first
                  | go_big_quiet_on
                  | (refine ⟨_, fun _ _ => rfl, ?_⟩; go_big_quiet_on)
                rfl
            refine wpR_one (A' := ?_) ApM.refl (by rfl) _ rfl 99 (by rfl) (by rfl) ?_ ?_ ?_
            rotate_left 1
            · simp only [Act.put, List.setIfInBounds_toArray, List.set_cons_zero, List.set_cons_succ]; rfl
            · intro w1 hs hf K hK
              refine cls_load_cell 27 (.tmp 90) rfl ⟨g, 2, none⟩ rfl (.slice A n cA) (fun w h => by simp [go_sem, h]) (fun w2 h2 => ((ApM.trans HRS) _ _ _ hs h2).t.cell (show w5.drew.cell? _ = _ from C2.out) hne') ?_
              refine hK _ ?_
              simp only [Act.put, List.setIfInBounds_toArray, List.set_cons_zero, List.set_cons_succ]
              rfl
            iterate 2
              refine wpR_one (A' := ?_) ApM.refl (by rfl) _ rfl 99 (by rfl) (by rfl) ?_ ?_ ?_
              rotate_left 1
              · simp only [Act.put, List.setIfInBounds_toArray, List.set_cons_zero, List.set_cons_succ]; rfl
              · intro w1 hs hf K hK
                go_big_quiet_op
                first
                  | go_big_quiet_on
                  | (refine ⟨_, fun _ _ => rfl, ?_⟩; go_big_quiet_on)
                rfl
            refine wpR_rel (A' := ?_) (by rfl) ?_ ?_ ?_
            · intro w1 hs hf
              have hB1 : w5.heap.size ≤ w1.heap.size := hs.t.size
              have CP := lcopies_any _ (c2 - k) _ l' w1 (HSRC.out w1 (show Turn (fun q => (Value.slice A i cA).ownBlock = some q) w5 w1 from ⟨hs.t.os, hs.t.tape, hs.t.output, hs.t.size, hs.t.block⟩)) (by rw [HL'.out]; omega) HLB.out
              unfold CsPost at CP
              rw [HL'.out] at CP
              refine does_call (w' := w1) (f := 43) (args := #[.slice (some ⟨b, o + k * 2, none⟩) m (c2 - k)]) (by kernel_rfl) (CP.mono ?_)
              rintro e w3 ⟨A3, c3, ds, rfl, hv, ho, h3⟩
              obtain ⟨A4, c4, e4, hc4, -, hA4, hA5⟩ := row_slice ho
              injection e4 with e1 e2 e3
              subst e1 e3
              rcases hA5 with rfl | ⟨a3, rfl, ha3, -⟩
              · have := hA4 rfl; omega
              exact ⟨_, rfl, ⟨a3, _, ds, rfl, by omega, hv.less (fun i h => h.elim (fun h => .inl (by omega)) .inr), own_lessN ho hB1⟩, ApM.of_stp (turn_stp' h3) (fun q e => Nat.lt_of_lt_of_le (HB'.out q e) hB1)⟩
            rotate_left 1
            · intro x
              simp only [Act.put, List.setIfInBounds_toArray, List.set_cons_zero, List.set_cons_succ]; rfl
            intro x94
            refine wpR_rel (A' := ?_) (by rfl) ?_ ?_ ?_
            · intro w1 hs hf
              obtain ⟨a94, c94, ds, e94, ha94, hv94, ho94⟩ := AllF_at hf 0 rfl (by kernel_rfl)
              have e94 : x94 = .slice (some ⟨a94, 0, none⟩) m c94 := e94
              subst e94
              have hB1 : w5.heap.size ≤ w1.heap.size := hs.t.size
              have hrow := hs.keepRow (base := 0) (v := .slice A i cA) (show w5.drew.ownsRow 0 _ 2 (.slice A i cA) i _ from HFR.out) rfl hcap
              refine does_call (w' := w1) (f := 41) (args := #[.slice A n cA, .int .i64 (i : Int), .int .i64 (n : Int), .slice (some ⟨a94, 0, none⟩) m c94]) (by kernel_rfl) ((lreplace_any (ds := ds) A w1 hrow hil hcA HRS hB1 HB'.out a94 c94 (by rw [hv94.1, HL'.out]) (row_cells ho94 rfl) hv94.one hv94 hm0 (by omega)).mono ?_)
              rintro e w3 ⟨v', rfl, h3, h4⟩
              exact ⟨_, rfl, h3, h4⟩
            rotate_left 1
            · intro x
              simp only [Act.put, List.setIfInBounds_toArray, List.set_cons_zero, List.set_cons_succ]; rfl
            intro x95
            iterate 2
              refine wpR_one (A' := ?_) ApM.refl (by rfl) _ rfl 99 (by rfl) (by rfl) ?_ ?_ ?_
              rotate_left 1
              · simp only [Act.put, List.setIfInBounds_toArray, List.set_cons_zero, List.set_cons_succ]; rfl
              · intro w1 hs hf K hK
                go_big_quiet_op
                first
                  | go_big_quiet_on
                  | (refine ⟨_, fun _ _ => rfl, ?_⟩; go_big_quiet_on)
                rfl
            intro w9 hs9 hf9
            obtain ⟨⟨news, hnw, ho95, hx95, hv95⟩, -⟩ := hf9
            obtain ⟨g9, c9, rfl, hb9⟩ : ∃ g' c', x95 = .slice (some ⟨g', 0, none⟩) (i + m) c' ∧ ((Value.slice A i cA).ownBlock = some g' ∨ w5.heap.size ≤ g') := by
              rcases hv95 with ⟨q, e, rfl⟩ | ⟨q, cq, hq, rfl⟩
              · exact ⟨q, _, rfl, .inl e⟩
              · exact ⟨q, cq, rfl, .inr hq⟩
            have T9 : Turn (fun q => v.ownBlock = some q) w5 w9 := by rw [HROW.out]; exact ⟨hs9.t.os, hs9.t.tape, hs9.t.output, hs9.t.size, hs9.t.block⟩
            have hne9 : (Value.slice (some ⟨g9, 0, none⟩) (i + m) c9).ownBlock ≠ some g := fun e => by
              injection e with e
              have e : g9 = g := e
              rcases hb9 with e2 | e2
              · rw [e] at e2; exact hne' e2
              · have := HHR.out.lt; omega
            have hlen : (x.l.take i ++ l').length = i + m := by rw [List.length_append, List.length_take, HL'.out]; have := HXN.out; omega
            have hiv : ItV w9 (Nu w9) (x.l.take i ++ l') (cs.take (i * 2) ++ news) := ((HHR.out.turnRow T9 HCV.out).front i).app (ItV.less hnw (fun _ h => .inr h))
            obtain ⟨L1, L2, z2, y2⟩ := lat_store (x' := ⟨x.b, x.t, x.l.take i ++ l'⟩) HHR.out T9 hiv (by show w9.ownsRow 0 _ 2 _ (x.l.take i ++ l').length _; rw [hlen]; exact ho95) rfl rfl HOKJ.out hne9
            have HL1 := Lib.hid L1
            have HL2 := Lib.hid L2
            clear hs9 hv95 ho95 hx95 hnw T9 hiv L1 L2 S94 HRS
            go_wp2
            rw [Exit.noGoto_ret]
            go_ret2
            refine (show JPost g v x prev term its w (.returned (.tuple #[.int .i64 z, .bool true])) _ from ?_)
            unfold JPost
            rw [HJ.out]
            refine ⟨_, rfl, HL1.out, (HT5.out.mono (fun _ _ h => h.elim)).trans HL2.out (fun _ _ h => h), fun q hq => ?_⟩
            injection hq with hq
            have hq : g9 = q := hq
            rw [← hq]
            rcases hb9 with e | e
            · exact .inl (by rw [HROW.out]; exact e)
            · exact .inr (by have := HT5.out.size; omega)
          | false =>
            rw [hth] at TZ
            generalize x.tm z = t' at *
            have TZ := Lib.hid TZ
            clear he hth
            go_wp2_with (go_at_call 24; refine stop ?_)
            unfold Stop
            refine TZ.out.mono ?_
            rintro r w5 ⟨rfl, t5⟩
            have HT5 := Lib.hid (HT4.out.trans t5 (fun _ _ h => h))
            have HC5 := Lib.hid (t5.cell HC4.out (fun h => h))
            clear d0 d1 c0
            obtain ⟨⟨d0, d1⟩, -⟩ := ys_row (t5.heap HG4.out (fun h => h))
            have c0 := HC5.out
            clear t5
            have hzk : z - prev - 1 = (k : Int) := by have := HZ.out; omega
            have hl0 : (((n2 - k : Nat) : Int) == 0) = false := by rw [beq_eq_false_iff_ne]; omega
            have hl1 : ((n2 : Int) - (k : Int) == 0) = false := by rw [beq_eq_false_iff_ne]; omega
            go_upto_region 15 with fail
            obtain ⟨m, hm⟩ : ∃ m, m = n2 - k := ⟨_, rfl⟩
            have hm0 : 0 < m := by omega
            have hm9 : m ≤ 100000 := by omega
            have hc5 : m ≤ c2 - k := by omega
            rw [← hm]
            have HHR := Lib.hid (HH.out.quiet HT5.out)
            obtain ⟨cs, hcv, hco⟩ := HHR.out.o
            obtain ⟨A, cA, eV, hcA, hmA, hAA, -⟩ := row_slice hco
            have hn4 := HH.out.ok.n
            obtain ⟨n, hn⟩ : ∃ n, n = x.l.length := ⟨_, rfl⟩
            rw [← hn] at eV hco hcA hn4
            have hil : i ≤ n := by have := HIL.out; omega
            obtain ⟨-, -, c2'⟩ := HHR.out.cells
            have hne := HHR.out.ne
            have hB : ∀ q, (Value.slice A i cA).ownBlock = some q → q < w5.heap.size := fun q e => HHR.out.ltV (by rw [eV, slice_own A n i cA]; exact e)
            have hrow : v.ownBlock = (Value.slice A i cA).ownBlock := by rw [eV]; exact slice_own A n i cA
            have hne' : (Value.slice A i cA).ownBlock ≠ some g := by rw [← hrow]; exact hne
            obtain ⟨l', hl'⟩ : ∃ l, l = its.drop k := ⟨_, rfl⟩
            rw [← hl'] at HJ HOKJ
            have HL' := Lib.hid (show l'.length = m by rw [hl', List.length_drop]; have := HN2.out; omega)
            have HSRC := Lib.hid (show ∀ w1, Turn (fun q => (Value.slice A i cA).ownBlock = some q) w5 w1 → ItN w1 (fun _ => False) (some ⟨b, o + k * 2, none⟩) l' from fun w1 t => by
              have h1 := (HI.out.quiet HT5.out).turn (N' := fun _ => False) t (fun q e => HNW.out q (.inr (by rw [hrow]; exact e))) (fun _ _ h => h.elim)
              have h2 := h1.cut k its.length
              rwa [List.take_of_length_le (by rw [List.length_drop]; omega), ← hl'] at h2)
            have HLB := Lib.hid (show ∀ p ∈ l', p.b.length ≤ 8192 from fun q hq => (okIt_parts (HOKS.out q (List.mem_of_mem_drop (by rw [← hl']; exact hq)))).2.2)
            have HFR := Lib.hid (row_front (eV ▸ hco) hil)
            have HCV := Lib.hid hcv
            have HXN := Lib.hid hn
            have C2 := Lib.hid (show w5.cell? ⟨g, 2, none⟩ = some (.slice A n cA) by rw [c2', eV])
            have HB' := Lib.hid hB
            have EV := Lib.hid eV
            have HROW := Lib.hid hrow
            have HMC := Lib.hid hm
            have hcap : ∀ q n' cR, (Value.slice A i cA) = .slice (some ⟨q, 0, none⟩) n' cR → cR = cA := fun q n' cR e => by injection e with _ _ e; exact e.symm
            have HRS : ∀ (news : List Value) (w1 w2 : World), NewIs w5.heap.size l' news w1 → Turn (fun q => (Value.slice A i cA).ownBlock = some q) w1 w2 → NewIs w5.heap.size l' news w2 := fun news w1 w2 h t => h.turn t hB
            have S94 : ∀ (u : Value) (w1 w2 : World), CpI w5.heap.size m l' u w1 → ApM 36 2 i m cA (Value.slice A i cA).ownBlock (cs.take (i * 2)) (NewIs w5.heap.size l') w1 w2 → CpI w5.heap.size m l' u w2 := fun u w1 w2 h hs => h.turn hs.t hB
            have HXB := Lib.hid (And.intro HH.out.ok.b0 HH.out.ok.b1)
            have HZB := Lib.hid (show x.b < z ∧ z ≤ 10000000000000 from ⟨by omega, hz1.1⟩)
            clear hcv hco eV hmA hAA c2' hn hl' hrow hm hzk hl0 hl1 d0 d1 c0 hlk hne
            refine wp_region_rel_tail 18 99 (by kernel_rfl) (by kernel_rfl) (ApM 36 2 i m cA (Value.slice A i cA).ownBlock (cs.take (i * 2)) (NewIs w5.heap.size l')) [.one ?_, .one ?_, .one ?_, .one ?_, .one ?_, .one ?_, .one ?_, .one ?_, .one ?_, .one ?_, .one ?_, .one ?_, .one ?_, .one ?_, .rel (CpI w5.heap.size m l'), .rel (ApdM 36 2 i m cA w5.heap.size (Value.slice A i cA).ownBlock (cs.take (i * 2)) (NewIs w5.heap.size l')), .one ?_, .one ?_] (by kernel_rfl) rfl (by kernel_rfl) ApM.refl (ApM.trans HRS) ⟨S94, ApdM.stable HRS hB, trivial⟩ ?main
            case main =>
            simp only [List.take_succ_cons, List.take_zero, List.drop_succ_cons, List.drop_zero]
            iterate 4
              refine wpR_one (A' := ?_) ApM.refl (by rfl) _ rfl 99 (by rfl) (by rfl) ?_ ?_ ?_
              rotate_left 1
              · simp only [Act.put, List.setIfInBounds_toArray, List.set_cons_zero, List.set_cons_succ]; rfl
              · intro w1 hs hf K hK
                go_big_quiet_op
                first
                  | go_big_quiet_on
                  | (refine ⟨_, fun _ _ => rfl, ?_⟩; go_big_quiet_on)
                rfl
            refine wpR_one (A' := ?_) ApM.refl (by rfl) _ rfl 99 (by rfl) (by rfl) ?_ ?_ ?_
            rotate_left 1
            · simp only [Act.put, List.setIfInBounds_toArray, List.set_cons_zero, List.set_cons_succ]; rfl
            · intro w1 hs hf K hK
              refine cls_load_cell 27 (.tmp 83) rfl ⟨g, 2, none⟩ rfl (.slice A n cA) (fun w h => by simp [go_sem, h]) (fun w2 h2 => ((ApM.trans HRS) _ _ _ hs h2).t.cell (show w5.drew.cell? _ = _ from C2.out) hne') ?_
              refine hK _ ?_
              simp only [Act.put, List.setIfInBounds_toArray, List.set_cons_zero, List.set_cons_succ]
              rfl
            iterate 2
              refine wpR_one (A' := ?_) ApM.refl (by rfl) _ rfl 99 (by rfl) (by rfl) ?_ ?_ ?_
              rotate_left 1
              · simp only [Act.put, List.setIfInBounds_toArray, List.set_cons_zero, List.set_cons_succ]; rfl
              · intro w1 hs hf K hK
                go_big_quiet_op
                first
                  | go_big_quiet_on
                  | (refine ⟨_, fun _ _ => rfl, ?_⟩; go_big_quiet_on)
                rfl
            refine wpR_one (A' := ?_) ApM.refl (by rfl) _ rfl 99 (by rfl) (by rfl) ?_ ?_ ?_
            rotate_left 1
            · simp only [Act.put, List.setIfInBounds_toArray, List.set_cons_zero, List.set_cons_succ]; rfl
            · intro w1 hs hf K hK
              go_big_quiet_op
              apply Exists.intro
              refine ⟨fun w2 h2 => ?_, ?_⟩
              · have T2 := ((ApM.trans HRS) _ _ _ hs h2).t
                have TP := lplace_c g x.b z w2 (T2.cell (show w5.drew.cell? _ = _ from HC5.out) hne') HXB.out.1 HXB.out.2 HZB.out.1 HZB.out.2
                rw [HI2.out] at TP
                refine TP.mono ?_
                rintro e w3 ⟨rfl, h3⟩
                exact ⟨rfl, by rw [h3]; exact h2⟩
              · go_big_quiet_on
                rfl
            iterate 3
              refine wpR_one (A' := ?_) ApM.refl (by rfl) _ rfl 99 (by rfl) (by rfl) ?_ ?_ ?_
              rotate_left 1
              · simp only [Act.put, List.setIfInBounds_toArray, List.set_cons_zero, List.set_cons_succ]; rfl
              · intro w1 hs hf K hK
                go_big_quiet_op
                first
                  | go_big_quiet_on
                  | (refine ⟨_, fun _ _ => rfl, ?_⟩; go_big_quiet_on)
                rfl
            refine wpR_one (A' := ?_) ApM.refl (by rfl) _ rfl 99 (by rfl) (by rfl) ?_ ?_ ?_
            rotate_left 1
            · simp only [Act.put, List.setIfInBounds_toArray, List.set_cons_zero, List.set_cons_succ]; rfl
            · intro w1 hs hf K hK
              refine cls_load_cell 27 (.tmp 90) rfl ⟨g, 2, none⟩ rfl (.slice A n cA) (fun w h => by simp [go_sem, h]) (fun w2 h2 => ((ApM.trans HRS) _ _ _ hs h2).t.cell (show w5.drew.cell? _ = _ from C2.out) hne') ?_
              refine hK _ ?_
              simp only [Act.put, List.setIfInBounds_toArray, List.set_cons_zero, List.set_cons_succ]
              rfl
            iterate 2
              refine wpR_one (A' := ?_) ApM.refl (by rfl) _ rfl 99 (by rfl) (by rfl) ?_ ?_ ?_
              rotate_left 1
              · simp only [Act.put, List.setIfInBounds_toArray, List.set_cons_zero, List.set_cons_succ]; rfl
              · intro w1 hs hf K hK
                go_big_quiet_op
                first
                  | go_big_quiet_on
                  | (refine ⟨_, fun _ _ => rfl, ?_⟩; go_big_quiet_on)
                rfl
            refine wpR_rel (A' := ?_) (by rfl) ?_ ?_ ?_
            · intro w1 hs hf
              have hB1 : w5.heap.size ≤ w1.heap.size := hs.t.size
              have CP := lcopies_any _ (c2 - k) _ l' w1 (HSRC.out w1 (show Turn (fun q => (Value.slice A i cA).ownBlock = some q) w5 w1 from ⟨hs.t.os, hs.t.tape, hs.t.output, hs.t.size, hs.t.block⟩)) (by rw [HL'.out]; omega) HLB.out
              unfold CsPost at CP
              rw [HL'.out] at CP
              refine does_call (w' := w1) (f := 43) (args := #[.slice (some ⟨b, o + k * 2, none⟩) m (c2 - k)]) (by kernel_rfl) (CP.mono ?_)
              rintro e w3 ⟨A3, c3, ds, rfl, hv, ho, h3⟩
              obtain ⟨A4, c4, e4, hc4, -, hA4, hA5⟩ := row_slice ho
              injection e4 with e1 e2 e3
              subst e1 e3
              rcases hA5 with rfl | ⟨a3, rfl, ha3, -⟩
              · have := hA4 rfl; omega
              exact ⟨_, rfl, ⟨a3, _, ds, rfl, by omega, hv.less (fun i h => h.elim (fun h => .inl (by omega)) .inr), own_lessN ho hB1⟩, ApM.of_stp (turn_stp' h3) (fun q e => Nat.lt_of_lt_of_le (HB'.out q e) hB1)⟩
            rotate_left 1
            · intro x
              simp only [Act.put, List.setIfInBounds_toArray, List.set_cons_zero, List.set_cons_succ]; rfl
            intro x94
            refine wpR_rel (A' := ?_) (by rfl) ?_ ?_ ?_
            · intro w1 hs hf
              obtain ⟨a94, c94, ds, e94, ha94, hv94, ho94⟩ := AllF_at hf 0 rfl (by kernel_rfl)
              have e94 : x94 = .slice (some ⟨a94, 0, none⟩) m c94 := e94
              subst e94
              have hB1 : w5.heap.size ≤ w1.heap.size := hs.t.size
              have hrow := hs.keepRow (base := 0) (v := .slice A i cA) (show w5.drew.ownsRow 0 _ 2 (.slice A i cA) i _ from HFR.out) rfl hcap
              refine does_call (w' := w1) (f := 41) (args := #[.slice A n cA, .int .i64 (i : Int), .int .i64 (n : Int), .slice (some ⟨a94, 0, none⟩) m c94]) (by kernel_rfl) ((lreplace_any (ds := ds) A w1 hrow hil hcA HRS hB1 HB'.out a94 c94 (by rw [hv94.1, HL'.out]) (row_cells ho94 rfl) hv94.one hv94 hm0 (by omega)).mono ?_)
              rintro e w3 ⟨v', rfl, h3, h4⟩
              exact ⟨_, rfl, h3, h4⟩
            rotate_left 1
            · intro x
              simp only [Act.put, List.setIfInBounds_toArray, List.set_cons_zero, List.set_cons_succ]; rfl
            intro x95
            iterate 2
              refine wpR_one (A' := ?_) ApM.refl (by rfl) _ rfl 99 (by rfl) (by rfl) ?_ ?_ ?_
              rotate_left 1
              · simp only [Act.put, List.setIfInBounds_toArray, List.set_cons_zero, List.set_cons_succ]; rfl
              · intro w1 hs hf K hK
                go_big_quiet_op
                first
                  | go_big_quiet_on
                  | (refine ⟨_, fun _ _ => rfl, ?_⟩; go_big_quiet_on)
                rfl
            intro w9 hs9 hf9
            obtain ⟨⟨news, hnw, ho95, hx95, hv95⟩, -⟩ := hf9
            obtain ⟨g9, c9, rfl, hb9⟩ : ∃ g' c', x95 = .slice (some ⟨g', 0, none⟩) (i + m) c' ∧ ((Value.slice A i cA).ownBlock = some g' ∨ w5.heap.size ≤ g') := by
              rcases hv95 with ⟨q, e, rfl⟩ | ⟨q, cq, hq, rfl⟩
              · exact ⟨q, _, rfl, .inl e⟩
              · exact ⟨q, cq, rfl, .inr hq⟩
            have T9 : Turn (fun q => v.ownBlock = some q) w5 w9 := by rw [HROW.out]; exact ⟨hs9.t.os, hs9.t.tape, hs9.t.output, hs9.t.size, hs9.t.block⟩
            have hne9 : (Value.slice (some ⟨g9, 0, none⟩) (i + m) c9).ownBlock ≠ some g := fun e => by
              injection e with e
              have e : g9 = g := e
              rcases hb9 with e2 | e2
              · rw [e] at e2; exact hne' e2
              · have := HHR.out.lt; omega
            have hlen : (x.l.take i ++ l').length = i + m := by rw [List.length_append, List.length_take, HL'.out]; have := HXN.out; omega
            have hiv : ItV w9 (Nu w9) (x.l.take i ++ l') (cs.take (i * 2) ++ news) := ((HHR.out.turnRow T9 HCV.out).front i).app (ItV.less hnw (fun _ h => .inr h))
            obtain ⟨L1, L2, z2, y2⟩ := lat_store (x' := ⟨x.b, x.t, x.l.take i ++ l'⟩) HHR.out T9 hiv (by show w9.ownsRow 0 _ 2 _ (x.l.take i ++ l').length _; rw [hlen]; exact ho95) rfl rfl HOKJ.out hne9
            have HL1 := Lib.hid L1
            have HL2 := Lib.hid L2
            clear hs9 hv95 ho95 hx95 hnw T9 hiv L1 L2 S94 HRS
            go_wp2
            rw [Exit.noGoto_ret]
            go_ret2
            refine (show JPost g v x prev term its w (.returned (.tuple #[.int .i64 z, .bool true])) _ from ?_)
            unfold JPost
            rw [HJ.out]
            refine ⟨_, rfl, HL1.out, (HT5.out.mono (fun _ _ h => h.elim)).trans HL2.out (fun _ _ h => h), fun q hq => ?_⟩
            injection hq with hq
            have hq : g9 = q := hq
            rw [← hq]
            rcases hb9 with e | e
            · exact .inl (by rw [HROW.out]; exact e)
            · exact .inr (by have := HT5.out.size; omega)
    · obtain rfl : k = n2 := by omega
      have HJ := Lib.hid (Ln.join_none HH.out.ok HM.out HB.out (by rw [← HN2.out]; exact HF.out)).1
      have JS := jpost_same HH.out HJ.out HT.out
      generalize JPost g v x prev term its w = PP at *
      have JS := Lib.hid JS
      have hc9 : k ≤ c2 := hc2
      cases A2 with
      | none =>
        have h0 := ha2 rfl
        subst h0
        obtain rfl : k = 0 := by omega
        go_wp2
        exact JS.out
      | some a =>
        rcases Nat.lt_or_ge k c2 with hkc | hkc
        · go_wp2
          exact JS.out
        · obtain rfl : k = c2 := by omega
          go_wp2
          exact JS.out
end Go.Proofs.Ytgjplbanfnomkaa
