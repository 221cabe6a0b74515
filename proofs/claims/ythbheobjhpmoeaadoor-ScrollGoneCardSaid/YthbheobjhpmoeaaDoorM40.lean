/- Merged: The landed scan: its contract. -/
import Derived.Test.YthbheobjhpmoeaaDoorM39
import Derived.WalkMore
namespace Go.Proofs.YthbheobjhpmoeaaDoor
section
set_option linter.unusedVariables false
set_option linter.unusedSimpArgs false
open Go.RowKit
set_option maxRecDepth 100000
def lenS13 (v : Value) : Nat := match v with | .slice _ k _ => k | _ => 0
set_option maxHeartbeats 16000000 in
theorem lscan_any (N : Nat → Prop) (A : Option Addr) (c : Nat) (l : List B8) (T : Nat) (w : World) (hG : Glob w) (hs : SlN w N A (l.map bv)) (hA : A = none → c = 0) (hc : l.length ≤ c) (hlen : l.length ≤ 1000000) :
    Calls Tryd.prog 41 #[.slice A l.length c, .int .i64 (T : Int)] w fun r w' => ∃ A' c' A2 c2, r = .returned (.tuple #[.slice A' (scanN l T 0).1.length c', .slice A2 (l.length - 64 * (scanN l T 0).2) c2]) ∧ LstQ w' (fun k => k < w.heap.size) A' (scanN l T 0).1 ∧ (A' = none → c' = 0) ∧ (scanN l T 0).1.length ≤ c' ∧
      SlN w' (fun k => N k ∨ w.heap.size ≤ k) A2 ((l.drop (64 * (scanN l T 0).2)).map bv) ∧ (A2 = none → c2 = 0) ∧ l.length - 64 * (scanN l T 0).2 ≤ c2 ∧ Turn (fun _ => False) w w' := by
  obtain ⟨i0, hi, hz0, hz1, hz2⟩ := info_parts info_sl
  have KR := Lib.hid (show (Tryd.prog.info? 91).map (·.size) = some ZRd.size ∧ ZRd.all (·.oneCell') = true from ⟨by kernel_rfl, by simp [ZRd, Value.oneCell']⟩)
  have SL := Lib.hid (hs.turn (N' := fun k => N k ∨ w.heap.size ≤ k) (Turn.refl (fun _ => False) _) (fun _ h => h.elim) (fun i hi h => h.elim id (fun h' => by omega)))
  have HG := Lib.hid hG
  have AC := Lib.hid (And.intro hA hc)
  obtain ⟨n, hn⟩ : ∃ n, n = l.length := ⟨_, rfl⟩
  rw [← hn] at hlen hc ⊢
  have HNL := Lib.hid hn
  obtain ⟨E, hE⟩ : ∃ E, E = scanN l T 0 := ⟨_, rfl⟩
  rw [← hE]
  have HE := Lib.hid hE
  clear hs hA hn hE hG
  go_enter Tryd.func41, Tryd.ntmps41
  go_wp2
  apply wp_scope_straight
  go_wp2
  apply wp_label
  go_wp2
  go_loopw [0, 6] (fun lv v wr => ∃ (xs : List (List B8)) (vs : List Value) (u : Nat) (A2 : Option Addr) (c2 : Nat), lv = .slice A2 (n - 64 * u) c2 ∧ 64 * u ≤ n ∧ xs.length ≤ u ∧ Srow wr w.heap.size v xs.length vs ∧ TxtV wr (fun k => k < w.heap.size ∨ v.ownBlock = some k) xs vs ∧ E = (xs ++ (scanN (l.drop (64 * u)) T xs.length).1, u + (scanN (l.drop (64 * u)) T xs.length).2) ∧ SlN wr (fun k => N k ∨ w.heap.size ≤ k) A2 ((l.drop (64 * u)).map bv) ∧ (A2 = none → c2 = 0) ∧ n - 64 * u ≤ c2 ∧ Turn (fun _ => False) w wr) (fun lv _ _ => lenS13 lv)
  case atStart => exact ⟨[], [], 0, A, c, rfl, by omega, by simp, World.ownsRow_nil _ _ _ _, ⟨rfl, fun i x h => by simp at h⟩, by rw [HE.out]; simp, SL.out, AC.out.1, by omega, Turn.refl _ _⟩
  case round =>
    obtain ⟨xs, vs, u, A2, c2, rfl, hun, hxu, ho, hv, he, hs2, ha2, hc2, ht⟩ := hrel
    obtain ⟨Av, cv, rfl, -, -, hcv, hav⟩ := own_sl (show wr.ownsRow _ _ _ _ _ _ from ho)
    have HO := Lib.hid (show wr.ownsRow w.heap.size 22 1 (.slice Av xs.length cv) xs.length vs from ho)
    have HV := Lib.hid hv
    have HEE := Lib.hid he
    have HT := Lib.hid ht
    have AV := Lib.hid (And.intro hcv hav)
    have hsz := ht.size
    obtain ⟨l2, hl2⟩ : ∃ x, x = l.drop (64 * u) := ⟨_, rfl⟩
    have hn2 : l2.length = n - 64 * u := by rw [hl2, List.length_drop, ← HNL.out]
    rw [← hl2] at hs2
    have SL2 := Lib.hid hs2
    have A2C := Lib.hid (And.intro ha2 hc2)
    have RD := lfirst_any A2 c2 l2 wr (glob_turn HG.out ht) hs2.sl ha2 (by rw [hn2]; exact hc2) (by rw [hn2]; omega)
    rw [hn2] at RD
    have RD := Lib.hid RD
    rw [← hl2] at HEE
    have HL2 := Lib.hid hl2
    have HN2 := Lib.hid hn2
    clear ho hv he ht hcv hav hl2 hs2 ha2 hn2
    obtain ⟨W3, eW3⟩ : ∃ W3, W3 = wr := ⟨_, rfl⟩
    subst eW3
    go_wp2_with (go_at_call 44; refine stop ?_)
    unfold Stop
    refine RD.out.mono ?_
    rintro r wa hp
    unfold LfPost at hp
    clear RD
    cases hr : readS l2 with
    | none =>
      rw [hr] at hp
      obtain ⟨rfl, ta⟩ := hp
      have HE0 := Lib.hid (show E = (xs, u) by rw [HEE.out, scanN_none hr, List.append_nil]; rfl)
      clear hr HEE
      have HA := Lib.hid (show (wa.alloc (.cells ZRd 91)).heap[wa.heap.size]? = some (.cells ZRd 91 (0, 0)) from heap_alloc_new _ _)
      go_upto_region 3 with (refine wpList_store_row rfl _ _ _ rfl wa.heap.size ZRd rfl rfl 91 ZRd HA.out KR.out.1 rfl KR.out.2 ?_)
      obtain ⟨wb, hw⟩ : ∃ w', w' = (wa.alloc (.cells ZRd 91)).setRow wa.heap.size ZRd := ⟨_, rfl⟩
      have tt : Turn (fun _ => False) W3 wb := by rw [hw]; exact ta.trans (((Turn.refl (fun _ => False) wa).alloc _).setRow _ _ (fun h => by omega)) (fun _ _ h => h)
      obtain ⟨Q, hQ⟩ : ∃ Q, Q = wa.heap.size := ⟨_, rfl⟩
      change Code.wp _ _ _ _ ((wa.alloc (.cells ZRd 91)).setRow wa.heap.size ZRd)
      rw [← hw, ← hQ]
      have TT := Lib.hid tt
      clear hw hQ HA ta tt
      go_wp2
      rw [Exit.noGoto_ret]
      refine bodyPost_ret (results_tmp2 rfl _ _ _) rfl ?_
      refine ⟨Av, cv, A2, c2, by rw [HE0.out]; rfl, ?_, AV.out.2, by rw [HE0.out]; exact AV.out.1, ?_, A2C.out.1, by rw [HE0.out]; exact A2C.out.2, HT.out.trans TT.out (fun _ _ h => h)⟩
      · rw [HE0.out]
        exact ((HV.out.turn (N' := fun k => k < w.heap.size) TT.out (fun _ h => h.elim) (fun i _ h => .inl h)).lst (own_sln (own_turn TT.out HO.out (fun _ _ h => h)) (fun _ h => h)))
      · rw [HE0.out, ← HL2.out]
        exact SL2.out.turn TT.out (fun _ h => h.elim) (fun _ _ h => h)
    | some x =>
      rw [hr] at hp
      obtain ⟨⟨Ab, cb, rfl, sb, hab, hcb⟩, ta⟩ := hp
      obtain ⟨rs1, rs2, rs3⟩ := readS_size hr
      have HR := Lib.hid hr
      obtain ⟨xt, hxt⟩ : ∃ y, y = x.t := ⟨_, rfl⟩
      obtain ⟨xn, hxn⟩ : ∃ y, y = x.n := ⟨_, rfl⟩
      obtain ⟨xz, hxz⟩ : ∃ y, y = x.size := ⟨_, rfl⟩
      obtain ⟨xb, hxb⟩ : ∃ y, y = x.b := ⟨_, rfl⟩
      rw [← hxb] at sb hcb
      rw [← hxz] at rs1 rs2 rs3
      rw [HN2.out] at rs2
      rw [← hxt, ← hxn, ← hxz, ← hxb]
      obtain ⟨lb, hlb⟩ : ∃ y, y = xb.length := ⟨_, rfl⟩
      rw [← hlb] at hcb ⊢
      obtain ⟨zz, hzz⟩ : ∃ y, y = 64 * xz := ⟨_, rfl⟩
      rw [← hzz] at rs1 rs2 ⊢
      have HZZ := Lib.hid hzz
      have HXT := Lib.hid hxt
      have HXN := Lib.hid hxn
      have HXZ := Lib.hid hxz
      have HXB := Lib.hid hxb
      have HLB := Lib.hid hlb
      have AB := Lib.hid (And.intro hab hcb)
      have hz1' : 64 ≤ zz := by omega
      obtain ⟨CR, hCR⟩ : ∃ CR : Array Value, CR = #[.int .i64 (xt : Int), .int .i64 (xn : Int), .slice Ab lb cb] := ⟨_, rfl⟩
      have KC := Lib.hid (show (Tryd.prog.info? 91).map (·.size) = some CR.size ∧ ZRd.size = CR.size ∧ CR.all (·.oneCell') = true by rw [hCR]; exact ⟨by kernel_rfl, rfl, by simp [Value.oneCell']⟩)
      rw [← hCR]
      have HCR := Lib.hid hCR
      clear hr hxt hxn hxz hxb hlb hCR hab hcb hzz rs1
      have HA := Lib.hid (show (wa.alloc (.cells ZRd 91)).heap[wa.heap.size]? = some (.cells ZRd 91 (0, 0)) from heap_alloc_new _ _)
      go_upto_region 3 with (refine wpList_store_row rfl _ _ _ rfl wa.heap.size CR rfl rfl 91 ZRd HA.out KC.out.1 KC.out.2.1 KC.out.2.2 ?_)
      obtain ⟨wb, hw⟩ : ∃ w', w' = (wa.alloc (.cells ZRd 91)).setRow wa.heap.size CR := ⟨_, rfl⟩
      have tt : Turn (fun _ => False) W3 wb := by rw [hw]; exact ta.trans (((Turn.refl (fun _ => False) wa).alloc _).setRow _ _ (fun h => by omega)) (fun _ _ h => h)
      obtain ⟨Q, hQ⟩ : ∃ Q, Q = wa.heap.size := ⟨_, rfl⟩
      have HQ := Lib.hid (show wb.heap[Q]? = some (.cells CR 91 (0, 0)) from by rw [hw, hQ]; exact setRow_heap _ _ _ _ _ _ HA.out)
      change Code.wp _ _ _ _ ((wa.alloc (.cells ZRd 91)).setRow wa.heap.size CR)
      rw [← hw, ← hQ]
      have QB : W3.heap.size ≤ Q := by rw [hQ]; exact ta.size
      have TT := Lib.hid tt
      have tz : Turn (fun _ => False) wa wb := by rw [hw]; exact ((Turn.refl (fun _ => False) wa).alloc _).setRow _ _ (fun h => by omega)
      have SB := Lib.hid (show SlN wb (fun k => k < W3.heap.size) Ab (xb.map bv) from sb.turn tz (fun _ h => h.elim) (fun _ _ h => h))
      clear hw hQ HA ta tt sb
      have k0 : wb.cell? ⟨Q, 0, none⟩ = some (.int .i64 (xt : Int)) := by rw [cell_of_row _ _ _ _ _ _ HQ.out, HCR.out]; rfl
      have k1 : wb.cell? ⟨Q, 1, none⟩ = some (.int .i64 (xn : Int)) := by rw [cell_of_row _ _ _ _ _ _ HQ.out, HCR.out]; rfl
      have k2 : wb.cell? ⟨Q, 2, none⟩ = some (.slice Ab lb cb) := by rw [cell_of_row _ _ _ _ _ _ HQ.out, HCR.out]; rfl
      by_cases hxt : xt = T
      rotate_left 1
      · have HE0 := Lib.hid (show E = (xs, u) by rw [HEE.out, scanN_other HR.out (.inl (by rw [← HXT.out]; exact hxt)), List.append_nil]; rfl)
        have dt : ((xt : Int) != (T : Int)) = true := by rw [bne_iff_ne]; omega
        clear hxt HEE
        go_wp2
        rw [Exit.noGoto_ret]
        refine bodyPost_ret (results_tmp2 rfl _ _ _) rfl ?_
        refine ⟨Av, cv, A2, c2, by rw [HE0.out]; rfl, ?_, AV.out.2, by rw [HE0.out]; exact AV.out.1, ?_, A2C.out.1, by rw [HE0.out]; exact A2C.out.2, HT.out.trans TT.out (fun _ _ h => h)⟩
        · rw [HE0.out]
          exact ((HV.out.turn (N' := fun k => k < w.heap.size) TT.out (fun _ h => h.elim) (fun i _ h => .inl h)).lst (own_sln (own_turn TT.out HO.out (fun _ _ h => h)) (fun _ h => h)))
        · rw [HE0.out, ← HL2.out]
          exact SL2.out.turn TT.out (fun _ h => h.elim) (fun _ _ h => h)
      have dt : ((xt : Int) != (T : Int)) = false := by rw [bne_eq_false_iff_eq]; omega
      by_cases hxn : xn = xs.length
      rotate_left 1
      · have HE0 := Lib.hid (show E = (xs, u) by rw [HEE.out, scanN_other HR.out (.inr (by rw [← HXN.out]; exact hxn)), List.append_nil]; rfl)
        have dn : ((xn : Int) != (xs.length : Int)) = true := by rw [bne_iff_ne]; omega
        clear hxt hxn HEE
        go_wp2
        rw [Exit.noGoto_ret]
        refine bodyPost_ret (results_tmp2 rfl _ _ _) rfl ?_
        refine ⟨Av, cv, A2, c2, by rw [HE0.out]; rfl, ?_, AV.out.2, by rw [HE0.out]; exact AV.out.1, ?_, A2C.out.1, by rw [HE0.out]; exact A2C.out.2, HT.out.trans TT.out (fun _ _ h => h)⟩
        · rw [HE0.out]
          exact ((HV.out.turn (N' := fun k => k < w.heap.size) TT.out (fun _ h => h.elim) (fun i _ h => .inl h)).lst (own_sln (own_turn TT.out HO.out (fun _ _ h => h)) (fun _ h => h)))
        · rw [HE0.out, ← HL2.out]
          exact SL2.out.turn TT.out (fun _ h => h.elim) (fun _ _ h => h)
      have dn : ((xn : Int) != (xs.length : Int)) = false := by rw [bne_eq_false_iff_eq]; omega
      have HNX := Lib.hid (show E = (xs ++ [xb] ++ (scanN (l.drop (64 * (u + xz))) T (xs ++ [xb]).length).1, u + xz + (scanN (l.drop (64 * (u + xz))) T (xs ++ [xb]).length).2) from by
        have h := scanN_some HR.out
        rw [← HXT.out, ← HXN.out, ← HXZ.out, ← HXB.out, hxt, hxn, HL2.out, List.drop_drop] at h
        rw [HEE.out, HL2.out, h]
        rw [List.length_append, List.length_singleton, show 64 * u + 64 * xz = 64 * (u + xz) by omega]
        simp [Nat.add_assoc])
      have HXS := Lib.hid hxn
      have hsb := TT.out.size
      have hO := own_turn TT.out HO.out (fun _ _ h => h)
      have O4 := Lib.hid hO
      have hx15 : xs.length ≤ 1000000 := by omega
      have hwsz : w.heap.size ≤ W3.heap.size := hsz
      clear hxt hxn HEE hO
      go_upto_region 6 with fail
      go_step
      iterate 12 go_step
      refine wpList_append_any_at (o := ⟨some 32, _, _, _, _, _⟩) rfl _ _ 36 rfl w.heap.size 22 i0 (.slice none 0 0) 24 Tryd.underlying36 hi hz0 hz1 hz2 rfl _ xs.length vs rfl (O4.out.alloc _) (some ⟨wb.heap.size, 0, none⟩) 1 1 [.slice Ab lb cb] rfl (fun h => by cases h) rfl ?_ (one_slice Ab lb cb) ?_ ?_ ?_ ?_
      · intro j u hu
        exact ⟨_, rfl, World.news_of_block (heap_alloc_new wb (.cells #[.slice Ab lb cb] 22)) j u hu⟩
      · unfold maxLen; omega
      · omega
      · simp; omega
      intro v9 w9 own9 gr9 at9
      have t9 : Turn (fun i => some i = (Value.slice Av xs.length cv).ownBlock) wb w9 := (((Turn.refl _ wb).alloc (.cells #[.slice Ab lb cb] 22)).grown gr9 (fun i hi e => e))
      have hv9 : TxtV w9 (fun k => k < w.heap.size ∨ v9.ownBlock = some k) (xs ++ [xb]) (vs ++ [.slice Ab lb cb]) := by
        have h := (HV.out.turn TT.out (fun _ h => h.elim) (fun _ _ h => h)).add (x := xb) (by rw [← HLB.out]; exact AB.out.2) AB.out.1 (SB.out.turn (Turn.refl (fun _ => False) _) (fun _ h => h.elim) (fun k _ h => by
          rcases h with h | h
          · show k < W3.heap.size; omega
          · exact (HO.out.lt k h).2))
        rw [← HLB.out] at h
        refine h.turn t9 (fun i e => .inr e.symm) (fun k hk h => ?_)
        rcases h with h | h
        · exact .inl h
        · rcases at9 with e | e
          · exact .inr (e.symm.trans h)
          · rw [e] at h
            injection h with h
            simp at h
            omega
      have HV9 := Lib.hid hv9
      have hT9 : Turn (fun _ => False) W3 w9 → True := fun _ => trivial
      have T9 := Lib.hid ((HT.out.trans TT.out (fun _ _ h => h)).trans t9 (fun i hi e => by have := (O4.out.lt i e.symm).1; omega))
      have HO9 := Lib.hid (show Srow w9 w.heap.size v9 (xs ++ [xb]).length (vs ++ [.slice Ab lb cb]) from by rw [List.length_append]; exact own9)
      have hxl : (xs ++ [xb]).length = xs.length + 1 := by rw [List.length_append]; rfl
      have hmz : 64 * (u + xz) ≤ n := by have := HZZ.out; omega
      have hzn : zz ≤ n - 64 * u := rs2
      obtain ⟨A3, hA3⟩ : ∃ x, x = cutA A2 c2 zz := ⟨_, rfl⟩
      obtain ⟨c3, hc3⟩ : ∃ x, x = c2 - zz := ⟨_, rfl⟩
      have SLI : ∀ w, (Instr.slice 22 (.slice A2 (n - 64 * u) c2) (some (.int .i64 (zz : Int))) none none).run Tryd.prog w = .ok (.slice A3 (n - 64 * (u + xz)) c3) w := fun w => by
        rw [run_slice_l (P := Tryd.prog) w 22 A2 (n - 64 * u) c2 (by kernel_rfl) .i64 (zz : Int) (by omega) (by omega)]
        rw [show Tryd.prog.elem 22 = 5 by kernel_rfl, size_u8]
        simp only [Result.andThen, sliced, hA3, hc3, cutA, Nat.mul_one, Int.toNat_natCast]
        rw [show n - 64 * u - zz = n - 64 * (u + xz) by have := HZZ.out; omega]
      have SL3 := Lib.hid (show SlN w9 (fun k => N k ∨ w.heap.size ≤ k) A3 ((l.drop (64 * (u + xz))).map bv) from by
        have h := sln_cut ((SL2.out.turn TT.out (N' := fun k => N k ∨ w.heap.size ≤ k) (fun _ h => h.elim) (fun _ _ h => h)).turn t9 (N' := fun k => N k ∨ w.heap.size ≤ k) (fun i e => .inr (O4.out.lt i e.symm).1) (fun _ _ h => h)) c2 zz (by rw [HN2.out]; exact A2C.out.2)
        rw [HL2.out, List.drop_drop, HZZ.out, show 64 * u + 64 * xz = 64 * (u + xz) by omega, ← HZZ.out, ← hA3] at h
        exact h)
      have A3C := Lib.hid (show (A3 = none → c3 = 0) ∧ n - 64 * (u + xz) ≤ c3 from ⟨by rw [hA3, hc3]; exact cut_none A2C.out.1, by rw [hc3]; have := A2C.out.2; have := HZZ.out; omega⟩)
      clear own9 gr9 at9 t9 k0 k1 k2 hv9 dt dn HO HV O4 SB TT HT hsb hT9 hA3 hc3 SL2
      go_wp2
      go_roundw
      case rel => exact ⟨xs ++ [xb], vs ++ [.slice Ab lb cb], u + xz, A3, c3, rfl, hmz, by omega, HO9.out, HV9.out, HNX.out, SL3.out, A3C.out.1, A3C.out.2, T9.out⟩
      case measure => simp [lenS13]; omega
end
end Go.Proofs.YthbheobjhpmoeaaDoor
