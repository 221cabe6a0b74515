/- Merged: The landed scan and Open once more: the list's own row is told. The landed scroll's Fits. The document's Change. The document's Fresh. -/
import Derived.Test.YtfiopkehpcipdaaDoorM41
import Derived.WalkMore
import Derived.Test.YtfiopkehpcipdaaDoorM40
namespace Go.Proofs.YtfiopkehpcipdaaDoor
section
set_option linter.unusedVariables false
set_option linter.unusedSimpArgs false
open Go.RowKit
set_option maxRecDepth 100000
set_option maxHeartbeats 16000000 in
theorem lscanO_any (N : Nat → Prop) (A : Option Addr) (c : Nat) (l : List B8) (T : Nat) (w : World) (hG : Glob w) (hs : SlN w N A (l.map bv)) (hA : A = none → c = 0) (hc : l.length ≤ c) (hlen : l.length ≤ 1000000) :
    Calls Tryd.prog 74 #[.slice A l.length c, .int .i64 (T : Int)] w fun r w' => ∃ A' c' A2 c2, r = .returned (.tuple #[.slice A' (scanN l T 0).1.length c', .slice A2 (l.length - 64 * (scanN l T 0).2) c2]) ∧ (∃ vs, w'.ownsRow w.heap.size 36 1 (.slice A' (scanN l T 0).1.length c') (scanN l T 0).1.length vs ∧ TxtV w' (fun k => k < w.heap.size ∨ (Value.slice A' (scanN l T 0).1.length c').ownBlock = some k) (scanN l T 0).1 vs) ∧ (A' = none → c' = 0) ∧ (scanN l T 0).1.length ≤ c' ∧
      SlN w' (fun k => N k ∨ w.heap.size ≤ k) A2 ((l.drop (64 * (scanN l T 0).2)).map bv) ∧ (A2 = none → c2 = 0) ∧ l.length - 64 * (scanN l T 0).2 ≤ c2 ∧ Turn (fun _ => False) w w' := by
  obtain ⟨i0, hi, hz0, hz1, hz2⟩ := info_parts info_sl
  have KR := Lib.hid (show (Tryd.prog.info? 124).map (·.size) = some ZRd.size ∧ ZRd.all (·.oneCell') = true from ⟨by kernel_rfl, by simp [ZRd, Value.oneCell']⟩)
  have SL := Lib.hid (hs.turn (N' := fun k => N k ∨ w.heap.size ≤ k) (Turn.refl (fun _ => False) _) (fun _ h => h.elim) (fun i hi h => h.elim id (fun h' => by omega)))
  have HG := Lib.hid hG
  have AC := Lib.hid (And.intro hA hc)
  obtain ⟨n, hn⟩ : ∃ n, n = l.length := ⟨_, rfl⟩
  rw [← hn] at hlen hc ⊢
  have HNL := Lib.hid hn
  obtain ⟨E, hE⟩ : ∃ E, E = scanN l T 0 := ⟨_, rfl⟩
  rw [← hE]
  have HE := Lib.hid hE
  clear hs hA hn hE hG
  go_enter Tryd.func74, Tryd.ntmps74
  go_wp2
  apply wp_scope_straight
  go_wp2
  apply wp_label
  go_wp2
  go_loopw [0, 6] (fun lv v wr => ∃ (xs : List (List B8)) (vs : List Value) (u : Nat) (A2 : Option Addr) (c2 : Nat), lv = .slice A2 (n - 64 * u) c2 ∧ 64 * u ≤ n ∧ xs.length ≤ u ∧ Srow wr w.heap.size v xs.length vs ∧ TxtV wr (fun k => k < w.heap.size ∨ v.ownBlock = some k) xs vs ∧ E = (xs ++ (scanN (l.drop (64 * u)) T xs.length).1, u + (scanN (l.drop (64 * u)) T xs.length).2) ∧ SlN wr (fun k => N k ∨ w.heap.size ≤ k) A2 ((l.drop (64 * u)).map bv) ∧ (A2 = none → c2 = 0) ∧ n - 64 * u ≤ c2 ∧ Turn (fun _ => False) w wr) (fun lv _ _ => lenS13 lv)
  case atStart => exact ⟨[], [], 0, A, c, rfl, by omega, by simp, World.ownsRow_nil _ _ _ _, ⟨rfl, fun i x h => by simp at h⟩, by rw [HE.out]; simp, SL.out, AC.out.1, by omega, Turn.refl _ _⟩
  case round =>
    obtain ⟨xs, vs, u, A2, c2, rfl, hun, hxu, ho, hv, he, hs2, ha2, hc2, ht⟩ := hrel
    obtain ⟨Av, cv, rfl, -, -, hcv, hav⟩ := own_sl (show wr.ownsRow _ _ _ _ _ _ from ho)
    have HO := Lib.hid (show wr.ownsRow w.heap.size 36 1 (.slice Av xs.length cv) xs.length vs from ho)
    have HV := Lib.hid hv
    have HEE := Lib.hid he
    have HT := Lib.hid ht
    have AV := Lib.hid (And.intro hcv hav)
    have hsz := ht.size
    obtain ⟨l2, hl2⟩ : ∃ x, x = l.drop (64 * u) := ⟨_, rfl⟩
    have hn2 : l2.length = n - 64 * u := by rw [hl2, List.length_drop, ← HNL.out]
    rw [← hl2] at hs2
    have SL2 := Lib.hid hs2
    have A2C := Lib.hid (And.intro ha2 hc2)
    have RD := lfirst_any A2 c2 l2 wr (glob_turn HG.out ht) hs2.sl ha2 (by rw [hn2]; exact hc2) (by rw [hn2]; omega)
    rw [hn2] at RD
    have RD := Lib.hid RD
    rw [← hl2] at HEE
    have HL2 := Lib.hid hl2
    have HN2 := Lib.hid hn2
    clear ho hv he ht hcv hav hl2 hs2 ha2 hn2
    obtain ⟨W3, eW3⟩ : ∃ W3, W3 = wr := ⟨_, rfl⟩
    subst eW3
    go_wp2_with (go_at_call 72; refine stop ?_)
    unfold Stop
    refine RD.out.mono ?_
    rintro r wa hp
    unfold LfPost at hp
    clear RD
    cases hr : readS l2 with
    | none =>
      rw [hr] at hp
      obtain ⟨rfl, ta⟩ := hp
      have HE0 := Lib.hid (show E = (xs, u) by rw [HEE.out, scanN_none hr, List.append_nil]; rfl)
      clear hr HEE
      have HA := Lib.hid (show (wa.alloc (.cells ZRd 124)).heap[wa.heap.size]? = some (.cells ZRd 124 (0, 0)) from heap_alloc_new _ _)
      go_upto_region 3 with (refine wpList_store_row rfl _ _ _ rfl wa.heap.size ZRd rfl rfl 124 ZRd HA.out KR.out.1 rfl KR.out.2 ?_)
      obtain ⟨wb, hw⟩ : ∃ w', w' = (wa.alloc (.cells ZRd 124)).setRow wa.heap.size ZRd := ⟨_, rfl⟩
      have tt : Turn (fun _ => False) W3 wb := by rw [hw]; exact ta.trans (((Turn.refl (fun _ => False) wa).alloc _).setRow _ _ (fun h => by omega)) (fun _ _ h => h)
      obtain ⟨Q, hQ⟩ : ∃ Q, Q = wa.heap.size := ⟨_, rfl⟩
      change Code.wp _ _ _ _ ((wa.alloc (.cells ZRd 124)).setRow wa.heap.size ZRd)
      rw [← hw, ← hQ]
      have TT := Lib.hid tt
      clear hw hQ HA ta tt
      go_wp2
      rw [Exit.noGoto_ret]
      refine bodyPost_ret (results_tmp2 rfl _ _ _) rfl ?_
      refine ⟨Av, cv, A2, c2, by rw [HE0.out]; rfl, ?_, AV.out.2, by rw [HE0.out]; exact AV.out.1, ?_, A2C.out.1, by rw [HE0.out]; exact A2C.out.2, HT.out.trans TT.out (fun _ _ h => h)⟩
      · rw [HE0.out]
        exact ⟨vs, own_turn TT.out HO.out (fun _ _ h => h), HV.out.turn TT.out (fun _ h => h.elim) (fun i _ h => h)⟩
      · rw [HE0.out, ← HL2.out]
        exact SL2.out.turn TT.out (fun _ h => h.elim) (fun _ _ h => h)
    | some x =>
      rw [hr] at hp
      obtain ⟨⟨Ab, cb, rfl, sb, hab, hcb⟩, ta⟩ := hp
      obtain ⟨rs1, rs2, rs3⟩ := readS_size hr
      have HR := Lib.hid hr
      obtain ⟨xt, hxt⟩ : ∃ y, y = x.t := ⟨_, rfl⟩
      obtain ⟨xn, hxn⟩ : ∃ y, y = x.n := ⟨_, rfl⟩
      obtain ⟨xz, hxz⟩ : ∃ y, y = x.size := ⟨_, rfl⟩
      obtain ⟨xb, hxb⟩ : ∃ y, y = x.b := ⟨_, rfl⟩
      rw [← hxb] at sb hcb
      rw [← hxz] at rs1 rs2 rs3
      rw [HN2.out] at rs2
      rw [← hxt, ← hxn, ← hxz, ← hxb]
      obtain ⟨lb, hlb⟩ : ∃ y, y = xb.length := ⟨_, rfl⟩
      rw [← hlb] at hcb ⊢
      obtain ⟨zz, hzz⟩ : ∃ y, y = 64 * xz := ⟨_, rfl⟩
      rw [← hzz] at rs1 rs2 ⊢
      have HZZ := Lib.hid hzz
      have HXT := Lib.hid hxt
      have HXN := Lib.hid hxn
      have HXZ := Lib.hid hxz
      have HXB := Lib.hid hxb
      have HLB := Lib.hid hlb
      have AB := Lib.hid (And.intro hab hcb)
      have hz1' : 64 ≤ zz := by omega
      obtain ⟨CR, hCR⟩ : ∃ CR : Array Value, CR = #[.int .i64 (xt : Int), .int .i64 (xn : Int), .slice Ab lb cb] := ⟨_, rfl⟩
      have KC := Lib.hid (show (Tryd.prog.info? 124).map (·.size) = some CR.size ∧ ZRd.size = CR.size ∧ CR.all (·.oneCell') = true by rw [hCR]; exact ⟨by kernel_rfl, rfl, by simp [Value.oneCell']⟩)
      rw [← hCR]
      have HCR := Lib.hid hCR
      clear hr hxt hxn hxz hxb hlb hCR hab hcb hzz rs1
      have HA := Lib.hid (show (wa.alloc (.cells ZRd 124)).heap[wa.heap.size]? = some (.cells ZRd 124 (0, 0)) from heap_alloc_new _ _)
      go_upto_region 3 with (refine wpList_store_row rfl _ _ _ rfl wa.heap.size CR rfl rfl 124 ZRd HA.out KC.out.1 KC.out.2.1 KC.out.2.2 ?_)
      obtain ⟨wb, hw⟩ : ∃ w', w' = (wa.alloc (.cells ZRd 124)).setRow wa.heap.size CR := ⟨_, rfl⟩
      have tt : Turn (fun _ => False) W3 wb := by rw [hw]; exact ta.trans (((Turn.refl (fun _ => False) wa).alloc _).setRow _ _ (fun h => by omega)) (fun _ _ h => h)
      obtain ⟨Q, hQ⟩ : ∃ Q, Q = wa.heap.size := ⟨_, rfl⟩
      have HQ := Lib.hid (show wb.heap[Q]? = some (.cells CR 124 (0, 0)) from by rw [hw, hQ]; exact setRow_heap _ _ _ _ _ _ HA.out)
      change Code.wp _ _ _ _ ((wa.alloc (.cells ZRd 124)).setRow wa.heap.size CR)
      rw [← hw, ← hQ]
      have QB : W3.heap.size ≤ Q := by rw [hQ]; exact ta.size
      have TT := Lib.hid tt
      have tz : Turn (fun _ => False) wa wb := by rw [hw]; exact ((Turn.refl (fun _ => False) wa).alloc _).setRow _ _ (fun h => by omega)
      have SB := Lib.hid (show SlN wb (fun k => k < W3.heap.size) Ab (xb.map bv) from sb.turn tz (fun _ h => h.elim) (fun _ _ h => h))
      clear hw hQ HA ta tt sb
      have k0 : wb.cell? ⟨Q, 0, none⟩ = some (.int .i64 (xt : Int)) := by rw [cell_of_row _ _ _ _ _ _ HQ.out, HCR.out]; rfl
      have k1 : wb.cell? ⟨Q, 1, none⟩ = some (.int .i64 (xn : Int)) := by rw [cell_of_row _ _ _ _ _ _ HQ.out, HCR.out]; rfl
      have k2 : wb.cell? ⟨Q, 2, none⟩ = some (.slice Ab lb cb) := by rw [cell_of_row _ _ _ _ _ _ HQ.out, HCR.out]; rfl
      by_cases hxt : xt = T
      rotate_left 1
      · have HE0 := Lib.hid (show E = (xs, u) by rw [HEE.out, scanN_other HR.out (.inl (by rw [← HXT.out]; exact hxt)), List.append_nil]; rfl)
        have dt : ((xt : Int) != (T : Int)) = true := by rw [bne_iff_ne]; omega
        clear hxt HEE
        go_wp2
        rw [Exit.noGoto_ret]
        refine bodyPost_ret (results_tmp2 rfl _ _ _) rfl ?_
        refine ⟨Av, cv, A2, c2, by rw [HE0.out]; rfl, ?_, AV.out.2, by rw [HE0.out]; exact AV.out.1, ?_, A2C.out.1, by rw [HE0.out]; exact A2C.out.2, HT.out.trans TT.out (fun _ _ h => h)⟩
        · rw [HE0.out]
          exact ⟨vs, own_turn TT.out HO.out (fun _ _ h => h), HV.out.turn TT.out (fun _ h => h.elim) (fun i _ h => h)⟩
        · rw [HE0.out, ← HL2.out]
          exact SL2.out.turn TT.out (fun _ h => h.elim) (fun _ _ h => h)
      have dt : ((xt : Int) != (T : Int)) = false := by rw [bne_eq_false_iff_eq]; omega
      by_cases hxn : xn = xs.length
      rotate_left 1
      · have HE0 := Lib.hid (show E = (xs, u) by rw [HEE.out, scanN_other HR.out (.inr (by rw [← HXN.out]; exact hxn)), List.append_nil]; rfl)
        have dn : ((xn : Int) != (xs.length : Int)) = true := by rw [bne_iff_ne]; omega
        clear hxt hxn HEE
        go_wp2
        rw [Exit.noGoto_ret]
        refine bodyPost_ret (results_tmp2 rfl _ _ _) rfl ?_
        refine ⟨Av, cv, A2, c2, by rw [HE0.out]; rfl, ?_, AV.out.2, by rw [HE0.out]; exact AV.out.1, ?_, A2C.out.1, by rw [HE0.out]; exact A2C.out.2, HT.out.trans TT.out (fun _ _ h => h)⟩
        · rw [HE0.out]
          exact ⟨vs, own_turn TT.out HO.out (fun _ _ h => h), HV.out.turn TT.out (fun _ h => h.elim) (fun i _ h => h)⟩
        · rw [HE0.out, ← HL2.out]
          exact SL2.out.turn TT.out (fun _ h => h.elim) (fun _ _ h => h)
      have dn : ((xn : Int) != (xs.length : Int)) = false := by rw [bne_eq_false_iff_eq]; omega
      have HNX := Lib.hid (show E = (xs ++ [xb] ++ (scanN (l.drop (64 * (u + xz))) T (xs ++ [xb]).length).1, u + xz + (scanN (l.drop (64 * (u + xz))) T (xs ++ [xb]).length).2) from by
        have h := scanN_some HR.out
        rw [← HXT.out, ← HXN.out, ← HXZ.out, ← HXB.out, hxt, hxn, HL2.out, List.drop_drop] at h
        rw [HEE.out, HL2.out, h]
        rw [List.length_append, List.length_singleton, show 64 * u + 64 * xz = 64 * (u + xz) by omega]
        simp [Nat.add_assoc])
      have HXS := Lib.hid hxn
      have hsb := TT.out.size
      have hO := own_turn TT.out HO.out (fun _ _ h => h)
      have O4 := Lib.hid hO
      have hx15 : xs.length ≤ 1000000 := by omega
      have hwsz : w.heap.size ≤ W3.heap.size := hsz
      clear hxt hxn HEE hO
      go_upto_region 6 with fail
      go_step
      iterate 12 go_step
      refine wpList_append_any_at (o := ⟨some 32, _, _, _, _, _⟩) rfl _ _ 31 rfl w.heap.size 36 i0 (.slice none 0 0) 24 Tryd.underlying31 hi hz0 hz1 hz2 rfl _ xs.length vs rfl (O4.out.alloc _) (some ⟨wb.heap.size, 0, none⟩) 1 1 [.slice Ab lb cb] rfl (fun h => by cases h) rfl ?_ (one_slice Ab lb cb) ?_ ?_ ?_ ?_
      · intro j u hu
        exact ⟨_, rfl, World.news_of_block (heap_alloc_new wb (.cells #[.slice Ab lb cb] 36)) j u hu⟩
      · unfold maxLen; omega
      · omega
      · simp; omega
      intro v9 w9 own9 gr9 at9
      have t9 : Turn (fun i => some i = (Value.slice Av xs.length cv).ownBlock) wb w9 := (((Turn.refl _ wb).alloc (.cells #[.slice Ab lb cb] 36)).grown gr9 (fun i hi e => e))
      have hv9 : TxtV w9 (fun k => k < w.heap.size ∨ v9.ownBlock = some k) (xs ++ [xb]) (vs ++ [.slice Ab lb cb]) := by
        have h := (HV.out.turn TT.out (fun _ h => h.elim) (fun _ _ h => h)).add (x := xb) (by rw [← HLB.out]; exact AB.out.2) AB.out.1 (SB.out.turn (Turn.refl (fun _ => False) _) (fun _ h => h.elim) (fun k _ h => by
          rcases h with h | h
          · show k < W3.heap.size; omega
          · exact (HO.out.lt k h).2))
        rw [← HLB.out] at h
        refine h.turn t9 (fun i e => .inr e.symm) (fun k hk h => ?_)
        rcases h with h | h
        · exact .inl h
        · rcases at9 with e | e
          · exact .inr (e.symm.trans h)
          · rw [e] at h
            injection h with h
            simp at h
            omega
      have HV9 := Lib.hid hv9
      have hT9 : Turn (fun _ => False) W3 w9 → True := fun _ => trivial
      have T9 := Lib.hid ((HT.out.trans TT.out (fun _ _ h => h)).trans t9 (fun i hi e => by have := (O4.out.lt i e.symm).1; omega))
      have HO9 := Lib.hid (show Srow w9 w.heap.size v9 (xs ++ [xb]).length (vs ++ [.slice Ab lb cb]) from by rw [List.length_append]; exact own9)
      have hxl : (xs ++ [xb]).length = xs.length + 1 := by rw [List.length_append]; rfl
      have hmz : 64 * (u + xz) ≤ n := by have := HZZ.out; omega
      have hzn : zz ≤ n - 64 * u := rs2
      obtain ⟨A3, hA3⟩ : ∃ x, x = cutA A2 c2 zz := ⟨_, rfl⟩
      obtain ⟨c3, hc3⟩ : ∃ x, x = c2 - zz := ⟨_, rfl⟩
      have SLI : ∀ w, (Instr.slice 36 (.slice A2 (n - 64 * u) c2) (some (.int .i64 (zz : Int))) none none).run Tryd.prog w = .ok (.slice A3 (n - 64 * (u + xz)) c3) w := fun w => by
        rw [run_slice_l (P := Tryd.prog) w 36 A2 (n - 64 * u) c2 (by kernel_rfl) .i64 (zz : Int) (by omega) (by omega)]
        rw [show Tryd.prog.elem 36 = 5 by kernel_rfl, size_u8]
        simp only [Result.andThen, sliced, hA3, hc3, cutA, Nat.mul_one, Int.toNat_natCast]
        rw [show n - 64 * u - zz = n - 64 * (u + xz) by have := HZZ.out; omega]
      have SL3 := Lib.hid (show SlN w9 (fun k => N k ∨ w.heap.size ≤ k) A3 ((l.drop (64 * (u + xz))).map bv) from by
        have h := sln_cut ((SL2.out.turn TT.out (N' := fun k => N k ∨ w.heap.size ≤ k) (fun _ h => h.elim) (fun _ _ h => h)).turn t9 (N' := fun k => N k ∨ w.heap.size ≤ k) (fun i e => .inr (O4.out.lt i e.symm).1) (fun _ _ h => h)) c2 zz (by rw [HN2.out]; exact A2C.out.2)
        rw [HL2.out, List.drop_drop, HZZ.out, show 64 * u + 64 * xz = 64 * (u + xz) by omega, ← HZZ.out, ← hA3] at h
        exact h)
      have A3C := Lib.hid (show (A3 = none → c3 = 0) ∧ n - 64 * (u + xz) ≤ c3 from ⟨by rw [hA3, hc3]; exact cut_none A2C.out.1, by rw [hc3]; have := A2C.out.2; have := HZZ.out; omega⟩)
      clear own9 gr9 at9 t9 k0 k1 k2 hv9 dt dn HO HV O4 SB TT HT hsb hT9 hA3 hc3 SL2
      go_wp2
      go_roundw
      case rel => exact ⟨xs ++ [xb], vs ++ [.slice Ab lb cb], u + xz, A3, c3, rfl, hmz, by omega, HO9.out, HV9.out, HNX.out, SL3.out, A3C.out.1, A3C.out.2, T9.out⟩
      case measure => simp [lenS13]; omega
set_option maxHeartbeats 4000000 in
theorem openO_any (w : World) (g n p m t : Nat) (d : Dr) (D : Nat → Prop) (h : LD w g n d D) (hoff : d.off = false) (hn : n ≤ 8192) (hp : p + m ≤ n) (ht : t ≤ mostS) (hW : d.W.length + m < 10000) :
    Calls Tryd.prog 53 #[.pointer (some ⟨g, 0, none⟩), .int .i64 (p : Int), .int .i64 (m : Int), .int .i64 (t : Int)] w fun r w' => ∃ D', LD w' g n (wipeR d (p + (scanN (cutD d p m) t 0).2) (m - (scanN (cutD d p m) t 0).2)).1 D' ∧ (∀ k, D' k → Dn D w w' k) ∧ Turn D w w' ∧ (((wipeR d (p + (scanN (cutD d p m) t 0).2) (m - (scanN (cutD d p m) t 0).2)).2 = 0 ∧ ∃ s A c E, r = .returned (.tuple #[.pointer (some ⟨s, 0, none⟩), .slice A (scanN (cutD d p m) t 0).1.length c, .int .i64 0]) ∧ Ats SBp w' g s n (wipeR d (p + (scanN (cutD d p m) t 0).2) (m - (scanN (cutD d p m) t 0).2)).1 ⟨p + (scanN (cutD d p m) t 0).2, p + m, t, (scanN (cutD d p m) t 0).1.length, false⟩ D' E ∧ (∃ vs, w'.ownsRow w.heap.size 36 1 (.slice A (scanN (cutD d p m) t 0).1.length c) (scanN (cutD d p m) t 0).1.length vs ∧ TxtV w' (fun k => k < w.heap.size ∨ D' k ∨ E k ∨ (Value.slice A (scanN (cutD d p m) t 0).1.length c).ownBlock = some k) (scanN (cutD d p m) t 0).1 vs ∧ ∀ k, (Value.slice A (scanN (cutD d p m) t 0).1.length c).ownBlock = some k → ¬ D' k ∧ ¬ E k) ∧ (A = none → c = 0) ∧ (scanN (cutD d p m) t 0).1.length ≤ c ∧ (∀ k, E k → w.heap.size ≤ k)) ∨ ((wipeR d (p + (scanN (cutD d p m) t 0).2) (m - (scanN (cutD d p m) t 0).2)).2 ≠ 0 ∧ r = .returned (.tuple #[.pointer none, .slice none 0 0, .int .i64 ((wipeR d (p + (scanN (cutD d p m) t 0).2) (m - (scanN (cutD d p m) t 0).2)).2 : Int)]))) := by
  have CK := check_any w g n d D p m t h hn (by omega)
  rw [scanE_on hp ht hoff] at CK
  have CK := Lib.hid CK
  have RD := Lib.hid (lread_st g n p m d D w h hoff hp hn)
  have hcl := cutD_len h.ok p m hp
  have hle := scanN_le t (cutD d p m).length (cutD d p m) 0 (Nat.le_refl _)
  have hsp := fun j hj => cutD_split h.ok p m j hp hj
  obtain ⟨l, hl⟩ : ∃ l, l = cutD d p m := ⟨_, rfl⟩
  obtain ⟨R, hR⟩ : ∃ R, R = scanN (cutD d p m) t 0 := ⟨_, rfl⟩
  rw [← hR] at hle ⊢
  rw [hcl] at hle
  have hu : R.2 ≤ m := by omega
  have hdrop : l.drop (64 * R.2) = cutD d (p + R.2) (m - R.2) := by
    have h1 := hsp R.2 hu
    have h2 := cutD_len h.ok p R.2 (by omega)
    rw [hl, h1, ← h2, List.drop_left]
  rw [← hl] at hcl RD
  rw [← hl] at hR
  have HCL := Lib.hid hcl
  have HR := Lib.hid hR
  have HDR := Lib.hid hdrop
  have HLT := Lib.hid h.lt
  have HL := Lib.hid h
  clear hsp hl hcl hR hdrop hle h
  obtain ⟨⟨W1_, er⟩, hWR⟩ : ∃ x, x = wipeR d (p + R.2) (m - R.2) := ⟨_, rfl⟩
  rw [← hWR]
  have HWR := Lib.hid hWR
  clear hWR
  go_enter Tryd.func53, Tryd.ntmps53
  go_wp2_with (go_at_call 71; refine stop ?_)
  unfold Stop
  refine CK.out.mono ?_
  rintro r w2 ⟨rfl, hw⟩
  rw [hw]
  clear hw w2 CK
  go_wp2_with (go_at_call 73; refine stop ?_)
  unfold Stop
  refine RD.out.mono ?_
  rintro r w1 ⟨A1, c1, rfl, o1, t1⟩
  have hsl := own_sln (N := D) o1 HLT.out
  obtain ⟨A1', c1', e1, -, -, k1, a1⟩ := own_sl o1
  injection e1 with e1 e2 e3
  subst e1 e3
  have SN := lscanO_any D A1 c1 l t w1 (glob_turn HL.out.glob t1) hsl a1 (by rw [HCL.out]; exact k1) (by rw [HCL.out]; omega)
  rw [HCL.out, ← HR.out] at SN
  have SN := Lib.hid SN
  have T1 := Lib.hid t1
  clear RD o1 t1 hsl k1 a1 e2
  go_wp2_with (go_at_call 74; refine stop ?_)
  unfold Stop
  refine SN.out.mono ?_
  rintro r w2 ⟨A2, c2, A3, c3, rfl, q2, a2, k2, s3, a3, k3, t2⟩
  have T2 := Lib.hid (T1.out.trans t2 (fun _ _ h => h))
  have S12 := Lib.hid t2.size
  obtain ⟨vs, q2o, q2t⟩ := q2
  have Q2O := Lib.hid (own_less q2o T1.out.size)
  have Q2OB := Lib.hid (show ∀ k, (Value.slice A2 R.1.length c2).ownBlock = some k → w1.heap.size ≤ k ∧ k < w2.heap.size from fun k e => q2o.lt k e)
  have Q2 := Lib.hid q2t
  have A2C := Lib.hid (And.intro a2 k2)
  have S3 := Lib.hid s3
  have A3C := Lib.hid (And.intro a3 k3)
  have SI := fun wx : World => sectorsIn_any A3 (64 * m - 64 * R.2) c3 (by omega) wx
  rw [show (64 * m - 64 * R.2) / 64 = m - R.2 by omega] at SI
  have SI := Lib.hid SI
  have hlen : R.1.length ≤ c2 := k2
  obtain ⟨u, hu'⟩ : ∃ u, u = R.2 := ⟨_, rfl⟩
  obtain ⟨nl, hnl⟩ : ∃ u, u = R.1.length := ⟨_, rfl⟩
  rw [← hu'] at SI hu ⊢
  rw [← hnl] at hlen ⊢
  have HU := Lib.hid hu'
  have HLE := Lib.hid hlen
  have HNL := Lib.hid hnl
  clear SN q2o q2t a2 k2 s3 a3 k3 t2 hu' hnl
  go_wp2_with (go_at_call 56; refine stop ?_)
  unfold Stop
  refine (SI.out w2).mono ?_
  rintro r w3 ⟨rfl, hw⟩
  rw [hw]
  clear hw w3
  go_wp2_with (go_at_call 56; refine stop ?_)
  unfold Stop
  refine (SI.out w2).mono ?_
  rintro r w3 ⟨rfl, hw⟩
  rw [hw]
  clear hw w3 SI
  have hv1 : IntKind.i64.wrap ((p : Int) + (m : Int)) = (p : Int) + (m : Int) := IntWalk.i64_in _ (by omega)
  have hv2 : (p : Int) + (m : Int) - ((m - u : Nat) : Int) = ((p + u : Nat) : Int) := by omega
  go_upto_region 6 with fail
  obtain ⟨w3, hw3⟩ : ∃ w3, w3 = w2.alloc (.cells #[.pointer (some ⟨g, 0, none⟩), .int .i64 (t : Int), .int .i64 (nl : Int), .int .i64 ((p : Int) + (u : Int)), .int .i64 ((m - u : Nat) : Int)] 81) := ⟨_, rfl⟩
  obtain ⟨s, hs⟩ : ∃ s, s = w2.heap.size := ⟨_, rfl⟩
  change Code.wp _ _ _ _ (w2.alloc (.cells #[.pointer (some ⟨g, 0, none⟩), .int .i64 (t : Int), .int .i64 (nl : Int), .int .i64 ((p : Int) + (u : Int)), .int .i64 ((m - u : Nat) : Int)] 81))
  have t3 : Turn (fun _ => False) w2 w3 := by rw [hw3]; exact (Turn.refl _ _).alloc _
  have hpu : (p : Int) + (u : Int) = ((p + u : Nat) : Int) := by omega
  have B3 := Lib.hid (show SBox w3 s (.pointer (some ⟨g, 0, none⟩)) t nl ((p + u : Nat) : Int) ((m - u : Nat) : Int) by rw [← hpu, hw3, hs]; exact heap_alloc_new _ _)
  have HSW := Lib.hid (show w.heap.size ≤ s by rw [hs]; exact T2.out.size)
  have HS2 := Lib.hid (show 2 ≤ s by have := HL.out.glob.1; have := HSW.out; omega)
  have HSD := Lib.hid (show ¬ D s from fun hd => by have := HLT.out s hd; have := HSW.out; omega)
  have T3 := Lib.hid (T2.out.trans t3 (fun _ _ h => h))
  have Q3 := Lib.hid (show TxtV w3 (fun k => (k < w1.heap.size ∨ (Value.slice A2 R.1.length c2).ownBlock = some k) ∨ k = s) R.1 vs from Q2.out.turn t3 (fun _ h => h.elim) (fun k hk h => h.elim id (fun e => by omega)))
  have Q3O := Lib.hid (own_turn t3 Q2O.out (fun _ _ h => h))
  have HSO := Lib.hid (show ∀ k, (Value.slice A2 R.1.length c2).ownBlock = some k → k < s from fun k e => by have := (Q2OB.out k e).2; omega)
  have WI := wipeG_any w3 g s n (p + u) (m - u) t nl d D A3 c3 (HL.out.quiet T3.out) hn (by omega) B3.out HSD.out (by rw [HU.out, ← HDR.out]; exact (S3.out.turn (N' := D) t3 (fun _ h => h.elim) (fun k hk h => .inl h))) A3C.out.1 (by rw [HU.out]; have := A3C.out.2; omega) (by omega)
  rw [show 64 * (m - u) = 64 * m - 64 * u by omega] at WI
  have WI := Lib.hid WI
  have hsz3 := Lib.hid (show w3.heap.size = s + 1 by rw [hw3, hs]; simp)
  rw [← hw3, ← hs]
  clear hw3 hs t3 hpu hv1 hv2 S3 Q2 Q2O
  go_wp2_with (go_at_call 75; refine stop ?_)
  unfold Stop
  refine WI.out.mono ?_
  rintro r w4 ⟨D4, rfl, l4, hD4, t4⟩
  have B4 := Lib.hid (B3.out.turn t4 HSD.out)
  have L4 := Lib.hid l4
  have HD4 := Lib.hid hD4
  have T4 := Lib.hid t4
  clear WI l4 hD4 t4
  have hwu : wipeR d (p + u) (m - u) = (W1_, er) := by rw [HU.out]; exact HWR.out.symm
  rw [hwu] at L4 ⊢
  clear hwu
  have hDn := Lib.hid (show ∀ k, D4 k → Dn D w w4 k from fun k hk => (HD4.out k hk).elim .inl (fun h => .inr ⟨by have := hsz3.out; have := HSW.out; have := h.1; omega, h.2⟩))
  have TT := Lib.hid ((T3.out.mono (S := D) (fun _ _ h => h.elim)).trans T4.out (fun _ _ h => h))
  have Q4 := Lib.hid (show TxtV w4 (fun k => k < w.heap.size ∨ D4 k ∨ k = s ∨ (Value.slice A2 R.1.length c2).ownBlock = some k) R.1 vs from Q3.out.turn T4.out (fun k hk => .inl (.inl (Nat.lt_of_lt_of_le (HLT.out k hk) T1.out.size))) (fun k hk h => by
    rcases h with h | h | h | h
    · exact .inl (.inl (Nat.lt_of_lt_of_le h T1.out.size))
    · exact (HD4.out k h).elim (fun h => .inl (.inl (Nat.lt_of_lt_of_le (HLT.out k h) T1.out.size))) (fun h => by have := h.1; omega)
    · exact .inr h
    · exact .inl (.inr h)))
  have Q4O := Lib.hid (own_turn T4.out Q3O.out (fun k e hd => by have := HLT.out k hd; have := (Q2OB.out k e).1; have := T1.out.size; omega))
  have Q4D := Lib.hid (show ∀ k, (Value.slice A2 R.1.length c2).ownBlock = some k → ¬ D4 k ∧ ¬ k = s from fun k e => ⟨fun hd => (HD4.out k hd).elim (fun hd => by have := HLT.out k hd; have := (Q2OB.out k e).1; have := T1.out.size; omega) (fun h => by have := h.1; have := HSO.out k e; have := hsz3.out; omega), by have := HSO.out k e; omega⟩)
  by_cases her0 : er = 0
  · have d0 : ((er : Int) != 0) = false := by rw [bne_eq_false_iff_eq]; omega
    have HE0 := Lib.hid her0
    clear her0
    go_wp2
    refine bodyPost_ret (results_tmp3 rfl _ _ _) rfl ?_
    refine ⟨D4, L4.out, hDn.out, TT.out, .inl ⟨HE0.out, s, A2, c2, fun k => k = s, by rw [← HNL.out]; rfl, ⟨L4.out, ⟨HS2.out, fun k => Iff.rfl, _, _, _, _, _, B4.out, fun e => by (cases e), fun _ => ⟨rfl, rfl, by rw [← HNL.out], by rw [← HU.out], ?_⟩⟩, fun k hk hd => ?_, fun k hk => ?_⟩, ⟨vs, Q4O.out, Q4.out, Q4D.out⟩, A2C.out.1, (by first | exact HLE.out | exact A2C.out.2), fun k hk => ?_⟩⟩
    · show ((m - u : Nat) : Int) = ((p + m - (p + R.2) : Nat) : Int); rw [← HU.out]; omega
    · have e : k = s := hk
      subst e
      exact (HD4.out k hd).elim HSD.out (fun h => by have := h.1; have := hsz3.out; omega)
    · have e : k = s := hk
      subst e
      exact B4.out.lt
    · have e : k = s := hk
      rw [e]; exact HSW.out
  · have d0 : ((er : Int) != 0) = true := by rw [bne_iff_ne]; omega
    have HE0 := Lib.hid her0
    clear her0
    go_wp2
    refine bodyPost_ret (results_tmp3 rfl _ _ _) rfl ?_
    exact ⟨D4, L4.out, hDn.out, TT.out, .inr ⟨HE0.out, rfl⟩⟩
end
section
set_option linter.unusedVariables false
set_option linter.unusedSimpArgs false
open Go.RowKit
set_option maxRecDepth 100000
def secB (t n m : Nat) : Nat := (12 + ((numB t).length + ((numB n).length + (numB m).length)) + m + 63) / 64
/-- Do texts fit, put one behind the other from the i-th number on? -/
def fitsB (t : Nat) : Nat → Nat → List (List B8) → Bool
  | _, _, [] => true
  | i, left, b :: bs => if 1024 < secB t i b.length ∨ left < secB t i b.length then false else fitsB t (i + 1) (left - secB t i b.length) bs
theorem fitsB_at {t i left : Nat} {L : List (List B8)} {k : Nat} {b : List B8} (h : L[k]? = some b) : fitsB t (i + k) left (L.drop k) = if 1024 < secB t (i + k) b.length ∨ left < secB t (i + k) b.length then false else fitsB t (i + (k + 1)) (left - secB t (i + k) b.length) (L.drop (k + 1)) := by
  obtain ⟨hk, e⟩ := List.getElem?_eq_some_iff.1 h
  rw [List.drop_eq_getElem_cons hk, e]
  rfl
set_option maxHeartbeats 4000000 in
theorem lfits_any (w : World) (s t nn l : Nat) (P : Value) (p : Int) (A : Option Addr) (c : Nat) (L : List (List B8)) (hb : SBox w s P t nn p l) (hL : LstN w A L) (ht : t ≤ 1099511627776) (hn : nn + L.length ≤ 1099511627776) (hl : l ≤ 1000000) (hbs : ∀ x ∈ L, x.length ≤ 900000) :
    Calls Tryd.prog 19 #[.pointer (some ⟨s, 0, none⟩), .slice A L.length c] w fun r w' => r = .returned (.bool (fitsB t nn l L)) ∧ Turn (fun _ => False) w w' := by
  have BX := Lib.hid hb
  have HL := Lib.hid hL
  have HBS := Lib.hid hbs
  obtain ⟨c0, c1, c2, c3, c4⟩ := hb.cells
  obtain ⟨F_, hF⟩ : ∃ f, f = fitsB t nn l L := ⟨_, rfl⟩
  rw [← hF]
  have HF := Lib.hid hF
  clear hb hL hbs hF
  go_enter Tryd.func19, Tryd.ntmps19
  go_wp2
  clear c0 c1 c2 c3 c4
  go_loopw [5, 17] (fun lv iv wr => ∃ (k left : Nat), k ≤ L.length ∧ left ≤ 1000000 ∧ lv = .int .i64 (left : Int) ∧ iv = .int .i64 (k : Int) ∧ F_ = fitsB t (nn + k) left (L.drop k) ∧ Turn (fun _ => False) w wr) (fun _ iv _ => L.length - (intOf iv).toNat)
  case atStart => exact ⟨0, l, by omega, hl, rfl, rfl, by rw [HF.out]; rfl, Turn.refl _ _⟩
  case round =>
    obtain ⟨k, left, hk, hlf, rfl, rfl, he, htt⟩ := hrel
    have HE := Lib.hid he
    have TT := Lib.hid htt
    have BXr := Lib.hid (BX.out.turn htt (fun h => h))
    have HLr := HL.out.below (turn_stp' htt)
    clear he htt
    by_cases hlt : k < L.length
    · obtain ⟨ad, Ai, ci, rfl, hcl, hci, hai, hbt⟩ := HLr k L[k] (List.getElem?_eq_getElem hlt)
      have hbl := HBS.out L[k] (List.getElem_mem hlt)
      have HS := fitsB_at (t := t) (i := nn) (left := left) (List.getElem?_eq_getElem hlt)
      obtain ⟨b, hbd⟩ : ∃ b, b = L[k] := ⟨_, rfl⟩
      rw [← hbd] at hcl hci hbl HS
      obtain ⟨q, hq⟩ : ∃ q, q = nn + k := ⟨_, rfl⟩
      rw [← hq] at HS
      have hqi : (nn : Int) + (k : Int) = (q : Int) := by omega
      have hwq : IntKind.i64.wrap ((nn : Int) + (k : Int)) = (q : Int) := by rw [IntWalk.i64_in _ (by omega)]; omega
      have hwq2 : IntKind.i64.wrap (q : Int) = (q : Int) := IntWalk.i64_in _ (by omega)
      obtain ⟨m, hm⟩ : ∃ m, m = b.length := ⟨_, rfl⟩
      rw [← hm] at hcl hci hbl HS
      have RS := sectorsOf_any t q m ht (by omega) (by omega) wr.drew
      obtain ⟨V, hV⟩ : ∃ V, V = secB t q m := ⟨_, rfl⟩
      have hVb : V ≤ 2000000 := by
        rw [hV, secB]
        have a1 := numB_small ht
        have a2 := numB_small (n := q) (by omega)
        have a3 := numB_small (n := m) (by omega)
        omega
      rw [show (12 + ((numB t).length + ((numB q).length + (numB m).length)) + m + 63) / 64 = V from hV.symm] at RS
      rw [← hV] at HS
      have HS := Lib.hid (show F_ = if 1024 < V ∨ left < V then false else fitsB t (nn + (k + 1)) (left - V) (L.drop (k + 1)) by rw [HE.out, ← hq]; exact HS)
      have RS := Lib.hid RS
      obtain ⟨c0, c1, c2, c3, c4⟩ := BXr.out.cells
      have td : Turn (fun _ => False) wr wr.drew := (Turn.refl _ _).drew
      clear hbt hbd hq hm hV HLr
      go_upto_region 7 with fail
      go_region_held3 (fun w' => w'.cell? ⟨s, 1, none⟩ = some (.int .i64 (t : Int)) ∧ w'.cell? ⟨s, 2, none⟩ = some (.int .i64 (nn : Int)))
        (first | exact ⟨c1, c2⟩ | exact ⟨k1, k2⟩)
        (first
          | (go_at_call 45; refine RS.out.mono ?_; clear RS; rintro r w3 ⟨rfl, t3⟩; have T3 := Lib.hid t3; have k1 := t3.cell (show wr.drew.cell? _ = _ from c1) (fun h => h); have k2 := t3.cell (show wr.drew.cell? _ = _ from c2) (fun h => h); clear t3))
      have T4 := Lib.hid ((TT.out.trans td (fun _ _ h => h)).trans T3.out (fun _ _ h => h))
      clear c0 c1 c2 c3 c4 k1 k2 hcl
      by_cases h1 : 1024 < V
      · have d1 : decide ((1024 : Int) < (V : Int)) = true := decide_eq_true (by omega)
        have d1' : decide (1024 < V) = true := decide_eq_true h1
        have HE2 := Lib.hid (HS.out.trans (if_pos (.inl h1)))
        clear h1
        go_wp2
        go_ret
        exact ⟨by rw [HE2.out]; rfl, T4.out⟩
      have d1 : decide ((1024 : Int) < (V : Int)) = false := decide_eq_false (by omega)
      have d1' : decide (1024 < V) = false := decide_eq_false h1
      by_cases h2 : left < V
      · have d2 : decide ((left : Int) < (V : Int)) = true := decide_eq_true (by omega)
        have d2' : decide (left < V) = true := decide_eq_true h2
        have HE2 := Lib.hid (HS.out.trans (if_pos (.inr h2)))
        clear h2
        go_wp2
        go_ret
        exact ⟨by rw [HE2.out]; rfl, T4.out⟩
      have d2 : decide ((left : Int) < (V : Int)) = false := decide_eq_false (by omega)
      have d2' : decide (left < V) = false := decide_eq_false h2
      have HE2 := Lib.hid (HS.out.trans (if_neg (fun h => h.elim h1 h2)))
      have hw3 : IntKind.i64.wrap ((left : Int) - (V : Int)) = ((left - V : Nat) : Int) := by rw [IntWalk.i64_in _ (by omega)]; omega
      go_wp2
      go_roundw
      case rel => exact ⟨k + 1, left - V, by omega, by omega, by go_num, by go_num, HE2.out, T4.out⟩
      case measure => simp [intOf]; omega
    · have hkl : k = L.length := by omega
      have HE2 := Lib.hid (show F_ = true by rw [HE.out, hkl, List.drop_length]; rfl)
      clear HLr
      go_wp2
      go_ret
      exact ⟨by rw [HE2.out]; rfl, TT.out⟩
end
section
set_option linter.unusedVariables false
set_option linter.unusedSimpArgs false
open Go.RowKit
set_option maxRecDepth 100000
def changeE (t half : Int) (b : List B8) : Nat := if 1099511627776 ≤ t then 5 else if sizeC (t + 1) 0 b < 0 then 4 else if half < sizeC (t + 1) 0 b then 18 else 0
def changeT (t half : Int) (b : List B8) : Int := if changeE t half b = 0 then t + 1 else t
def changeL (t half : Int) (L : List (List B8)) (b : List B8) : List (List B8) := if changeE t half b = 0 then [b] else L
set_option maxHeartbeats 16000000 in
theorem rchange_any (N : Nat → Prop) (t half : Int) (A : Option Addr) (c : Nat) (L : List (List B8)) (Ab : Option Addr) (cb : Nat) (b : List B8) (w : World) (hL : LstQ w N A L) (hA : A = none → c = 0) (hc : L.length ≤ c) (hlen : L.length ≤ 900000) (ht0 : 0 ≤ t) (ht1 : t < 4611686018427387904) (hh : 0 ≤ half) (hh2 : half ≤ 1000000000)
    (hb : Bts w Ab b) (hAb : Ab = none → cb = 0) (hlb : b.length ≤ 900000) :
    Calls Tryd.prog 17 #[cstV t half A L.length c, .slice Ab b.length cb] w (ChPost N (changeT t half b) half (changeL t half L b) (changeE t half b) w) := by
  have hzc := zero_ch
  obtain ⟨w1, hw1⟩ : ∃ w1, w1 = (w.alloc (.cells (cstC t half A L.length c) 33)).alloc (.cells ZCh 33) := ⟨_, rfl⟩
  obtain ⟨x, hx⟩ : ∃ x, x = w.heap.size := ⟨_, rfl⟩
  have t1 : Turn (fun _ => False) w w1 := by rw [hw1]; exact ((Turn.refl _ _).alloc _).alloc _
  have B1 := Lib.hid (show CBx w1 x t half A L.length c by rw [hw1, hx]; exact heap_alloc2_old _ _ _)
  have Y1 := Lib.hid (show w1.heap[x + 1]? = some (.cells ZCh 33 (0, 0)) by rw [hw1, hx]; exact heap_alloc2_new _ _ _)
  have SZ1 := Lib.hid (show w1.heap.size = x + 2 by rw [hw1, hx]; simp)
  have T1 := Lib.hid t1
  have HX := Lib.hid hx
  have HL := Lib.hid hL
  have BT1 := Lib.hid (hb.below (turn_stp' t1))
  have HBW := Lib.hid hb
  have RS := rsize_any (t + 1) 0 Ab cb b w1 BT1.out hAb hlb
  have hsb := sizeC_bound (t + 1) 0 b
  have hke0 := (show changeE t half b = if 1099511627776 ≤ t then 5 else if sizeC (t + 1) 0 b < 0 then 4 else if half < sizeC (t + 1) 0 b then 18 else 0 from rfl)
  have hkl0 := (show changeL t half L b = if changeE t half b = 0 then [b] else L from rfl)
  have hkt0 := (show changeT t half b = if changeE t half b = 0 then t + 1 else t from rfl)
  obtain ⟨KE, hKE⟩ : ∃ e, e = changeE t half b := ⟨_, rfl⟩
  obtain ⟨KL, hKL⟩ : ∃ e, e = changeL t half L b := ⟨_, rfl⟩
  obtain ⟨KT, hKT⟩ : ∃ e, e = changeT t half b := ⟨_, rfl⟩
  rw [← hKE] at hke0 hkl0 hkt0 ⊢
  rw [← hKL] at hkl0 ⊢
  rw [← hKT] at hkt0 ⊢
  obtain ⟨S_, hS⟩ : ∃ s, s = sizeC (t + 1) 0 b := ⟨_, rfl⟩
  rw [← hS] at RS hsb hke0
  have HKE := Lib.hid hke0
  have HKL := Lib.hid hkl0
  have HKT := Lib.hid hkt0
  have RSh := Lib.hid RS
  clear RS
  have AC := Lib.hid (And.intro hA hc)
  have ACB := Lib.hid hAb
  obtain ⟨lb, hlbd⟩ : ∃ l, l = b.length := ⟨_, rfl⟩
  rw [← hlbd] at RSh hlb ⊢
  have HLB := Lib.hid hlbd
  obtain ⟨n, hn⟩ : ∃ l, l = L.length := ⟨_, rfl⟩
  rw [← hn] at B1 AC hlen hw1 ⊢
  have HN := Lib.hid hn
  have hwt : IntKind.i64.wrap (t + 1) = t + 1 := IntWalk.i64_in _ (by omega)
  clear hke0 hkl0 hkt0 hL hA hc hb hAb hlbd hn hS hKE hKL hKT t1
  go_enter Tryd.func17, Tryd.ntmps17
  go_upto_region 1 with fail
  change Code.wp _ _ _ _ ((w.alloc (.cells (cstC t half A n c) 33)).alloc (.cells ZCh 33))
  rw [← hw1, ← hx]
  clear hw1 hx
  obtain ⟨c0, c1, c2⟩ := B1.out.cells
  have ERR := Lib.hid (show ∀ (e : Nat) (w3 : World), KE = e → e ≠ 0 → Turn (fun _ => False) w w3 → ChPost N KT half KL KE w (.returned (.tuple #[.agg (cstC t half A n c), .int .i64 (e : Int)])) (w3.setRow (x + 1) (cstC t half A n c)) from by
    intro e w3 h1 h0 t3
    have ts : Turn (fun i => i = x + 1) w3 (w3.setRow (x + 1) (cstC t half A n c)) := (Turn.refl _ _).setRow _ _ (fun _ => rfl)
    have tt : Turn (fun _ => False) w (w3.setRow (x + 1) (cstC t half A n c)) := t3.trans ts (fun i hi h => by have h' : i = x + 1 := h; have := HX.out; omega)
    have h2 : KL = L := by rw [HKL.out, if_neg (by rw [h1]; exact h0)]
    have h3 : KT = t := by rw [HKT.out, if_neg (by rw [h1]; exact h0)]
    rw [h1, h2, h3]
    exact ⟨A, c, by rw [← HN.out]; rfl, HL.out.turn tt (fun _ h => h.elim) (fun _ _ h => h.1), AC.out.1, by rw [← HN.out]; exact AC.out.2, tt⟩)
  have F2 := Lib.hid (cst_facts t half A n c)
  by_cases h5 : 1099511627776 ≤ t
  · have d5 : decide (1099511627776 ≤ t) = true := decide_eq_true h5
    have HE := Lib.hid (HKE.out.trans (if_pos h5))
    clear h5
    go_wp2_with (first
      | (refine wpList_load_row rfl _ _ rfl x rfl 33 (cstC t half A n c) (0, 0) Tryd.underlying33 B1.out rfl rfl F2.out.1 ?_)
      | (refine wpList_store_row rfl _ _ _ rfl (x + 1) (cstC t half A n c) rfl rfl 33 ZCh Y1.out F2.out.1 F2.out.2.1 F2.out.2.2 ?_))
    refine bodyPost_ret (v := .tuple #[.agg (cstC t half A n c), .int .i64 ((5 : Nat) : Int)]) ?_ rfl (ERR.out 5 w1 HE.out (by decide) T1.out)
    exact results_ch Tryd.results17 _ _ (x + 1) _ _ rfl rfl (setRow_heap _ _ _ _ _ _ Y1.out) rfl
  have d5 : decide (1099511627776 ≤ t) = false := decide_eq_false h5
  have HKE_5 := Lib.hid (HKE.out.trans (if_neg h5))
  clear HKE
  go_wp2_with (go_at_call 37; refine stop ?_)
  unfold Stop
  refine RSh.out.mono ?_
  rintro r w2 ⟨rfl, hb2⟩
  have B2 := Lib.hid (B1.out.below hb2 (by have := SZ1.out; omega))
  have Y2 := Lib.hid (show w2.heap[x + 1]? = some (.cells ZCh 33 (0, 0)) from (hb2.block (x + 1) (by have := SZ1.out; omega)).trans Y1.out)
  have T2 := Lib.hid (T1.out.trans (of_turn hb2) (fun _ _ h => h))
  have HX2 := Lib.hid (show x + 2 ≤ w2.heap.size by have := SZ1.out; have := hb2.size; omega)
  clear hb2 c0 c1 c2 RSh B1 Y1 T1 BT1 SZ1
  obtain ⟨c0, c1, c2⟩ := B2.out.cells
  by_cases h4 : S_ < 0
  · have d4 : decide (S_ < 0) = true := decide_eq_true h4
    have HE := Lib.hid (HKE_5.out.trans (if_pos h4))
    clear h4
    go_wp2_with (first
      | (refine wpList_load_row rfl _ _ rfl x rfl 33 (cstC t half A n c) (0, 0) Tryd.underlying33 B2.out rfl rfl F2.out.1 ?_)
      | (refine wpList_store_row rfl _ _ _ rfl (x + 1) (cstC t half A n c) rfl rfl 33 ZCh Y2.out F2.out.1 F2.out.2.1 F2.out.2.2 ?_))
    refine bodyPost_ret (v := .tuple #[.agg (cstC t half A n c), .int .i64 ((4 : Nat) : Int)]) ?_ rfl (ERR.out 4 w2 HE.out (by decide) T2.out)
    exact results_ch Tryd.results17 _ _ (x + 1) _ _ rfl rfl (setRow_heap _ _ _ _ _ _ Y2.out) rfl
  have d4 : decide (S_ < 0) = false := decide_eq_false h4
  have HKE_4 := Lib.hid (HKE_5.out.trans (if_neg h4))
  by_cases h18 : half < S_
  · have d18 : decide (half < S_) = true := decide_eq_true h18
    have HE := Lib.hid (HKE_4.out.trans (if_pos h18))
    clear h18
    go_wp2_with (first
      | (refine wpList_load_row rfl _ _ rfl x rfl 33 (cstC t half A n c) (0, 0) Tryd.underlying33 B2.out rfl rfl F2.out.1 ?_)
      | (refine wpList_store_row rfl _ _ _ rfl (x + 1) (cstC t half A n c) rfl rfl 33 ZCh Y2.out F2.out.1 F2.out.2.1 F2.out.2.2 ?_))
    refine bodyPost_ret (v := .tuple #[.agg (cstC t half A n c), .int .i64 ((18 : Nat) : Int)]) ?_ rfl (ERR.out 18 w2 HE.out (by decide) T2.out)
    exact results_ch Tryd.results17 _ _ (x + 1) _ _ rfl rfl (setRow_heap _ _ _ _ _ _ Y2.out) rfl
  have d18 : decide (half < S_) = false := decide_eq_false h18
  have HKE_18 := Lib.hid (HKE_4.out.trans (if_neg h18))
  have HE := HKE_18.out
  have HKL2 := Lib.hid (HKL.out.trans (if_pos HE))
  have HKT2 := Lib.hid (HKT.out.trans (if_pos HE))
  have HE := Lib.hid HE
  have BT2 := Lib.hid (HBW.out.below (turn_stp' T2.out))
  have HXD := Lib.hid (show x < w2.heap.size by have := HX2.out; omega)
  go_upto_region 8 with fail
  refine wp_region_rel_tail 10 34 (by kernel_rfl) (by kernel_rfl) Stp [.one ?_, .one ?_, .one ?_, .one ?_, .one ?_, .rel (Box0 w2.heap.size), .one ?_, .rel (CpyT w2.heap.size b), .rel (SlT w2.heap.size b), .rel (AggT w2.heap.size b (t + 1) half)] (by kernel_rfl) rfl (by kernel_rfl) Stp.refl Stp.trans ⟨Box0.stable _, CpyT.stable _ _, SlT.stable _ _, AggT.stable _ _ _ _, trivial⟩ ?main
  case main =>
  simp only [List.take_succ_cons, List.take_zero, List.drop_succ_cons, List.drop_zero]
  iterate 1
    refine wpR_one (A' := ?_) Stp.refl (by rfl) _ rfl 34 (by rfl) (by rfl) ?_ ?_ ?_
    rotate_left 1
    · simp only [Act.put, List.setIfInBounds_toArray, List.set_cons_zero, List.set_cons_succ]; rfl
    · intro w1 hs hf K hK
      go_big_quiet_op
      first
        | go_big_quiet_on
        | (refine ⟨_, fun _ _ => rfl, ?_⟩; go_big_quiet_on)
      rfl
  refine wpR_one (A' := ?_) Stp.refl (by rfl) _ rfl 34 (by rfl) (by rfl) ?_ ?_ ?_
  rotate_left 1
  · simp only [Act.put, List.setIfInBounds_toArray, List.set_cons_zero, List.set_cons_succ]; rfl
  · intro w1 hs hf K hK
    refine cls_load_cell 3 (.tmp 24) rfl ⟨x, 0, none⟩ rfl (.int .i64 t) (fun w h => by simp [go_sem, h]) (fun w4 h2 => ((Stp.trans _ _ _ hs h2).cell (show x < w2.drew.heap.size from HXD.out)).trans (show w2.drew.cell? _ = _ from c0)) ?_
    refine hK _ ?_
    simp only [Act.put, List.setIfInBounds_toArray, List.set_cons_zero, List.set_cons_succ]
    rfl
  iterate 2
    refine wpR_one (A' := ?_) Stp.refl (by rfl) _ rfl 34 (by rfl) (by rfl) ?_ ?_ ?_
    rotate_left 1
    · simp only [Act.put, List.setIfInBounds_toArray, List.set_cons_zero, List.set_cons_succ]; rfl
    · intro w1 hs hf K hK
      go_big_quiet_op
      first
        | go_big_quiet_on
        | (refine ⟨_, fun _ _ => rfl, ?_⟩; go_big_quiet_on)
      rfl
  refine wpR_one (A' := ?_) Stp.refl (by rfl) _ rfl 34 (by rfl) (by rfl) ?_ ?_ ?_
  rotate_left 1
  · simp only [Act.put, List.setIfInBounds_toArray, List.set_cons_zero, List.set_cons_succ]; rfl
  · intro w1 hs hf K hK
    refine cls_load_cell 3 (.tmp 27) rfl ⟨x, 1, none⟩ rfl (.int .i64 half) (fun w h => by simp [go_sem, h]) (fun w4 h2 => ((Stp.trans _ _ _ hs h2).cell (show x < w2.drew.heap.size from HXD.out)).trans (show w2.drew.cell? _ = _ from c1)) ?_
    refine hK _ ?_
    simp only [Act.put, List.setIfInBounds_toArray, List.set_cons_zero, List.set_cons_succ]
    rfl
  refine wpR_rel (A' := ?_) (by rfl) ?_ ?_ ?_
  · intro w1 hs hf
    exact does_build0 (by kernel_rfl) ⟨⟨_, (show w2.drew.heap.size ≤ w1.heap.size from hs.size), rfl, heap_alloc_new _ _⟩, (Below.refl _ _).alloc (Nat.le_refl _) _⟩
  rotate_left 1
  · intro x
    simp only [Act.put, List.setIfInBounds_toArray, List.set_cons_zero, List.set_cons_succ]; rfl
  intro x29
  iterate 1
    refine wpR_one (A' := ?_) Stp.refl (by rfl) _ rfl 34 (by rfl) (by rfl) ?_ ?_ ?_
    rotate_left 1
    · simp only [Act.put, List.setIfInBounds_toArray, List.set_cons_zero, List.set_cons_succ]; rfl
    · intro w1 hs hf K hK
      go_big_quiet_op
      first
        | go_big_quiet_on
        | (refine ⟨_, fun _ _ => rfl, ?_⟩; go_big_quiet_on)
      rfl
  refine wpR_rel (A' := ?_) (by rfl) ?_ ?_ ?_
  · intro w1 hs hf
    obtain ⟨v', w', hr, h3, h4⟩ := appendT 36 w2.heap.size w1 x29 (AllF_at hf 0 rfl (by kernel_rfl)) (show w2.drew.heap.size ≤ w1.heap.size from hs.size) Ab cb b ((show Bts w2.drew Ab b from BT2.out).below hs) ACB.out (by rw [← HLB.out]; exact hlb)
    rw [← HLB.out] at hr
    exact does_append _ _ _ _ _ v' rfl rfl rfl hr ⟨h3, h4⟩
  rotate_left 1
  · intro x
    simp only [Act.put, List.setIfInBounds_toArray, List.set_cons_zero, List.set_cons_succ]; rfl
  intro x31
  refine wpR_rel (A' := ?_) (by rfl) ?_ ?_ ?_
  · intro w1 hs hf
    have h31 := AllF_at hf 0 rfl (by kernel_rfl)
    obtain ⟨A31, c31, e31, ho31⟩ := id h31
    have hst : Stp w1 (w1.alloc (.cells #[.slice A31 b.length c31] 36)) := (Below.refl _ _).alloc (Nat.le_refl _) _
    exact does_build_slT _ rfl A31 b.length c31 e31 ⟨⟨_, _, (show w2.drew.heap.size ≤ w1.heap.size from hs.size), rfl, heap_alloc_new _ _, CpyT.stable _ _ _ _ _ (e31 ▸ h31) hst⟩, hst⟩
  rotate_left 1
  · intro x
    simp only [Act.put, List.setIfInBounds_toArray, List.set_cons_zero, List.set_cons_succ]; rfl
  intro x32
  refine wpR_rel (A' := ?_) (by rfl) ?_ ?_ ?_
  · intro w1 hs hf
    have h32 := AllF_at hf 0 rfl (by kernel_rfl)
    obtain ⟨g32, X32, hB32, e32, -, -⟩ := id h32
    exact does_build_ch _ _ _ rfl (t + 1) half rfl rfl g32 1 1 e32 ⟨⟨g32, rfl, e32 ▸ h32⟩, Stp.refl _⟩
  rotate_left 1
  · intro x
    simp only [Act.put, List.setIfInBounds_toArray, List.set_cons_zero, List.set_cons_succ]; rfl
  intro x33
  intro w9 hs hf
  obtain ⟨⟨g9, rfl, hs9⟩, -⟩ := hf
  have T9 := Lib.hid (show Turn (fun _ => False) w w9 from T2.out.trans (of_turn (show Below w2.heap.size w2 w9 from ((Below.refl _ _).drew).trans hs)) (fun _ _ h => h))
  have Y9 := Lib.hid (show w9.heap[x + 1]? = some (.cells ZCh 33 (0, 0)) from (hs.block (x + 1) (show x + 1 < w2.drew.heap.size from by have := HX2.out; show x + 1 < w2.heap.size; omega)).trans Y2.out)
  have F9 := Lib.hid (cst_facts (t + 1) half (some ⟨g9, 0, none⟩) 1 1)
  have S9 := Lib.hid hs9
  clear hs hs9 c0 c1 c2
  go_wp2_with (refine wpList_store_row rfl _ _ _ rfl (x + 1) (cstC (t + 1) half (some ⟨g9, 0, none⟩) 1 1) rfl rfl 33 ZCh Y9.out F9.out.1 F9.out.2.1 F9.out.2.2 ?_)
  have ts : Turn (fun i => i = x + 1) w9 (w9.setRow (x + 1) (cstC (t + 1) half (some ⟨g9, 0, none⟩) 1 1)) := (Turn.refl _ _).setRow _ _ (fun _ => rfl)
  have HP : ChPost N KT half KL KE w (.returned (.tuple #[.agg (cstC (t + 1) half (some ⟨g9, 0, none⟩) 1 1), .int .i64 ((0 : Nat) : Int)])) (w9.setRow (x + 1) (cstC (t + 1) half (some ⟨g9, 0, none⟩) 1 1)) := by
    rw [HKL2.out, HE.out, HKT2.out]
    obtain ⟨A9, e9, a9, q9⟩ := S9.out.lst (N := fun i => (N i ∧ i < w.heap.size) ∨ i = x + 1) (fun i h => by
      have := HX.out
      have := HX2.out
      rcases h with h | h
      · omega
      · omega)
    injection e9 with e9 _ _
    subst e9
    exact ⟨_, 1, rfl, q9.turn ts (fun k h => .inr h) (fun k hk h => .inl h), a9, by simp, T9.out.trans ts (fun k hk h => by have h' : k = x + 1 := h; have := HX.out; omega)⟩
  refine bodyPost_ret (v := .tuple #[.agg (cstC (t + 1) half (some ⟨g9, 0, none⟩) 1 1), .int .i64 ((0 : Nat) : Int)]) ?_ rfl HP
  exact results_ch Tryd.results17 _ _ (x + 1) _ _ rfl rfl (setRow_heap _ _ _ _ _ _ Y9.out) rfl
end
section
set_option linter.unusedVariables false
set_option linter.unusedSimpArgs false
open Go.RowKit
set_option maxRecDepth 100000
/-- A chest as a value: its list's cells lie outside N. -/
def ChV (N : Nat → Prop) (t half : Int) (L : List (List B8)) (w : World) (v : Value) (w' : World) : Prop := ∃ A c, v = cstV t half A L.length c ∧ LstQ w' (fun i => N i ∧ i < w.heap.size) A L ∧ (A = none → c = 0) ∧ L.length ≤ c ∧ Turn (fun _ => False) w w'
def ChVR (N : Nat → Prop) (t half : Int) (L : List (List B8)) (w : World) (r : Ending) (w' : World) : Prop := ∃ v, r = .returned v ∧ ChV N t half L w v w'
set_option maxHeartbeats 4000000 in
theorem rfresh_any (N : Nat → Prop) (half : Int) (w : World) :
    Calls Tryd.prog 12 #[.int .i64 half] w (ChVR N 1 half [[]] w) := by
  have hzc := zero_ch
  obtain ⟨w1, hw1⟩ : ∃ w1, w1 = w.alloc (.cells ZCh 33) := ⟨_, rfl⟩
  obtain ⟨x, hx⟩ : ∃ x, x = w.heap.size := ⟨_, rfl⟩
  have t1 : Turn (fun _ => False) w w1 := by rw [hw1]; exact (Turn.refl _ _).alloc _
  have Y1 := Lib.hid (show w1.heap[x]? = some (.cells ZCh 33 (0, 0)) by rw [hw1, hx]; exact heap_alloc_new _ _)
  have SZ1 := Lib.hid (show w1.heap.size = x + 1 by rw [hw1, hx]; simp)
  have T1 := Lib.hid t1
  have HX := Lib.hid hx
  obtain ⟨w3, hw3⟩ : ∃ w3, w3 = (w1.alloc (.cells #[] 5)).alloc (.cells #[.slice (some ⟨w1.heap.size, 0, none⟩) 0 0] 36) := ⟨_, rfl⟩
  have t3 : Turn (fun _ => False) w1 w3 := by rw [hw3]; exact ((Turn.refl _ _).alloc _).alloc _
  have Y3 := Lib.hid (show ((w1.alloc (.cells #[] 5)).alloc (.cells #[.slice (some ⟨w1.heap.size, 0, none⟩) 0 0] 36)).heap[x]? = some (.cells ZCh 33 (0, 0)) by rw [← hw3]; exact t3.heap Y1.out (fun h => h))
  have N3 := Lib.hid (show w3.heap[w1.heap.size + 1]? = some (.cells #[.slice (some ⟨w1.heap.size, 0, none⟩) 0 0] 36 (0, 0)) by rw [hw3]; exact heap_alloc2_new _ _ _)
  have T3 := Lib.hid (T1.out.trans t3 (fun _ _ h => h))
  have F3 := Lib.hid (cst_facts 1 half (some ⟨w1.heap.size + 1, 0, none⟩) 1 1)
  have HW3 := Lib.hid hw3
  clear t1 t3 hw3
  go_enter Tryd.func12, Tryd.ntmps12
  go_upto_region 1 with fail
  change Code.wp _ _ _ _ (w.alloc (.cells ZCh 33))
  rw [← hw1, ← hx]
  clear hw1 hx
  go_step
  iterate 12 go_step
  refine wpList_store_row rfl _ _ _ rfl x (cstC 1 half (some ⟨w1.heap.size + 1, 0, none⟩) 1 1) rfl rfl 33 ZCh Y3.out F3.out.1 F3.out.2.1 F3.out.2.2 ?_
  go_wp2
  rw [← HW3.out]
  have ts : Turn (fun i => i = x) w3 (w3.setRow x (cstC 1 half (some ⟨w1.heap.size + 1, 0, none⟩) 1 1)) := (Turn.refl _ _).setRow _ _ (fun _ => rfl)
  have Y3' : w3.heap[x]? = some (.cells ZCh 33 (0, 0)) := by rw [HW3.out]; exact Y3.out
  have HP : ChVR N 1 half [[]] w (.returned (.agg (cstC 1 half (some ⟨w1.heap.size + 1, 0, none⟩) 1 1))) (w3.setRow x (cstC 1 half (some ⟨w1.heap.size + 1, 0, none⟩) 1 1)) := by
    refine ⟨_, rfl, _, 1, rfl, ?_, (fun h => by cases h), by simp, T3.out.trans ts (fun k hk h => by have h' : k = x := h; have := HX.out; omega)⟩
    intro i y hi
    match i, hi with
    | 0, hi =>
      injection hi with hi
      subst hi
      have h3 := ts.heap N3.out (fun h => by have h' : w1.heap.size + 1 = x := h; have := SZ1.out; omega)
      exact ⟨_, _, 0, rfl, fun h => by have h2 : w1.heap.size + 1 < w.heap.size := h.2; have := SZ1.out; have := HX.out; omega, by rw [add_row, cell_of_row _ _ _ _ _ _ h3]; rfl, by simp, fun _ => rfl, fun j u hu => by simp at hu⟩
  refine bodyPost_ret (v := .agg (cstC 1 half (some ⟨w1.heap.size + 1, 0, none⟩) 1 1)) ?_ rfl HP
  exact results_cell_row Tryd.results12 _ _ x _ _ (0, 0) _ rfl (setRow_heap _ _ _ _ _ _ Y3') Tryd.underlying33 rfl F3.out.1
end
end Go.Proofs.YtfiopkehpcipdaaDoor
