/- Merged: The document's Scan. The landed drum over its own blocks; what a stretch of it has. What the landed scroll's calls are to come to. A scroll that goes well: its records, its drum. Awake. -/
import Derived.Test.YtajdcekkmikbcaaDoorM32
import Derived.Test.YtajdcekkmikbcaaDoorM20
namespace Go.Proofs.YtajdcekkmikbcaaDoor
section
set_option linter.unusedVariables false
set_option linter.unusedSimpArgs false
open Go.RowKit
set_option maxRecDepth 100000
/-- A scan by a turn that may be no turn. -/
def scanI (l : List B8) (t : Int) (k : Nat) : List (List B8) × Nat := if t < 0 then ([], 0) else scanN l t.toNat k
theorem scanI_none {l : List B8} (h : readS l = none) (t : Int) (k : Nat) : scanI l t k = ([], 0) := by
  unfold scanI; split
  · rfl
  · exact scanN_none h _ _
theorem scanI_other {l : List B8} {r : Rc} (h : readS l = some r) {t : Int} {k : Nat} (hn : (r.t : Int) ≠ t ∨ r.n ≠ k) : scanI l t k = ([], 0) := by
  unfold scanI; split
  · rfl
  · refine scanN_other h ?_
    rcases hn with hn | hn
    · exact .inl (by omega)
    · exact .inr hn
theorem scanI_some {l : List B8} {r : Rc} (h : readS l = some r) : scanI l (r.t : Int) r.n = (r.b :: (scanI (l.drop (64 * r.size)) (r.t : Int) (r.n + 1)).1, r.size + (scanI (l.drop (64 * r.size)) (r.t : Int) (r.n + 1)).2) := by
  unfold scanI
  rw [if_neg (by omega), if_neg (by omega), Int.toNat_natCast]
  exact scanN_some h
/-- A list of texts, none of whose cells lies in N. -/
def LstQ (w : World) (N : Nat → Prop) (A : Option Addr) (ls : List (List B8)) : Prop := ∀ (i : Nat) (xs : List B8), ls[i]? = some xs → ∃ ad Ai ci, A = some ad ∧ ¬ N ad.block ∧ w.cell? (ad.add i) = some (.slice Ai xs.length ci) ∧ xs.length ≤ ci ∧ (Ai = none → ci = 0) ∧ SlN w N Ai (xs.map bv)
theorem LstQ.turn {S N N' : Nat → Prop} {w w' : World} {A : Option Addr} {ls : List (List B8)} (h : LstQ w N A ls) (t : Turn S w w') (hS : ∀ i, S i → N i) (hN : ∀ i, i < w.heap.size → N' i → N i) : LstQ w' N' A ls := fun i xs hi => by
  obtain ⟨ad, Ai, ci, e, hb, hc, h1, h2, h3⟩ := h i xs hi
  have hlt := World.block_lt_of_cell? w _ hc
  rw [add_block] at hlt
  exact ⟨ad, Ai, ci, e, fun hn => hb (hN _ hlt hn), t.cell hc (by rw [add_block]; exact fun hs => hb (hS _ hs)), h1, h2, h3.turn t hS hN⟩
theorem LstQ.lstN {w : World} {N : Nat → Prop} {A : Option Addr} {ls : List (List B8)} (h : LstQ w N A ls) : LstN w A ls := fun i xs hi => by
  obtain ⟨ad, Ai, ci, e, hb, hc, h1, h2, h3⟩ := h i xs hi
  exact ⟨ad, Ai, ci, e, hc, h1, h2, Bts.of_sl h3.sl⟩
/-- Slices that hold texts. -/
def TxtV (w : World) (N : Nat → Prop) (xs : List (List B8)) (vs : List Value) : Prop := vs.length = xs.length ∧ ∀ (i : Nat) (x : List B8), xs[i]? = some x → ∃ Ai ci, vs[i]? = some (.slice Ai x.length ci) ∧ x.length ≤ ci ∧ (Ai = none → ci = 0) ∧ SlN w N Ai (x.map bv)
theorem TxtV.turn {S N N' : Nat → Prop} {w w' : World} {xs : List (List B8)} {vs : List Value} (h : TxtV w N xs vs) (t : Turn S w w') (hS : ∀ i, S i → N i) (hN : ∀ i, i < w.heap.size → N' i → N i) : TxtV w' N' xs vs := ⟨h.1, fun i x hi => by
  obtain ⟨Ai, ci, h1, h2, h3, h4⟩ := h.2 i x hi
  exact ⟨Ai, ci, h1, h2, h3, h4.turn t hS hN⟩⟩
theorem TxtV.add {w : World} {N : Nat → Prop} {xs : List (List B8)} {vs : List Value} (h : TxtV w N xs vs) {x : List B8} {A : Option Addr} {c : Nat} (h1 : x.length ≤ c) (h2 : A = none → c = 0) (h3 : SlN w N A (x.map bv)) : TxtV w N (xs ++ [x]) (vs ++ [.slice A x.length c]) := ⟨by rw [List.length_append, List.length_append, h.1]; rfl, fun i y hi => by
  rw [List.getElem?_append] at hi
  split at hi
  · rename_i hlt
    obtain ⟨Ai, ci, g1, g2⟩ := h.2 i y hi
    exact ⟨Ai, ci, by rw [List.getElem?_append_left (by rw [h.1]; exact hlt)]; exact g1, g2⟩
  · rename_i hlt
    have h0 : i - xs.length = 0 := by
      have := (List.getElem?_eq_some_iff.1 hi).1
      simp at this; omega
    rw [h0] at hi
    simp at hi
    subst hi
    exact ⟨A, c, by rw [List.getElem?_append_right (by rw [h.1]; omega), h.1, h0]; rfl, h1, h2, h3⟩⟩
theorem TxtV.lst {w : World} {N : Nat → Prop} {xs : List (List B8)} {vs : List Value} (h : TxtV w N xs vs) {A : Option Addr} (hs : SlN w N A vs) : LstQ w N A xs := fun i x hi => by
  obtain ⟨Ai, ci, g1, g2, g3, g4⟩ := h.2 i x hi
  obtain ⟨ad, e, hb, hc⟩ := hs i _ g1
  exact ⟨ad, Ai, ci, e, hb, hc, g2, g3, g4⟩
theorem own_sln {w : World} {B n : Nat} {e : TypeId} {A : Option Addr} {c : Nat} {vs : List Value} {N : Nat → Prop} (h : w.ownsRow B e 1 (.slice A n c) n vs) (hN : ∀ i, N i → i < B) : SlN w N A vs := fun j u hu => by
  obtain ⟨A', c', e, hs, -⟩ := own_sl h
  injection e with e1 e2 e3
  subst e1
  obtain ⟨ad, rfl, hb, hc⟩ := hs j u hu
  exact ⟨ad, rfl, fun hn => by have := (h.lt _ rfl).1; have := hN _ hn; omega, hc⟩
def Srow (w : World) (B : Nat) (v : Value) (n : Nat) (vs : List Value) : Prop := w.ownsRow B 36 1 v n vs
theorem one_slice (A : Option Addr) (n c : Nat) : ∀ u ∈ [Value.slice A n c], u.oneCell' = true := by intro u hu; simp at hu; subst hu; rfl
set_option maxHeartbeats 8000000 in
theorem rscan13_any (N : Nat → Prop) (A : Option Addr) (c : Nat) (l : List B8) (t : Int) (w : World) (hN : ∀ i, N i → i < w.heap.size) (hs : SlN w N A (l.map bv)) (hA : A = none → c = 0) (hc : l.length ≤ c) (hlen : l.length ≤ 1000000) :
    Calls Tryd.prog 48 #[.slice A l.length c, .int .i64 t] w fun r w' => ∃ A' c', r = .returned (.tuple #[.slice A' (scanI l t 0).1.length c', .int .i64 ((scanI l t 0).2 : Int)]) ∧ LstQ w' N A' (scanI l t 0).1 ∧ (A' = none → c' = 0) ∧ (scanI l t 0).1.length ≤ c' ∧ Turn (fun _ => False) w w' := by
  obtain ⟨i0, hi, hz0, hz1, hz2⟩ := info_parts info_sl
  have hrz := zero_rc
  have KR := Lib.hid (show (Tryd.prog.info? 84).map (·.size) = some ZRc.size ∧ ZRc.all (·.oneCell') = true from ⟨rc_info, by simp [Value.oneCell']⟩)
  obtain ⟨N', hN'⟩ : ∃ N' : Nat → Prop, N' = fun i => N i ∨ w.heap.size ≤ i := ⟨_, rfl⟩
  have hs' : SlN w N' A (l.map bv) := fun j u hu => by
    obtain ⟨ad, e, hb, hc⟩ := hs j u hu
    have hlt := World.block_lt_of_cell? w _ hc
    rw [add_block] at hlt
    exact ⟨ad, e, by rw [hN']; intro h; exact h.elim hb (fun h => by omega), hc⟩
  have SL := Lib.hid hs'
  have HN := Lib.hid hN'
  have HNN := Lib.hid hN
  have AC := Lib.hid (And.intro hA hc)
  obtain ⟨n, hn⟩ : ∃ n, n = l.length := ⟨_, rfl⟩
  rw [← hn] at hlen ⊢
  have HNL := Lib.hid hn
  obtain ⟨E, hE⟩ : ∃ E, E = scanI l t 0 := ⟨_, rfl⟩
  rw [← hE]
  have HE := Lib.hid hE
  clear hs hs' hA hc hN hN' hn hE
  go_enter Tryd.func48, Tryd.ntmps48
  go_wp2
  go_loopw [6, 7] (fun v uu wr => ∃ (xs : List (List B8)) (vs : List Value) (u : Nat), uu = .int .i64 (u : Int) ∧ 64 * u ≤ n ∧ xs.length ≤ u ∧ Srow wr w.heap.size v xs.length vs ∧ TxtV wr N' xs vs ∧ E = (xs ++ (scanI (l.drop (64 * u)) t xs.length).1, u + (scanI (l.drop (64 * u)) t xs.length).2) ∧ Turn (fun _ => False) w wr) (fun _ uu _ => n - (64 * (intOf uu)).toNat)
  case atStart => exact ⟨[], [], 0, rfl, by omega, by simp, World.ownsRow_nil _ _ _ _, ⟨rfl, fun i x h => by simp at h⟩, by rw [HE.out]; simp, Turn.refl _ _⟩
  case round =>
    obtain ⟨xs, vs, u, rfl, hun, hxu, ho, hv, he, ht⟩ := hrel
    --BODY
    obtain ⟨Av, cv, rfl, -, -, hcv, hav⟩ := own_sl (show wr.ownsRow _ _ _ _ _ _ from ho)
    have HO := Lib.hid (show wr.ownsRow w.heap.size 36 1 (.slice Av xs.length cv) xs.length vs from ho)
    have HV := Lib.hid hv
    have HEE := Lib.hid he
    have HT := Lib.hid ht
    have AV := Lib.hid (And.intro hcv hav)
    have hsz := ht.size
    obtain ⟨A2, hA2⟩ : ∃ x, x = cutA A c (64 * u) := ⟨_, rfl⟩
    obtain ⟨c2, hc2⟩ : ∃ x, x = c - 64 * u := ⟨_, rfl⟩
    obtain ⟨l2, hl2⟩ : ∃ x, x = l.drop (64 * u) := ⟨_, rfl⟩
    have hn2 : l2.length = n - 64 * u := by rw [hl2, List.length_drop, ← HNL.out]
    have hcn : n ≤ c := by have := AC.out.2; have := HNL.out; omega
    have SLI : ∀ w, (Instr.slice 36 (.slice A n c) (some (.int .i64 (64 * (u : Int)))) none none).run Tryd.prog w = .ok (.slice A2 (n - 64 * u) c2) w := fun w => by
      rw [run_slice_l (P := Tryd.prog) w 36 A n c (by kernel_rfl) .i64 (64 * (u : Int)) (by omega) (by omega)]
      rw [show Tryd.prog.elem 36 = 5 by kernel_rfl, size_u8]
      simp only [Result.andThen, sliced, hA2, hc2, cutA, Nat.mul_one]
      rw [show ((64 : Int) * (u : Int)).toNat = 64 * u by omega]
    have SL2 := Lib.hid (show SlN wr N' A2 (l2.map bv) from by
      rw [hl2, hA2]; exact sln_cut (SL.out.turn ht (fun _ h => h.elim) (fun _ _ h => h)) c (64 * u) (by have := HNL.out; omega))
    have RD := Lib.hid (rread13_any N' A2 c2 l2 wr (fun i hi => by rw [HN.out]; exact .inr (by omega)) SL2.out (by rw [hA2, hc2]; exact cut_none AC.out.1) (by rw [hn2, hc2]; omega) (by rw [hn2]; omega))
    rw [hn2] at RD
    rw [← hl2] at HEE
    have HL2 := Lib.hid hl2
    have hu64 : IntKind.i64.wrap (64 * (u : Int)) = 64 * (u : Int) := IntWalk.i64_in _ (by omega)
    clear ho hv he ht hcv hav hA2 hc2 hl2
    obtain ⟨W3, eW3⟩ : ∃ W3, W3 = wr := ⟨_, rfl⟩
    subst eW3
    go_wp2_with (go_at_call 47; refine stop ?_)
    unfold Stop
    refine RD.out.mono ?_
    rintro r wa hp
    unfold RdPost at hp
    clear RD
    cases hr : readS l2 with
    | none =>
      rw [hr] at hp
      obtain ⟨rfl, ta⟩ := hp
      have HE0 := Lib.hid (show E = (xs, u) by rw [HEE.out, scanI_none hr, List.append_nil]; rfl)
      clear hr HEE
      have HA := Lib.hid (show (wa.alloc (.cells ZRc 84)).heap[wa.heap.size]? = some (.cells ZRc 84 (0, 0)) from heap_alloc_new _ _)
      go_upto_region 4 with (refine wpList_store_row rfl _ _ _ rfl wa.heap.size ZRc rfl rfl 84 ZRc HA.out KR.out.1 rfl KR.out.2 ?_)
      obtain ⟨wb, hw⟩ : ∃ w', w' = (wa.alloc (.cells ZRc 84)).setRow wa.heap.size ZRc := ⟨_, rfl⟩
      have tt : Turn (fun _ => False) W3 wb := by rw [hw]; exact ta.trans (((Turn.refl (fun _ => False) wa).alloc _).setRow _ _ (fun h => by omega)) (fun _ _ h => h)
      obtain ⟨Q, hQ⟩ : ∃ Q, Q = wa.heap.size := ⟨_, rfl⟩
      have HQ := Lib.hid (show wb.heap[Q]? = some (.cells ZRc 84 (0, 0)) from by rw [hw, hQ]; exact setRow_heap _ _ _ _ _ _ HA.out)
      change Code.wp _ _ _ _ ((wa.alloc (.cells ZRc 84)).setRow wa.heap.size ZRc)
      rw [← hw, ← hQ]
      have QB : W3.heap.size ≤ Q := by rw [hQ]; exact ta.size
      have TT := Lib.hid tt
      clear hw hQ HA ta tt
      go_wp2
      refine bodyPost_ret (results_tmp2 rfl _ _ _) rfl ?_
      refine ⟨Av, cv, by rw [HE0.out]; rfl, ?_, AV.out.2, by rw [HE0.out]; exact AV.out.1, HT.out.trans TT.out (fun _ _ h => h)⟩
      rw [HE0.out]
      exact ((HV.out.turn TT.out (fun _ h => h.elim) (fun i _ h => by rw [HN.out]; exact .inl h)).lst (own_sln (own_turn TT.out HO.out (fun _ _ h => h)) HNN.out))
    | some x =>
      rw [hr] at hp
      obtain ⟨⟨Ab, cb, rfl, sb, hab, hcb⟩, ta⟩ := hp
      obtain ⟨rs1, rs2, rs3⟩ := readS_size hr
      have HR := Lib.hid hr
      obtain ⟨xt, hxt⟩ : ∃ y, y = x.t := ⟨_, rfl⟩
      obtain ⟨xn, hxn⟩ : ∃ y, y = x.n := ⟨_, rfl⟩
      obtain ⟨xz, hxz⟩ : ∃ y, y = x.size := ⟨_, rfl⟩
      obtain ⟨xb, hxb⟩ : ∃ y, y = x.b := ⟨_, rfl⟩
      rw [← hxb] at sb hcb
      rw [← hxz] at rs1 rs2 rs3
      rw [← hxt, ← hxn, ← hxz, ← hxb]
      obtain ⟨lb, hlb⟩ : ∃ y, y = xb.length := ⟨_, rfl⟩
      rw [← hlb] at hcb ⊢
      have HXT := Lib.hid hxt
      have HXN := Lib.hid hxn
      have HXZ := Lib.hid hxz
      have HXB := Lib.hid hxb
      have HLB := Lib.hid hlb
      have AB := Lib.hid (And.intro hab hcb)
      obtain ⟨CR, hCR⟩ : ∃ CR : Array Value, CR = #[.int .i64 (xt : Int), .int .i64 (xn : Int), .int .i64 (xz : Int), .slice Ab lb cb] := ⟨_, rfl⟩
      have KC := Lib.hid (show (Tryd.prog.info? 84).map (·.size) = some CR.size ∧ ZRc.size = CR.size ∧ CR.all (·.oneCell') = true by rw [hCR]; exact ⟨rc_info, rfl, by simp [Value.oneCell']⟩)
      rw [← hCR]
      have HCR := Lib.hid hCR
      clear hr hxt hxn hxz hxb hlb hCR hab hcb
      have HA := Lib.hid (show (wa.alloc (.cells ZRc 84)).heap[wa.heap.size]? = some (.cells ZRc 84 (0, 0)) from heap_alloc_new _ _)
      go_upto_region 4 with (refine wpList_store_row rfl _ _ _ rfl wa.heap.size CR rfl rfl 84 ZRc HA.out KC.out.1 KC.out.2.1 KC.out.2.2 ?_)
      obtain ⟨wb, hw⟩ : ∃ w', w' = (wa.alloc (.cells ZRc 84)).setRow wa.heap.size CR := ⟨_, rfl⟩
      have tt : Turn (fun _ => False) W3 wb := by rw [hw]; exact ta.trans (((Turn.refl (fun _ => False) wa).alloc _).setRow _ _ (fun h => by omega)) (fun _ _ h => h)
      obtain ⟨Q, hQ⟩ : ∃ Q, Q = wa.heap.size := ⟨_, rfl⟩
      have HQ := Lib.hid (show wb.heap[Q]? = some (.cells CR 84 (0, 0)) from by rw [hw, hQ]; exact setRow_heap _ _ _ _ _ _ HA.out)
      change Code.wp _ _ _ _ ((wa.alloc (.cells ZRc 84)).setRow wa.heap.size CR)
      rw [← hw, ← hQ]
      have QB : W3.heap.size ≤ Q := by rw [hQ]; exact ta.size
      have TT := Lib.hid tt
      have tz : Turn (fun _ => False) wa wb := by rw [hw]; exact ((Turn.refl (fun _ => False) wa).alloc _).setRow _ _ (fun h => by omega)
      have SB := Lib.hid (show SlN wb N' Ab (xb.map bv) from sb.turn tz (fun _ h => h.elim) (fun _ _ h => h))
      clear hw hQ HA ta tt sb
      have k0 : wb.cell? ⟨Q, 0, none⟩ = some (.int .i64 (xt : Int)) := by rw [cell_of_row _ _ _ _ _ _ HQ.out, HCR.out]; rfl
      have k1 : wb.cell? ⟨Q, 1, none⟩ = some (.int .i64 (xn : Int)) := by rw [cell_of_row _ _ _ _ _ _ HQ.out, HCR.out]; rfl
      have k2 : wb.cell? ⟨Q, 2, none⟩ = some (.int .i64 (xz : Int)) := by rw [cell_of_row _ _ _ _ _ _ HQ.out, HCR.out]; rfl
      have k3 : wb.cell? ⟨Q, 3, none⟩ = some (.slice Ab lb cb) := by rw [cell_of_row _ _ _ _ _ _ HQ.out, HCR.out]; rfl
      by_cases hxt : (xt : Int) = t
      rotate_left 1
      · have HE0 := Lib.hid (show E = (xs, u) by rw [HEE.out, scanI_other HR.out (.inl (by rw [← HXT.out]; exact hxt)), List.append_nil]; rfl)
        have dt : ((xt : Int) != t) = true := by rw [bne_iff_ne]; exact hxt
        clear hxt HEE
        go_wp2
        refine bodyPost_ret (results_tmp2 rfl _ _ _) rfl ?_
        refine ⟨Av, cv, by rw [HE0.out]; rfl, ?_, AV.out.2, by rw [HE0.out]; exact AV.out.1, HT.out.trans TT.out (fun _ _ h => h)⟩
        rw [HE0.out]
        exact ((HV.out.turn TT.out (fun _ h => h.elim) (fun i _ h => by rw [HN.out]; exact .inl h)).lst (own_sln (own_turn TT.out HO.out (fun _ _ h => h)) HNN.out))
      have dt : ((xt : Int) != t) = false := by rw [bne_eq_false_iff_eq]; exact hxt
      by_cases hxn : xn = xs.length
      rotate_left 1
      · have HE0 := Lib.hid (show E = (xs, u) by rw [HEE.out, scanI_other HR.out (.inr (by rw [← HXN.out]; exact hxn)), List.append_nil]; rfl)
        have dn : ((xn : Int) != (xs.length : Int)) = true := by rw [bne_iff_ne]; omega
        clear hxt hxn HEE
        go_wp2
        refine bodyPost_ret (results_tmp2 rfl _ _ _) rfl ?_
        refine ⟨Av, cv, by rw [HE0.out]; rfl, ?_, AV.out.2, by rw [HE0.out]; exact AV.out.1, HT.out.trans TT.out (fun _ _ h => h)⟩
        rw [HE0.out]
        exact ((HV.out.turn TT.out (fun _ h => h.elim) (fun i _ h => by rw [HN.out]; exact .inl h)).lst (own_sln (own_turn TT.out HO.out (fun _ _ h => h)) HNN.out))
      have dn : ((xn : Int) != (xs.length : Int)) = false := by rw [bne_eq_false_iff_eq]; omega
      have HNX := Lib.hid (show E = (xs ++ [xb] ++ (scanI (l.drop (64 * (u + xz))) t (xs ++ [xb]).length).1, u + xz + (scanI (l.drop (64 * (u + xz))) t (xs ++ [xb]).length).2) from by
        have h := scanI_some HR.out
        rw [← HXT.out, ← HXN.out, ← HXZ.out, ← HXB.out, hxt, hxn, HL2.out, List.drop_drop] at h
        rw [HEE.out, HL2.out, h]
        rw [List.length_append, List.length_singleton, show 64 * u + 64 * xz = 64 * (u + xz) by omega]
        simp [Nat.add_assoc])
      have HXS := Lib.hid hxn
      have hsb := TT.out.size
      have hO := own_turn TT.out HO.out (fun _ _ h => h)
      have O4 := Lib.hid hO
      have hx15 : xs.length ≤ 1000000 := by omega
      have hux : IntKind.i64.wrap ((u : Int) + (xz : Int)) = ((u + xz : Nat) : Int) := by rw [IntWalk.i64_in _ (by omega)]; omega
      have hwsz : w.heap.size ≤ W3.heap.size := hsz
      clear hxt hxn HEE hO
      go_upto_region 6 with fail
      go_step
      iterate 12 go_step
      refine wpList_append_any_at (o := ⟨some 39, _, _, _, _, _⟩) rfl _ _ 31 rfl w.heap.size 36 i0 (.slice none 0 0) 24 Tryd.underlying31 hi hz0 hz1 hz2 rfl _ xs.length vs rfl (O4.out.alloc _) (some ⟨wb.heap.size, 0, none⟩) 1 1 [.slice Ab lb cb] rfl (fun h => by cases h) rfl ?_ (one_slice Ab lb cb) ?_ ?_ ?_ ?_
      · intro j u hu
        exact ⟨_, rfl, World.news_of_block (heap_alloc_new wb (.cells #[.slice Ab lb cb] 36)) j u hu⟩
      · unfold maxLen; omega
      · omega
      · simp; omega
      intro v9 w9 own9 gr9 at9
      have t9 : Turn (fun i => some i = (Value.slice Av xs.length cv).ownBlock) wb w9 := (((Turn.refl _ wb).alloc (.cells #[.slice Ab lb cb] 36)).grown gr9 (fun i hi e => e))
      have hQn : ¬ (some Q = (Value.slice Av xs.length cv).ownBlock) := fun e => by have := (HO.out.lt Q e.symm).2; omega
      have hk2 := t9.cell k2 hQn
      have hv9 : TxtV w9 N' (xs ++ [xb]) (vs ++ [.slice Ab lb cb]) := by
        have h := (HV.out.turn TT.out (fun _ h => h.elim) (fun _ _ h => h)).add (x := xb) (by rw [← HLB.out]; exact AB.out.2) AB.out.1 SB.out
        rw [← HLB.out] at h
        exact h.turn t9 (fun i e => by rw [HN.out]; exact .inr (O4.out.lt i e.symm).1) (fun _ _ h => h)
      have HV9 := Lib.hid hv9
      have T9 := Lib.hid ((HT.out.trans TT.out (fun _ _ h => h)).trans t9 (fun i hi e => by have := (O4.out.lt i e.symm).1; omega))
      have HO9 := Lib.hid (show Srow w9 w.heap.size v9 (xs ++ [xb]).length (vs ++ [.slice Ab lb cb]) from by rw [List.length_append]; exact own9)
      have hxl : (xs ++ [xb]).length = xs.length + 1 := by rw [List.length_append]; rfl
      have hmz : 64 * (u + xz) ≤ n := by omega
      clear own9 gr9 at9 t9 hQn k0 k1 k2 k3 hv9 dt dn HO HV O4 SB TT HT hsb
      go_wp2
      go_roundw
      case rel => exact ⟨xs ++ [xb], vs ++ [.slice Ab lb cb], u + xz, by go_num, hmz, by omega, HO9.out, HV9.out, HNX.out, T9.out⟩
      case measure => simp [intOf]; omega
end
section
set_option linter.unusedVariables false
set_option linter.unusedSimpArgs false
open Go.RowKit
set_option maxRecDepth 100000
/-- The landed drum at g, over its own blocks. -/
def LD (w : World) (g n : Nat) (d : Dr) (D : Nat → Prop) : Prop := (Glob w ∧ ∀ k, D k → 2 ≤ k) ∧ ∃ Sv Wv, LMem w g Sv Wv d n D
theorem glob_turns {S : Nat → Prop} {w w' : World} (h : Glob w) (t : Turn S w w') (hS : ∀ k, S k → 2 ≤ k) : Glob w' := h.below (t.below (B := 2) (fun i _ hi => hS i hi) h.1) (Nat.le_refl _)
theorem glob_turn {w w' : World} (h : Glob w) (t : Turn (fun _ => False) w w') : Glob w' := glob_turns h t (fun _ h => h.elim)
theorem dn_two {D : Nat → Prop} {w w' : World} (hD : ∀ k, D k → 2 ≤ k) (h : 2 ≤ w.heap.size) : ∀ k, Dn D w w' k → 2 ≤ k := fun k hk => hk.elim (hD k) (fun h' => by have := h'.1; omega)
section
variable {w w2 : World} {g n : Nat} {d : Dr} {D : Nat → Prop}
theorem LD.glob (h : LD w g n d D) : Glob w := h.1.1
theorem LD.two (h : LD w g n d D) : ∀ k, D k → 2 ≤ k := h.1.2
theorem LD.keep {S : Nat → Prop} {w' : World} (h : LD w g n d D) (t : Turn S w w') (hS : ∀ k, D k → ¬ S k) (h2 : ∀ k, S k → 2 ≤ k) : LD w' g n d D := by
  obtain ⟨hg, Sv, Wv, h⟩ := h
  exact ⟨⟨glob_turns hg.1 t h2, hg.2⟩, Sv, Wv, h.keep t hS⟩
theorem LD.quiet {w' : World} (h : LD w g n d D) (t : Turn (fun _ => False) w w') : LD w' g n d D := h.keep t (fun _ _ h => h) (fun _ h => h.elim)
theorem LD.ok (h : LD w g n d D) : d.Ok n := by obtain ⟨-, _, _, h⟩ := h; exact h.ok
theorem LD.lt (h : LD w g n d D) : ∀ k, D k → k < w.heap.size := by obtain ⟨-, _, _, h⟩ := h; exact h.lt
theorem LD.own (h : LD w g n d D) : D g := by obtain ⟨-, _, _, h⟩ := h; exact h.ownG
theorem LD.few (h : LD w g n d D) : d.W.length ≤ 10000 := by obtain ⟨-, _, _, h⟩ := h; exact h.few
theorem LD.more {w' : World} (h : LD w' g n d D) (hs : 2 ≤ w.heap.size) : LD w' g n d (Dn D w w') := by obtain ⟨hg, Sv, Wv, h⟩ := h; exact ⟨⟨hg.1, dn_two hg.2 hs⟩, Sv, Wv, h.more⟩
theorem LD.new (n : Nat) (h1 : 1 ≤ n) (h2 : n ≤ 8192) (w : World) (hG : Glob w) : Calls Tryd.prog 10 #[.int .i64 (n : Int)] w fun r w' => ∃ g, r = .returned (.pointer (some ⟨g, 0, none⟩)) ∧ LD w' g n (Dr.new n) (Since w w') ∧ Turn (fun _ => False) w w' := by
  refine (new_any n h1 h2 w).mono ?_
  rintro r w' ⟨g, rfl, ⟨Sv, h⟩, hb⟩
  exact ⟨g, rfl, ⟨⟨glob_turn hG (Turn.of_below hb), fun k hk => by have := hG.1; have := hk.1; omega⟩, Sv, _, h⟩, Turn.of_below hb⟩
theorem LD.on (h : LD w g n d D) : Calls Tryd.prog 29 #[.pointer (some ⟨g, 0, none⟩)] w fun r w' => r = .returned (.bool (!d.off)) ∧ w' = w := by
  obtain ⟨hg, Sv, Wv, h⟩ := h
  exact lon_any g n Sv Wv d _ w h
theorem LD.len (h : LD w g n d D) : Calls Tryd.prog 31 #[.pointer (some ⟨g, 0, none⟩)] w fun r w' => r = .returned (.int .i64 (n : Int)) ∧ w' = w := by
  obtain ⟨hg, Sv, Wv, h⟩ := h
  exact llen_any g n Sv Wv d _ w h
theorem LD.read (h : LD w g n d D) (a : Int) : Calls Tryd.prog 49 #[.pointer (some ⟨g, 0, none⟩), .int .i64 a] w fun r w' => ∃ v, r = .returned (.tuple #[v, .int .i64 (d.readE a : Int)]) ∧ RdV w w' d a v ∧ Turn (fun _ => False) w w' := by
  obtain ⟨hg, Sv, Wv, h⟩ := h
  exact lread_any g n Sv Wv d _ a w h
theorem LD.write (h : LD w g n d D) (a : Int) (A : Option Addr) (c : Nat) (bb : List B8) (hM : SlN w D A (bb.map bv)) (hMl : bb.length ≤ maxLen) (hroom : d.W.length < 10000) :
    Calls Tryd.prog 26 #[.pointer (some ⟨g, 0, none⟩), .int .i64 a, .slice A bb.length c] w fun r w' => r = .returned (.int .i64 (d.writeE a bb : Int)) ∧ LD w' g n (d.write a bb) (Dn D w w') ∧ Turn D w w' := by
  obtain ⟨hg, Sv, Wv, h⟩ := h
  refine (lwrite_any g n Sv Wv d _ a A c bb w h hM hMl hroom).mono ?_
  rintro r w' ⟨hr, ⟨Wv', h1⟩, h2⟩
  exact ⟨hr, ⟨⟨glob_turns hg.1 h2 hg.2, dn_two hg.2 hg.1.1⟩, Sv, Wv', h1⟩, h2⟩
theorem LD.start (h : LD w g n d D) (A : Option Addr) (c : Nat) (M : List B8) (hM : SlN w D A (M.map bv)) (hMl : M.length ≤ maxLen) :
    Calls Tryd.prog 22 #[.pointer (some ⟨g, 0, none⟩), .slice A M.length c] w fun r w' => (∃ v, r = .returned v) ∧ LD w' g n (d.start M) D ∧ Turn D w w' := by
  obtain ⟨hg, Sv, Wv, h⟩ := h
  refine (lstart_any g n Sv Wv d _ A c M w h hM hMl).mono ?_
  rintro r w' ⟨hr, h1, h2⟩
  exact ⟨hr, ⟨⟨glob_turns hg.1 h2 hg.2, hg.2⟩, _, _, h1⟩, h2⟩
theorem LD.sync (h : LD w g n d D) : Calls Tryd.prog 59 #[.pointer (some ⟨g, 0, none⟩)] w fun r w' => r = .returned (.int .i64 (d.syncE : Int)) ∧ LD w' g n d.sync D ∧ Turn D w w' := by
  obtain ⟨hg, Sv, Wv, h⟩ := h
  refine (lsync_any g n Sv Wv d _ w h).mono ?_
  rintro r w' ⟨hr, ⟨Wv', h1⟩, h2⟩
  exact ⟨hr, ⟨⟨glob_turns hg.1 h2 hg.2, hg.2⟩, _, _, h1⟩, h2⟩
theorem LD.fuse (h : LD w g n d D) (a : Int) (ha : a < 9223372036854775808) : Calls Tryd.prog 20 #[.pointer (some ⟨g, 0, none⟩), .int .i64 a] w fun r w' => (∃ v, r = .returned v) ∧ LD w' g n (d.lay a) D ∧ Turn D w w' := by
  obtain ⟨hg, Sv, Wv, h⟩ := h
  refine (lfuse_any g n Sv Wv d _ a ha w h).mono ?_
  rintro r w' ⟨hr, h1, h2⟩
  exact ⟨hr, ⟨⟨glob_turns hg.1 h2 hg.2, hg.2⟩, _, _, h1⟩, h2⟩
end
theorem readE_on {d : Dr} {n : Nat} (h : OnD d n) {k : Nat} (hk : k < n) : d.readE (k : Int) = 0 := by
  unfold Dr.readE
  rw [h.ok.len, h.off, if_neg (by simp), if_pos (by omega)]
/-- A sector read. -/
theorem LD.sector {w : World} {g n : Nat} {d : Dr} {D : Nat → Prop} (h : LD w g n d D) (on : OnD d n) {k : Nat} (hk : k < n) : Calls Tryd.prog 49 #[.pointer (some ⟨g, 0, none⟩), .int .i64 (k : Int)] w fun r w' => ∃ A c, r = .returned (.tuple #[.slice A 64 c, .int .i64 0]) ∧ SlN w' (fun k => k < w.heap.size) A ((d.now k).map bv) ∧ (A = none → c = 0) ∧ Turn (fun _ => False) w w' := by
  have he := readE_on on hk
  refine (h.read (k : Int)).mono ?_
  rintro r w' ⟨v, rfl, hv, t⟩
  have hr : d.readV (k : Int) = d.now k := by unfold Dr.readV; rw [if_pos he]; rfl
  have hl := Dr.now_len h.ok k hk
  obtain ⟨A, c, rfl, h1, -⟩ := hv.sl h.ok
  rw [hr, hl, he]
  rw [hr] at h1
  refine ⟨A, c, rfl, h1, ?_, t⟩
  rintro rfl
  obtain ⟨x, hx⟩ : ∃ x, ((d.now k).map bv)[0]? = some x := ⟨_, List.getElem?_eq_getElem (by rw [List.length_map, hl]; omega)⟩
  obtain ⟨ad, e, -⟩ := h1 0 x hx
  cases e
end
section
set_option linter.unusedVariables false
set_option linter.unusedSimpArgs false
open Go.RowKit
set_option maxRecDepth 100000
/-- A scroll: its next sector, its end, its turn, its next number; gone: behind an error of the drum. -/
structure Scr where
  pos : Nat
  fin : Nat
  turn : Nat
  n : Nat
  gone : Bool
/-- Sectors written one by one, up to the first error. -/
def putR (d : Dr) (a : Nat) : List Sec → Dr × Nat
  | [] => (d, 0)
  | s :: l => if d.writeE (a : Int) s ≠ 0 then (d.write (a : Int) s, d.writeE (a : Int) s) else putR (d.write (a : Int) s) (a + 1) l
def secsOf (f : List B8) : Nat := f.length / 64
def Scr.form (s : Scr) (b : List B8) : List B8 := formV13 s.turn s.n b
def Scr.formE (s : Scr) (b : List B8) : Nat := formE13 s.turn s.n b
def Scr.all (s : Scr) (d : Dr) (b : List B8) : Dr × Nat := putR d s.pos (chunks (secsOf (s.form b)) (s.form b))
/-- The error of Put before the drum is asked. -/
def Scr.pre (s : Scr) (b : List B8) : Nat := if s.gone = true then 20 else if s.formE b ≠ 0 then s.formE b else if s.fin < s.pos + secsOf (s.form b) then 18 else 0
def Scr.putE (s : Scr) (d : Dr) (b : List B8) : Nat := if s.pre b ≠ 0 then s.pre b else (s.all d b).2
def Scr.putD (s : Scr) (d : Dr) (b : List B8) : Dr := if s.pre b ≠ 0 then d else (s.all d b).1
/-- The scroll behind a Put. -/
def Scr.PutS (s : Scr) (d : Dr) (b : List B8) (s' : Scr) : Prop := if s.pre b ≠ 0 then s' = s else if (s.all d b).2 = 0 then s' = ⟨s.pos + secsOf (s.form b), s.fin, s.turn, s.n + 1, false⟩ else s'.gone = true
def Scr.syncE (s : Scr) (d : Dr) : Nat := if s.gone = true then 20 else d.syncE
def Scr.syncD (s : Scr) (d : Dr) : Dr := if s.gone = true then d else d.sync
def Scr.SyncS (s : Scr) (d : Dr) (s' : Scr) : Prop := if s.syncE d = 0 then s' = s else s'.gone = true
/-- What Scan answers. -/
def inS (n : Nat) (a m : Int) : Prop := 0 ≤ a ∧ 0 ≤ m ∧ a ≤ n ∧ m ≤ n - a
instance (n : Nat) (a m : Int) : Decidable (inS n a m) := by unfold inS; exact inferInstance
def scanE (n : Nat) (d : Dr) (a m t : Int) : Nat := if t < 0 ∨ (mostS : Int) < t ∨ ¬ inS n a m then 1 else if d.off = true then 21 else 0
def scanV (n : Nat) (d : Dr) (a m t : Int) : List (List B8) × Nat := if scanE n d a m t ≠ 0 then ([], 0) else scanN (cutD d a.toNat m.toNat) t.toNat 0
def peekV (n : Nat) (d : Dr) (a m : Int) : Option Rc := if ¬ inS n a m ∨ d.off = true then none else match readS (cutD d a.toNat m.toNat) with
  | none => none
  | some r => if r.n = 0 then some r else none
/-- A scroll and its drum, each in its own blocks. -/
structure Ats (SB : World → Nat → Nat → Scr → (Nat → Prop) → Prop) (w : World) (g s n : Nat) (d : Dr) (sc : Scr) (D E : Nat → Prop) : Prop where
  ld : LD w g n d D
  sb : SB w s g sc E
  dj : ∀ k, E k → ¬ D k
  lt : ∀ k, E k → k < w.heap.size
theorem putR_on {n : Nat} : ∀ (l : List Sec) (d : Dr) (p : Nat), OnD d n → p + l.length ≤ n → (∀ s ∈ l, s.length = 64) → putR d p l = (Go.Proofs.YtajdcekkmikbcaaDoor.putD d p l, 0)
  | [], d, p, h, hp, hs => rfl
  | s :: l, d, p, h, hp, hs => by
    rw [List.length_cons] at hp
    have hw := h.writeE p (by omega) s (hs s (List.mem_cons_self ..))
    rw [putR, if_neg (by rw [hw]; simp)]
    exact putR_on l _ _ (h.write _ _) (by omega) fun x hx => hs x (List.mem_cons_of_mem _ hx)
theorem formV_ok {t n : Nat} {b : List B8} (h : formE13 t n b = 0) : formV13 t n b = formS t n b ∧ t ≤ mostS ∧ n ≤ mostS ∧ (fldS t n b).length ≤ 65524 := by
  refine ⟨by unfold formV13; rw [if_pos h]; rfl, ?_⟩
  unfold formE13 at h
  split at h
  · cases h
  · rename_i h1
    split at h
    · cases h
    · rename_i h2
      simp only [Int.toNat_natCast] at h2
      exact ⟨by omega, by omega, by omega⟩
theorem formE_ok {t n : Nat} {b : List B8} (ht : t ≤ mostS) (hn : n ≤ mostS) (hf : (fldS t n b).length ≤ 65524) : formE13 t n b = 0 := by
  unfold formE13
  rw [if_neg (by omega), if_neg (by simp only [Int.toNat_natCast]; omega)]
/-- A Put on a drum that is on: all is well. -/
theorem put_on {d : Dr} {n : Nat} {s : Scr} {b : List B8} (on : OnD d n) (hf : s.fin ≤ n) (h : s.pre b = 0) : s.putE d b = 0 ∧ s.putD d b = Go.Proofs.YtajdcekkmikbcaaDoor.putD d s.pos (chunks (secsOf (formS s.turn s.n b)) (formS s.turn s.n b)) ∧ OnD (s.putD d b) n ∧ ∀ s', s.PutS d b s' → s' = ⟨s.pos + secsOf (formS s.turn s.n b), s.fin, s.turn, s.n + 1, false⟩ := by
  have hp := h
  unfold Scr.pre at hp
  split at hp
  · cases hp
  · split at hp
    · rename_i h2; exact absurd hp h2
    · rename_i h2
      split at hp
      · cases hp
      · rename_i h3
        have he : s.formE b = 0 := by simpa using h2
        obtain ⟨e, -, -, -⟩ := formV_ok he
        have ef : s.form b = formS s.turn s.n b := e
        have hl : ∀ x ∈ chunks (secsOf (formS s.turn s.n b)) (formS s.turn s.n b), x.length = 64 := chunks_sec _ _ (by unfold secsOf; omega)
        have ha : s.all d b = (Go.Proofs.YtajdcekkmikbcaaDoor.putD d s.pos (chunks (secsOf (formS s.turn s.n b)) (formS s.turn s.n b)), 0) := by
          unfold Scr.all
          rw [ef]
          exact putR_on _ d s.pos on (by rw [chunks_len, ← ef]; omega) hl
        refine ⟨by unfold Scr.putE; rw [if_neg (by rw [h]; simp), ha], by unfold Scr.putD; rw [if_neg (by rw [h]; simp), ha], ?_, fun s' hs => ?_⟩
        · unfold Scr.putD; rw [if_neg (by rw [h]; simp), ha]
          exact (putD_on _ d s.pos on (by rw [chunks_len, ← ef]; omega) hl).1
        · unfold Scr.PutS at hs
          rw [if_neg (by rw [h]; simp), ha, if_pos rfl, ef] at hs
          exact hs
end
section
set_option linter.unusedVariables false
set_option linter.unusedSimpArgs false
open Go.RowKit
set_option maxRecDepth 100000
theorem putD_W {n : Nat} : ∀ (l : List Sec) (d : Dr) (p : Nat), OnD d n → p + l.length ≤ n → (∀ s ∈ l, s.length = 64) → (putD d p l).W.length = d.W.length + l.length
  | [], d, p, h, hp, hs => rfl
  | s :: l, d, p, h, hp, hs => by
    rw [List.length_cons] at hp ⊢
    rw [putD, putD_W l _ _ (h.write _ _) (by omega) fun x hx => hs x (List.mem_cons_of_mem _ hx), h.write_W p (by omega) s (hs s (List.mem_cons_self ..)), List.length_append, List.length_singleton]
    omega
/-- A scroll over the records put, of turn t in the stretch of m sectors from p on. -/
structure Gd (SB : World → Nat → Nat → Scr → (Nat → Prop) → Prop) (w : World) (g s n p m t : Nat) (d : Dr) (put : List (List B8)) (sure : Nat) (D E : Nat → Prop) : Prop where
  ats : Ats SB w g s n d ⟨p + secsS t 0 put, p + m, t, put.length, false⟩ D E
  inv : Inv d n p m t put sure
section
variable {SB : World → Nat → Nat → Scr → (Nat → Prop) → Prop} {w w' : World} {g s n p m t sure : Nat} {d : Dr} {put : List (List B8)} {D E S : Nat → Prop}
end
end
section
set_option linter.unusedVariables false
set_option linter.unusedSimpArgs false
open Go.RowKit
set_option maxRecDepth 100000
theorem klen_one {n : Nat} (h : 0 < n) (h2 : n < 256) : klen n = 1 := by rw [klen_pos (by omega), Nat.div_eq_of_lt h2, klen_zero]
theorem formS_length (t n : Nat) (b : List B8) : (formS t n b).length = 12 + (fldS t n b).length + secPad (12 + (fldS t n b).length) := laidS_len _
theorem made_bytes (n : Nat) : madeCells (Value.int .u8 0).cells (n * 1) = ((zeros n).map bv).toArray := by
  apply Array.ext'
  have h1 : ∀ u ∈ (madeCells (Value.int .u8 0).cells (n * 1)).toList, u = bv 0 := by
    intro u hu
    simp only [madeCells, Value.cells, Array.mem_toList_iff, Array.mem_map, Array.mem_range] at hu
    obtain ⟨i, -, rfl⟩ := hu
    rw [show i % (#[Value.int .u8 0] : Array Value).size = 0 from Nat.mod_one i]
    rfl
  rw [List.eq_replicate_of_mem h1]
  simp [madeCells, zeros]
theorem make_bytes (n : Nat) (hn : n ≤ 1000000) (w : World) : (Instr.makeSlice 36 (.int .i64 (n : Int)) (.int .i64 (n : Int))).run Tryd.prog w = .ok (.slice (some ⟨w.heap.size, 0, none⟩) n n) (w.alloc (.cells ((zeros n).map bv).toArray 5)) := by
  obtain ⟨i0, hi, hz0, hz1, hz2⟩ := info_parts info_u8
  have := run_makeSlice (P := Tryd.prog) (w := w) 36 5 i0 (.int .u8 0) Tryd.underlying36 hi hz0 .i64 .i64 (n : Int) (n : Int) (by omega) (by omega) (by rw [hz1]; omega) (by rw [hz2]; omega) (by omega)
  rw [hz1, Int.toNat_natCast, made_bytes] at this
  exact this
end
end Go.Proofs.YtajdcekkmikbcaaDoor
