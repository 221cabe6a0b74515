/- Merged: The contract of the document's 'Sum'. The document's digest: 'Of'. A region that draws its order, whose operations read, call and make memory: one walk in the text's order serves every order. Each operation has one value, or one fact on its value and the world that stays. No program is named here. 'ShaTells': its walk. 'ShaUnder': its walk. Two Ids compared, by the language's own ==. -/
import Derived.Test.YthbheobjhpmoeaaDoorM06
import Derived.Laws.AppendOwnNone
import Derived.Deep.Cut
import Derived.Still
import Derived.Below
import Derived.BigQuiet
import Derived.KernelRfl
import Derived.Test.YthbheobjhpmoeaaDoorM01
import Derived.Stop.BytesEq
namespace Go.Proofs.YthbheobjhpmoeaaDoor
section
set_option linter.unusedVariables false
open Go.RowKit

set_option maxRecDepth 100000 in
theorem info_u32 : (Tryd.prog.info? 31).map (fun i => (i.zero, i.size, i.bytes)) = some (some (.int .u32 0), 1, 4) := by kernel_rfl
set_option maxRecDepth 100000 in
theorem own_empty (w : World) (B : Nat) (e : TypeId) (hB : B ≤ w.heap.size) : (w.alloc (.cells #[] e)).ownsRow B e 1 (.slice (some ⟨w.heap.size, 0, none⟩) 0 0) 0 [] := by
  refine ⟨rfl, .inr ⟨w.heap.size, 0, #[], rfl, hB, heap_alloc_new _ _, ?_⟩⟩
  simp
set_option maxRecDepth 100000 in
theorem own_below {w w' : World} {B : Nat} {e : TypeId} {s n : Nat} {v : Value} {xs : List Value} (h : w.ownsRow B e s v n xs) (hb : Below w.heap.size w w') : w'.ownsRow B e s v n xs := by
  refine ⟨h.1, ?_⟩
  rcases h.2 with hn | ⟨g, cap, cur, rfl, hB, hgg, rest⟩
  · exact .inl hn
  · refine .inr ⟨g, cap, cur, rfl, hB, ?_, rest⟩
    rw [hb.block g (by rcases Nat.lt_or_ge g w.heap.size with h | h; exact h; rw [Array.getElem?_eq_none h] at hgg; cases hgg)]; exact hgg
def Stop (p : Prop) : Prop := p
set_option maxRecDepth 100000 in
theorem stop {p : Prop} (h : Stop p) : p := h
set_option maxRecDepth 100000 in
theorem stop_at {P : Program} {w : World} {ops : Array Oper} {rest : List Oper} {o : Oper} {a : Act} {Q : Exit → Act → World → Prop} (h : Stop (wpList P ops Q (o :: rest) a w)) : wpList P ops Q (o :: rest) a w := h
set_option maxRecDepth 100000 in
theorem byte_next (w3 : World) (B e : Nat) (v3 : Value) (N0 q : Nat) (P : List B8) (n : Nat) {x : Value} (g : w3.ownsRow B e 1 v3 (N0 + q + 1) ((P ++ (be8 n).take q).map bv ++ [x])) (hx : x = bv (BitVec.ofNat 8 (n / 2 ^ (8 * (7 - q))))) (hq : q < 8 := by omega) :
    w3.ownsRow B e 1 v3 (N0 + (q + 1)) ((P ++ (be8 n).take (q + 1)).map bv) := by
  have h : (be8 n).take (q + 1) = (be8 n).take q ++ [BitVec.ofNat 8 (n / 2 ^ (8 * (7 - q)))] := by
    rw [List.take_succ_eq_append_getElem (by simp [be8]; omega)]; simp [be8]
  rw [h, ← List.append_assoc, List.map_append, List.map_cons, List.map_nil, ← hx]; exact g
set_option maxRecDepth 100000 in
theorem wv_one (l : List W) : ∀ u ∈ l.map wv, u.oneCell' = true := by
  intro u hu; simp only [List.mem_map] at hu; obtain ⟨q, _, rfl⟩ := hu; rfl
set_option maxRecDepth 100000 in
theorem hgrow0 {B : Nat} {w wr w1 : World} {e : TypeId} {s n : Nat} {v : Value} {xs : List Value} (hown : wr.ownsRow B e s v n xs) {B0 : Nat} (hb : Below B0 w wr) (hB : B0 ≤ wr.heap.size) (h0 : B0 ≤ B) (hg : wr.grownBy w1 v.ownBlock) : Below B0 w w1 :=
  hb.grown hg hB (fun k hk => Nat.le_trans h0 (hown.lt k hk).1)
set_option maxRecDepth 100000 in
theorem one_new (w : World) (x : Value) (t : TypeId) : ∀ (j : Nat) (u : Value), [x][j]? = some u → ∃ ad, some (⟨w.heap.size, 0, none⟩ : Addr) = some ad ∧ (w.alloc (.cells #[x] t)).cell? (ad.add j) = some u := by
  intro j u h
  match j, h with
  | 0, h =>
    simp at h; subst h
    refine ⟨_, rfl, ?_⟩
    rw [show ((⟨w.heap.size, 0, none⟩ : Addr).add 0) = ⟨w.heap.size, 0, none⟩ from rfl, World.cell?_alloc_at _ _ _ _ rfl]; rfl
set_option maxRecDepth 100000 in
theorem wpList_empty {ops : Array Oper} {rest : List Oper} {o : Oper} {a : Act} {w : World} {Q : Exit → Act → World → Prop} (hgd : o.guard = none) (E : TypeId)
    (hrun : ∀ w, (execOp a.eval o).run Tryd.prog w = .ok (.value (.slice (some ⟨w.heap.size, 0, none⟩) 0 0)) (w.alloc (.cells #[] E)))
    (h : ∀ v1 w1, w1.ownsRow w.heap.size E 1 v1 0 [] → w1 = w.alloc (.cells #[] E) → wpList Tryd.prog ops Q rest (a.put o.dst v1) w1) : wpList Tryd.prog ops Q (o :: rest) a w := by
  refine wpList_plain hgd fun K hK => ?_
  unfold Oper.wp
  rw [hrun w]
  exact hK _ _ (h _ _ (own_empty w _ E (Nat.le_refl _)) rfl)
set_option maxRecDepth 100000 in
set_option maxHeartbeats 4000000 in
theorem rsum_any (A : Option Addr) (c : Nat) (b : List B8) (Ah : Option Addr) (ch : Nat) (v : V8) (gk ck : Nat) (K : List W) (w : World)
    (hb : Bts w A b) (hA : A = none → c = 0) (hc : b.length ≤ c) (hh : Wds w Ah v.list) (hk : ∀ i, i < 64 → w.cell? ⟨gk, i, none⟩ = some (.int .u32 ((K.getD i 0).toNat : Int))) (hlen : b.length ≤ 1099511627000) :
    Calls Tryd.prog 70 #[.slice A b.length c, .slice Ah 8 ch, .slice (some ⟨gk, 0, none⟩) 64 ck] w fun e w' => e = .returned (.agg ((digK K v b).map bv).toArray) ∧ Below w.heap.size w w' := by
  obtain ⟨i0, hi, hz0, hz1, hz2⟩ := info_parts info_u8
  obtain ⟨j0, hj, hy0, hy1, hy2⟩ := info_parts info_u32
  have Hb := Lib.hid hb
  have Hh := Lib.hid hh
  have Hk := Lib.hid hk
  clear hb hh hk
  obtain ⟨S, hS⟩ : ∃ S, S = Value.slice A b.length c := ⟨_, rfl⟩
  rw [← hS]
  have HS := Lib.hid hS
  clear hS
  go_enter Tryd.func70, Tryd.ntmps70
  have HA := Lib.hid hA
  clear hA
  go_wp2_with (first
    | (refine wpList_empty (o := ⟨some 25, _, _, _, _, _⟩) rfl 5 (fun w => by kernel_rfl) ?_; intro v0 w0 g1 g2; have hown0 := Lib.hid g1; have hw0 := Lib.hid g2; clear g1 g2)
    | (at_builtin; refine wpList_append_any (o := ⟨some 27, _, _, _, _, _⟩) rfl _ _ 22 rfl _ 5 i0 (.int .u8 0) 1 Tryd.underlying22 hi hz0 hz1 hz2 rfl _ 0 [] rfl hown0.out A b.length c (b.map bv) HS.out HA.out ?a1 ?a2 (bv_one b) ?a3 ?a4 ?a5 ?_))
  case a1 => exact List.length_map ..
  case a2 => rw [hw0.out]; exact Hb.out.below (((Below.refl _ _).alloc (Nat.le_refl _) _).alloc (by simp) _)
  case a3 => unfold maxLen; omega
  case a4 => omega
  case a5 => rw [hw0.out]; simp
  intro v1 w1 g1 g2
  have hown1 := Lib.hid g1
  have hb1 := Lib.hid (hgrow0 hown0.out (B0 := w.heap.size) (by rw [hw0.out]; exact ((Below.refl w.heap.size w).alloc (Nat.le_refl _) _).alloc (by simp) _) (by rw [hw0.out]; simp; omega) (by simp) g2)
  have hr1 : ∃ Z, w1.heap[w.heap.size]? = some (.cells Z 73 (0, 0)) ∧ 32 = Z.size := by
    refine ⟨_, (g2.block _ (by rw [hw0.out]; simp; omega) (fun e => ?_)).trans (by rw [hw0.out]; exact heap_alloc2_old _ _ _), rfl⟩
    have := (hown0.out.lt _ e.symm).1
    simp at this; omega
  have hl1 : w.heap.size + 1 ≤ w1.heap.size := by have := g2.size; rw [hw0.out] at this; simp at this; omega
  have HR1 := Lib.hid hr1
  have hsome := Lib.hid (show some (⟨w1.heap.size, 0, none⟩ : Addr) = none → 1 = 0 from fun h => by cases h)
  clear g1 g2 hr1
  go_wp2_with (at_builtin; refine stop ?_)
  unfold Stop
  refine wpList_append_any (o := ⟨some 29, _, _, _, _, _⟩) rfl _ _ 22 rfl _ 5 i0 (.int .u8 0) 1 Tryd.underlying22 hi hz0 hz1 hz2 rfl _ _ _ rfl (hown1.out.alloc _) (some ⟨w1.heap.size, 0, none⟩) 1 1 [.int .u8 128] rfl hsome.out rfl (one_new w1 _ _) ?b1 ?b2 ?b3 ?b4 ?_
  case b1 => intro u hu; simp at hu; subst hu; rfl
  case b2 => unfold maxLen; omega
  case b3 => omega
  case b4 => simp; omega
  intro v2 w2 g1 g2
  have hB0 := hown1.out.lt
  have hw0s : w0.heap.size = w.heap.size + 2 := by rw [hw0.out]; simp
  have hown2 := Lib.hid (show w2.ownsRow (w.heap.size + 1) 5 1 v2 (b.length + 1 + 0) ((b ++ [128] ++ zeros 0).map bv) by
    have g := g1
    simpa [bv, zeros, hw0.out] using g)
  have hb2 := Lib.hid (hgrow0 (B := w.heap.size + 1) (hown1.out.alloc _) (hb1.out.alloc (by omega) _) (by simp; omega) (by omega) g2)
  have hr2 : ∃ Z, w2.heap[w.heap.size]? = some (.cells Z 73 (0, 0)) ∧ 32 = Z.size := by
    obtain ⟨Z, h1, h2⟩ := HR1.out
    exact ⟨Z, (g2.block _ (by simp; omega) (fun e => by have := (hB0 _ e.symm).1; omega)).trans ((Below.heap_alloc _ _ _ (by omega)).trans h1), h2⟩
  have hl2 : w.heap.size + 1 ≤ w2.heap.size := by have := g2.size; simp at this; omega
  have HR2 := Lib.hid hr2
  clear g1 g2 hr2 hB0 hsome hw0s
  obtain ⟨z, hz⟩ : ∃ z, z = (119 - b.length % 64) % 64 := ⟨_, rfl⟩
  have HZ := Lib.hid hz
  have hz63 : z ≤ 63 := by omega
  clear hz
  go_wp2_with fail
  go_loopw [7] (fun vv wr => ∃ j : Nat, j ≤ z ∧ wr.ownsRow (w.heap.size + 1) 5 1 vv (b.length + 1 + j) ((b ++ [128] ++ zeros j).map bv) ∧ Below w.heap.size w wr ∧ (∃ Z, wr.heap[w.heap.size]? = some (.cells Z 73 (0, 0)) ∧ 32 = Z.size) ∧ w.heap.size + 1 ≤ wr.heap.size) (fun vv _ => b.length + 1 + z - lenV vv)
  case atStart => exact ⟨0, Nat.zero_le _, hown2.out, hb2.out, HR2.out, hl2⟩
  case round =>
    clear hown2 hb2 HR2 hl2 hown1 hb1 HR1 hl1 hown0 hw0
    obtain ⟨j, hj9, hown, hb, hr, hl⟩ := hrel
    obtain ⟨Am, cm, hvm, hsm, -⟩ := Sl.of_own hown
    by_cases hlt : j < z
    · have t1 : (((b.length : Int) + 1 + j) % 64 != 56) = true := by have := HZ.out; simp; omega
      subst hvm
      go_upto_region 3 with fail
      go_step
      iterate 6 go_step
      refine wpList_append_any (o := ⟨some 36, _, _, _, _, _⟩) rfl _ _ 22 rfl _ 5 i0 (.int .u8 0) 1 Tryd.underlying22 hi hz0 hz1 hz2 rfl _ _ _ rfl (hown.alloc _) (some ⟨wr.heap.size, 0, none⟩) 1 1 [.int .u8 0] rfl (fun h => by cases h) rfl (one_new wr _ _) ?d1 ?d2 ?d3 ?d4 ?_
      case d1 => intro u hu; simp at hu; subst hu; rfl
      case d2 => unfold maxLen; omega
      case d3 => omega
      case d4 => simp; omega
      intro v3 w3 g1 g2
      have hlt3 := hown.lt
      have hown3 := Lib.hid (show w3.ownsRow (w.heap.size + 1) 5 1 v3 (b.length + 1 + (j + 1)) ((b ++ [128] ++ zeros (j + 1)).map bv) by
        have e : (b ++ [128] ++ zeros (j + 1)).map bv = (b ++ [128] ++ zeros j).map bv ++ [.int .u8 0] := by
          rw [show zeros (j + 1) = zeros j ++ [0] by simp [zeros, List.replicate_succ'], ← List.append_assoc, List.map_append]; rfl
        rw [e]; exact g1)
      have hb3 := Lib.hid (hgrow0 (B := w.heap.size + 1) (hown.alloc _) (hb.alloc (by omega) _) (by simp; omega) (by omega) g2)
      have hr3 : ∃ Z, w3.heap[w.heap.size]? = some (.cells Z 73 (0, 0)) ∧ 32 = Z.size := by
        obtain ⟨Z, h1, h2⟩ := hr
        exact ⟨Z, (g2.block _ (by simp; omega) (fun e => by have := (hlt3 _ e.symm).1; omega)).trans ((Below.heap_alloc _ _ _ (by omega)).trans h1), h2⟩
      have hl3 : w.heap.size + 1 ≤ w3.heap.size := by have := g2.size; simp at this; omega
      have HR3 := Lib.hid hr3
      have hlv := Lib.hid (show lenV v3 = b.length + 1 + (j + 1) by obtain ⟨A3, c3, e3, -, -⟩ := Sl.of_own hown3.out; rw [e3]; rfl)
      clear g1 g2 hr3 hlt3 hown hb hr hsm
      go_wp2_with fail
      go_roundw
      case rel => exact ⟨j + 1, by omega, hown3.out, hb3.out, HR3.out, hl3⟩
      case measure => rw [hlv.out]; simp [lenV]; omega
    · obtain rfl : j = z := by omega
      have t1 : (((b.length : Int) + 1 + j) % 64 != 56) = false := by have := HZ.out; simp; omega
      have HVM := Lib.hid hvm
      have H0 := Lib.hid hown
      subst hvm
      have e := HS.out
      subst e
      have HB := Lib.hid hb
      have HR := Lib.hid hr
      clear hown hb hr hsm
      go_wp2_with fail
      obtain ⟨P0, hP0⟩ : ∃ P0, P0 = b ++ [128] ++ zeros j := ⟨_, rfl⟩
      obtain ⟨N0, hN0⟩ : ∃ N0, N0 = b.length + 1 + j := ⟨_, rfl⟩
      have HP0 := Lib.hid hP0
      have HN0 := Lib.hid hN0
      have hN1 : N0 ≤ 1099511627700 := by omega
      rw [← hP0, ← hN0] at H0
      rw [← hN0]
      clear hP0 hN0 t1
      go_loopw [7, 9] (fun vv i wi => ∃ (q : Nat) (zi : Int), q ≤ 8 ∧ zi ≤ 7 - (q : Int) ∧ 7 - (q : Int) ≤ zi ∧ i = .int .i64 zi ∧ wi.ownsRow (w.heap.size + 1) 5 1 vv (N0 + q) ((P0 ++ (be8 (8 * b.length)).take q).map bv) ∧ Below w.heap.size w wi ∧ (∃ Z, wi.heap[w.heap.size]? = some (.cells Z 73 (0, 0)) ∧ 32 = Z.size) ∧ w.heap.size + 1 ≤ wi.heap.size) (fun _ i _ => (intOf i + 1).toNat)
      case atStart => exact ⟨0, 7, by omega, by omega, by omega, rfl, by simpa using H0.out, HB.out, HR.out, hl⟩
      case round =>
        clear HB HR hl
        obtain ⟨q, zi, hq, hz1, hz2, rfl, hown, hb, hr, hl⟩ := hrel
        by_cases hq8 : q < 8
        · have hqs : q = 0 ∨ q = 1 ∨ q = 2 ∨ q = 3 ∨ q = 4 ∨ q = 5 ∨ q = 6 ∨ q = 7 := by omega
          have hzi : zi = 7 - (q : Int) := by omega
          subst hzi
          clear hz1 hz2 hq hq8
          rcases hqs with rfl | rfl | rfl | rfl | rfl | rfl | rfl | rfl
          all_goals
            have hlt3 := hown.lt
            go_upto_region 8 with fail
            go_step
            iterate 21 go_step
            refine wpList_append_any (o := ⟨some 52, _, _, _, _, _⟩) rfl _ _ 22 rfl _ 5 i0 (.int .u8 0) 1 Tryd.underlying22 hi hz0 hz1 hz2 rfl _ _ _ rfl (hown.alloc _) (some ⟨wr.heap.size, 0, none⟩) 1 1 [_] rfl (fun h => by cases h) rfl (one_new wr _ _) ?_ ?_ ?_ ?_ ?_
            · intro u hu; simp at hu; subst hu; rfl
            · unfold maxLen; omega
            · omega
            · simp; omega
            intro v3 w3 g1 g2
            have hown3 := Lib.hid (byte_next _ _ _ _ _ _ _ _ g1 (by unfold bv; congr 1; rw [BitVec.toNat_ofNat]; simp; omega))
            have hb3 := Lib.hid (hgrow0 (B := w.heap.size + 1) (hown.alloc _) (hb.alloc (by omega) _) (by simp; omega) (by omega) g2)
            have hr3 : ∃ Z, w3.heap[w.heap.size]? = some (.cells Z 73 (0, 0)) ∧ 32 = Z.size := by
              obtain ⟨Z, h1, h2⟩ := hr
              exact ⟨Z, (g2.block _ (by simp; omega) (fun e => by have := (hlt3 _ e.symm).1; omega)).trans ((Below.heap_alloc _ _ _ (by omega)).trans h1), h2⟩
            have hl3 : w.heap.size + 1 ≤ w3.heap.size := by have := g2.size; simp at this; omega
            have HR3 := Lib.hid hr3
            clear g1 g2 hr3 hlt3 hown hb hr
            go_wp2_with fail
            go_roundw
            case rel => exact ⟨_, _, by omega, by omega, by omega, rfl, hown3.out, hb3.out, HR3.out, hl3⟩
            case measure => simp [intOf]
        · obtain rfl : q = 8 := by omega
          obtain rfl : zi = -1 := by omega
          have hPl : N0 + 8 = (pad b).length ∧ P0 ++ (be8 (8 * b.length)).take 8 = pad b := by
            have e8 : (be8 (8 * b.length)).take 8 = be8 (8 * b.length) := List.take_of_length_le (by simp [be8])
            have ep : P0 ++ be8 (8 * b.length) = pad b := by rw [HP0.out, HZ.out]; rfl
            rw [e8]
            exact ⟨by rw [HN0.out, ← ep, HP0.out]; simp [be8, zeros]; omega, ep⟩
          rw [hPl.1, hPl.2] at hown
          obtain ⟨T, hT⟩ : ∃ T, (pad b).length = 64 * T := ⟨(pad b).length / 64, by have := pad_len b; omega⟩
          have hTb : 64 * T ≤ 1099511627708 := by rw [← hPl.1] at hT; omega
          obtain ⟨gm, capm, hvm2, hgm1, hgm2⟩ := hown.form (by omega)
          have HT := Lib.hid hT
          rw [hT] at hvm2
          have hsM : ∀ i, i < 64 * T → wr.cell? ⟨gm, i, none⟩ = some (bv ((pad b).getD i 0)) := fun i hi => by
            have hv := hown
            rw [hT, hvm2] at hv
            rw [hv.cellAt i (by omega), List.getElem?_map, List.getD_eq_getElem?_getD, List.getElem?_eq_getElem (by omega)]; rfl
          subst hvm2
          have HSM := Lib.hid hsM
          have HB2 := Lib.hid hb
          have HR2 := Lib.hid hr
          clear hsM hb hr hown hT hPl hq hz1 hz2 hq8
          go_upto_region 9 with fail
          go_step
          refine wpList_empty (o := ⟨some 53, _, _, _, _, _⟩) rfl 31 (fun w => by kernel_rfl) ?_
          intro vh0 wh0 hownh hwh
          have hhs : wh0.heap.size = wr.heap.size + 1 := by rw [hwh]; simp
          have hbh : Below wr.heap.size wr wh0 := by rw [hwh]; exact (Below.refl _ _).alloc (Nat.le_refl _) _
          have hWh : Wds wh0 Ah v.list := by
            have hl9 := hl
            exact (Hh.out.below HB2.out).below (by rw [hwh]; exact (Below.refl _ _).alloc (Nat.le_refl _) _)
          have HWH := Lib.hid hWh
          have hAh : Ah = none → ch = 0 := fun h => by
            obtain ⟨ad, e, _⟩ := Hh.out 0 (wv v.a) rfl
            rw [h] at e; cases e
          have HAH := Lib.hid hAh
          have HHW := Lib.hid hwh
          have HBH := Lib.hid hbh
          have HHO := Lib.hid hownh
          clear hWh hAh hwh hownh hbh
          iterate 3 go_step
          refine wpList_append_any (o := ⟨some 55, _, _, _, _, _⟩) rfl _ _ 125 rfl wr.heap.size 31 j0 (.int .u32 0) 4 Tryd.underlying125 hj hy0 hy1 hy2 rfl vh0 0 [] rfl HHO.out Ah 8 ch (v.list.map wv) rfl HAH.out rfl HWH.out (wv_one _) ?_ ?_ ?_ ?_
          · unfold maxLen; omega
          · omega
          · omega
          intro vh wh1 g1 g2
          have HO1 := Lib.hid (show wh1.ownsRow wr.heap.size 31 1 vh 8 ((absorb K v (pad b) 0).list.map wv) from by simpa [absorb] using g1)
          have HB3 := Lib.hid (hgrow0 HHO.out HBH.out (by omega) (Nat.le_refl _) g2)
          have hls : wr.heap.size < wh1.heap.size := by have := g2.size; omega
          clear g1 g2 HWH HAH HHW HBH HHO hhs
          obtain ⟨wm, rfl⟩ : ∃ wm : World, wm = wr := ⟨_, rfl⟩
          generalize hH1 : wm.heap.size = H1 at *
          have HH1 := Lib.hid hH1
          clear hH1
          go_wp2_with fail
          clear HN0 HZ HP0
          go_loopw [10, 11, 12, 13, 14, 15, 16, 17, 18, 19, 20, 21, 22] (fun at0 _ _ _ _ _ _ _ _ _ _ _ _ wr => ∃ n : Nat, n ≤ T ∧ at0 = .int .i64 ((64 : Int) * (n : Int)) ∧ wr.ownsRow H1 31 1 vh 8 ((absorb K v (pad b) n).list.map wv) ∧ Below H1 wm wr ∧ H1 < wr.heap.size) (fun at0 _ _ _ _ _ _ _ _ _ _ _ _ _ => 64 * T - (intOf at0).toNat)
          case atStart => exact ⟨0, Nat.zero_le _, rfl, HO1.out, HB3.out, hls⟩
          case round =>
            clear HO1 HB3 hls
            obtain ⟨n, hn, rfl, hown, hb, hl3⟩ := hrel
            obtain ⟨wo, rfl⟩ : ∃ wo : World, wo = wr := ⟨_, rfl⟩
            by_cases hlt : n < T
            · obtain ⟨u, hu⟩ : ∃ u, u = absorb K v (pad b) n := ⟨_, rfl⟩
              obtain ⟨blk, hblk⟩ : ∃ blk, blk = ((pad b).drop (64 * n)).take 64 := ⟨_, rfl⟩
              have HUN := Lib.hid (show absorb K v (pad b) (n + 1) = comp K u blk by rw [hu, hblk]; rfl)
              rw [← hu] at hown
              have hB1 : ∀ i, i < 64 → wo.cell? ⟨gm, 64 * n + i, none⟩ = some (bv (blk.getD i 0)) := fun i hi => by
                have hg : gm < H1 := by rw [← HH1.out]; exact World.block_lt_of_cell? _ _ (HSM.out 0 (by omega))
                rw [hb.cell (p := ⟨gm, 64 * n + i, none⟩) hg, HSM.out (64 * n + i) (by omega), hblk]
                congr 2
                rw [List.getD_eq_getElem?_getD, List.getD_eq_getElem?_getD, List.getElem?_take, if_pos hi, List.getElem?_drop]
              have HB1 := Lib.hid hB1
              have HOW := Lib.hid hown
              have HBO := Lib.hid hb
              have HU := Lib.hid hu
              obtain ⟨Hw, hHw⟩ : ∃ Hw, Hw = wo.heap.size := ⟨_, rfl⟩
              have HHw := Lib.hid hHw
              have hHw1 : H1 < Hw := by omega
              have hgm1 : gm < H1 := by rw [← HH1.out]; exact World.block_lt_of_cell? _ _ (HSM.out 0 (by omega))
              have hgw : gm < Hw := by omega
              clear hu hblk hB1 hown hb hHw
              go_wp2_with fail
              refine sched_loop gm (64 * T) _ n Hw blk wo _ _ _ _ _ _ _ _ _ _ _ _ _ _ _ _ _ _ _ _ _ _ _ _ _ _ _ _ _ _ _ _ _ _ _ _ _ _ _ _ _ _ _ _ _ _ _ _ _ _ _ _ _ _ _ _ _ _ _ _ _ _ _ _ _ _ _ _ _ _ _ _ _ _ _ _ _ _ _ _ _ _ _ _ _ _ _ _ _ _ _ _ _ _ _ _ _ _ _ _ _ _ _ _ _ _ _ _ _ _ _ _ _ _ _ _ _ _ _ _ _ _ _ _ _ _ _ _ _ _ _ _ _ _ _ _ _ _ _ _ _ _ _ _ _ _ _ _ _ _ _ _ _ _ _ _ _ _ _ _ _ _ _ _ _ _ _ _ _ _ _ _ _ _ _ _ _ _ _ _ _ _ _ _ _ _ _ _ _ _ _ _ _ _ _ _ _ _ _ _ _ _ _ _ _ _ _ _ _ _ _ _ _ _ _ _ _ _ _ _ _ _ _ _ _ _ _ _ _ _ _ _ _ _ _ _ _ _ _ _ _ _ _ _ _ _ _ _ _ _ _ _ _ _ _ _ _ _ _ _ _ _ _ _ _ _ _ _ _ _ _ _ _ _ _ _ _ _ _ _ _ _ _ _ _ _ _ _ _ _ _ _ _ _ _ _ _ _ _ _ _ _ _ _ _ _ _ _ _ _ _ _ _ _ _ _ _ _ _ _ _ (by omega) (by omega) HHw.out hgw HB1.out ?_
              intro u13 u14 u62 u63 u64 u65 u66 u67 u68 u69 u70 u71 u72 u73 u74 u75 u76 u77 u78 u79 u80 u81 u82 u83 u84 u85 u86 u87 u88 u89 u90 u91 u92 u93 u94 u95 u96 u97 u98 u99 u100 u101 u102 u103 u104 u105 u106 u107 u108 u109 u110 u111 u112 u113 u114 u115 u116 u117 u118 u119 u120 u121 u122 u123 u124 u125 u126 u127 u128 u129 u130 u131 u132 u133 u134 u135 u136 u137 u138 u139 u140 u141 u142 u143 u144 u145 u146 u147 u148 u149 u150 u151 u152 u153 u154 u155 u156 u157 u158 u159 u160 u161 u162 u163 u164 u165 u166 u167 u168 u169 v4 w4 hown4 hb4
              have HO4 := Lib.hid hown4
              have HB4 := Lib.hid hb4
              clear hown4 hb4
              obtain ⟨gh, chh, hvh, hgh1, hgh2⟩ := HOW.out.form (by omega)
              subst hvh
              have hWu : Wds w4 (some ⟨gh, 0, none⟩) u.list := by
                obtain ⟨A9, c9, e9, s9, -⟩ := Sl.of_own HOW.out
                injection e9 with e9 _ _
                subst e9
                exact Wds.below (fun j x hx => by obtain ⟨ad, h1, -, h2⟩ := s9 j x hx; exact ⟨ad, h1, h2⟩) (by rw [← HHw.out]; exact HB4.out)
              have HWU := Lib.hid hWu
              clear hWu
              go_upto_region 22 with fail
              go_step
              refine wpList_empty (o := ⟨some 170, _, _, _, _, _⟩) rfl 31 (fun w => by kernel_rfl) ?_
              intro vh5 wh5 hown5 hwh5
              have hWh5 : Wds wh5 (some ⟨gh, 0, none⟩) u.list := HWU.out.below (by rw [hwh5]; exact (Below.refl _ _).alloc (Nat.le_refl _) _)
              have HO5 := Lib.hid hown5
              have HWH5 := Lib.hid hWh5
              have HE5 := Lib.hid hwh5
              clear hown5 hWh5
              have hsz5 : wh5.heap.size = w4.heap.size + 1 := by rw [hwh5]; simp
              have hws4 : Hw ≤ w4.heap.size := by have := HB4.out.size; have := HHw.out; omega
              have HB5 := Lib.hid (show Below Hw wo wh5 by rw [hwh5]; exact HB4.out.alloc hws4 _)
              clear hwh5
              iterate 3 go_step
              refine wpList_append_any (o := ⟨some 172, _, _, _, _, _⟩) rfl _ _ 125 rfl w4.heap.size 31 j0 (.int .u32 0) 4 Tryd.underlying125 hj hy0 hy1 hy2 rfl vh5 0 [] rfl HO5.out (some ⟨gh, 0, none⟩) 8 chh (u.list.map wv) rfl (fun h => by cases h) rfl HWH5.out (wv_one _) ?_ ?_ ?_ ?_
              · unfold maxLen; omega
              · omega
              · omega
              intro v5 w5 g1 g2
              have hb5 := hgrow0 HO5.out HB5.out (by omega) hws4 g2
              have hb45 : Below w4.heap.size w4 w5 := hgrow0 (B0 := w4.heap.size) HO5.out (by rw [HE5.out]; exact (Below.refl _ _).alloc (Nat.le_refl _) _) (by omega) (Nat.le_refl _) g2
              rw [Nat.zero_add, List.nil_append] at g1
              obtain ⟨gv, cv, hv5, hgv1, hgv2⟩ := g1.form (by omega)
              obtain ⟨gw, cw, hv4, hgw1, hgw2⟩ := HO4.out.form (by omega)
              subst hv5 hv4
              have he5 : Eight w5 gv u := fun i hi => by
                rw [g1.cellAt i (by omega), List.getElem?_map, List.getD_eq_getElem?_getD, List.getElem?_eq_getElem (by rw [v8_len]; omega)]; rfl
              have hgw4 : gw < w4.heap.size := by
                have h := HO4.out.cellAt 0 (by omega)
                rw [List.getElem?_map, List.getElem?_eq_getElem (by rw [sch_len]; omega)] at h
                exact World.block_lt_of_cell? _ _ h
              have hm5 : ∀ i, i < 64 → w5.cell? ⟨gw, i, none⟩ = some (.int .u32 (((sch blk 64).getD i 0).toNat : Int)) := fun i hi => by
                rw [hb45.cell (p := ⟨gw, i, none⟩) hgw4, HO4.out.cellAt i (by omega), List.getElem?_map, List.getD_eq_getElem?_getD, List.getElem?_eq_getElem (by rw [sch_len]; omega)]; rfl
              have hkw : gk < w.heap.size := World.block_lt_of_cell? _ _ (Hk.out 0 (by omega))
              have hkm : gk < H1 := by have := HB2.out.size; have := HH1.out; omega
              have hk5 : ∀ i, i < 64 → w5.cell? ⟨gk, i, none⟩ = some (.int .u32 ((K.getD i 0).toNat : Int)) := fun i hi => by
                rw [hb5.cell (p := ⟨gk, i, none⟩) (by show gk < Hw; omega), HBO.out.cell (p := ⟨gk, i, none⟩) hkm, HB2.out.cell (p := ⟨gk, i, none⟩) hkw]; exact Hk.out i hi
              have HG1 := Lib.hid g1
              have HE8 := Lib.hid he5
              have HM5 := Lib.hid hm5
              have HK5 := Lib.hid hk5
              have HB6 := Lib.hid hb5
              have hs5 : w4.heap.size < w5.heap.size := by have := g2.size; omega
              have HB45 := Lib.hid hb45
              clear g1 g2 he5 hm5 hk5 hb5 hb45
              go_wp2_with fail
              refine rounds_loop w4.heap.size gk ck gw cw gv cv w5.heap.size K (sch blk 64) u _ _ _ _ _ _ _ _ _ _ _ _ _ _ _ _ _ _ _ _ _ _ _ _ _ _ _ _ _ _ _ _ _ _ _ _ _ _ _ _ _ _ _ _ _ _ _ _ _ _ _ _ _ _ _ _ _ _ _ _ _ _ _ _ _ _ _ _ _ _ _ _ _ _ _ _ _ _ _ _ _ _ _ _ _ _ _ _ _ _ _ _ _ _ _ _ _ _ _ _ _ _ _ _ _ _ _ _ _ _ _ _ _ _ _ _ _ _ _ _ _ _ _ _ _ _ _ _ _ _ _ _ _ _ _ _ _ _ _ _ _ _ _ _ _ _ _ _ _ _ _ _ _ _ _ _ _ _ _ _ _ _ _ _ _ _ _ _ _ _ _ _ _ _ _ _ _ _ _ _ _ _ _ _ _ _ _ _ _ _ _ _ _ _ _ _ _ _ _ _ _ _ _ _ _ _ _ _ _ _ _ _ _ _ _ _ _ _ _ _ _ _ _ _ _ _ _ _ _ _ _ _ _ _ _ _ _ _ _ _ _ _ _ _ _ _ _ _ _ _ _ _ _ _ _ _ _ _ _ _ _ _ _ _ _ _ _ _ _ _ _ _ _ _ _ _ _ _ _ _ _ _ _ _ _ _ _ _ _ _ _ _ _ _ _ _ _ _ _ _ _ _ _ _ _ _ _ _ _ _ _ _ _ _ _ _ _ _ _ _ _ _ (by omega) (by omega) rfl (by omega) (by omega) HK5.out HM5.out HE8.out ?_
              intro u17 u18 u19 u20 u21 u173 u174 u175 u176 u177 u178 u179 u180 u181 u182 u183 u184 u185 u186 u187 u188 u189 u190 u191 u192 u193 u194 u195 u196 u197 u198 u199 u200 u201 u202 u203 u204 u205 u206 u207 u208 u209 u210 u211 u212 u213 u214 u215 u216 u217 u218 u219 u220 u221 u222 u223 u224 u225 u226 u227 u228 u229 u230 u231 u232 u233 u234 u235 u236 u237 u238 u239 u240 u241 u242 u243 u244 u245 u246 u247 u248 u249 u250 u251 u252 u253 u254 u255 u256 u257 u258 u259 u260 u261 u262 u263 u264 u265 u266 u267 u268 u269 u270 u271 u272 u273 u274 u275 u276 u277 u278 u279 u280 u281 u282 u283 u284 u285 u286 u287 u288 u289 g' c' w6 he6 hb6 hlo6
              obtain ⟨wx, hwx⟩ : ∃ wx, wx = w6 := ⟨_, rfl⟩
              have hgv9 : g' ≠ gh := by have := HHw.out; omega
              have hb46 : Below w4.heap.size w4 w6 := HB45.out.trans (hb6.mono (by omega))
              have hb06 : Below Hw wo w6 := HB6.out.trans (hb6.mono (by omega))
              have ho6 : w6.ownsRow H1 31 1 (.slice (some ⟨gh, 0, none⟩) 8 chh) 8 (u.list.map wv) := own_below HOW.out (by rw [← HHw.out]; exact hb06)
              have HB9 := Lib.hid hb06
              have HS9 : H1 < w6.heap.size := by have := hb06.size; have := HHw.out; omega
              have HO9 := Lib.hid ho6
              have HE9 := Lib.hid he6
              clear hb46 hb06 ho6 he6 hb6 hwx
              go_wp2_with fail
              refine adds_loop gh chh g' c' H1 u (V8.run K (sch blk 64) u 64) w6 _ _ _ _ _ _ _ _ _ _ _ _ _ _ _ _ _ _ _ _ _ _ _ _ _ _ _ _ _ _ _ _ _ _ _ _ _ _ _ _ _ _ _ _ _ _ _ _ _ _ _ _ _ _ _ _ _ _ _ _ _ _ _ _ _ _ _ _ _ _ _ _ _ _ _ _ _ _ _ _ _ _ _ _ _ _ _ _ _ _ _ _ _ _ _ _ _ _ _ _ _ _ _ _ _ _ _ _ _ _ _ _ _ _ _ _ _ _ _ _ _ _ _ _ _ _ _ _ _ _ _ _ _ _ _ _ _ _ _ _ _ _ _ _ _ _ _ _ _ _ _ _ _ _ _ _ _ _ _ _ _ _ _ _ _ _ _ _ _ _ _ _ _ _ _ _ _ _ _ _ _ _ _ _ _ _ _ _ _ _ _ _ _ _ _ _ _ _ _ _ _ _ _ _ _ _ _ _ _ _ _ _ _ _ _ _ _ _ _ _ _ _ _ _ _ _ _ _ _ _ _ _ _ _ _ _ _ _ _ _ _ _ _ _ _ _ _ _ _ _ _ _ _ _ _ _ _ _ _ _ _ _ _ _ _ _ _ _ _ _ _ _ _ _ _ _ _ _ _ _ _ _ _ _ _ _ _ _ _ _ _ _ _ _ _ _ _ _ _ _ _ _ _ _ _ _ _ _ _ _ _ _ _ _ _ _ _ _ _ _ _ _ hgv9 HO9.out HE9.out ?_
              intro u290 u291 u292 u293 u294 u295 u296 u297 u298 u299 u300 u301 u302 u303 u304 u305 w7 hown7 hg7
              have HO7 := Lib.hid hown7
              have HG7 := Lib.hid hg7
              have hs7 : H1 < w7.heap.size := by have := hg7.size; omega
              clear hown7 hg7
              go_wp2_with fail
              go_roundw
              case rel =>
                refine ⟨n + 1, by omega, congrArg (Value.int .i64) (by omega), ?_, ?_, hs7⟩
                · rw [HUN.out]; exact HO7.out
                · exact (HBO.out.trans (HB9.out.mono (by omega))).grown HG7.out (by omega) (fun k hk => by injection hk with hk; omega)
              case measure => simp [intOf]; omega
            · obtain rfl : n = T := by omega
              obtain ⟨gh, chh, hvh, hgh1, hgh2⟩ := hown.form (by omega)
              subst hvh
              obtain ⟨u, hu⟩ : ∃ u, u = absorb K v (pad b) n := ⟨_, rfl⟩
              rw [← hu] at hown
              have HDU := Lib.hid (show digK K v b = u.bytes by unfold digK; rw [HT.out, Nat.mul_div_cancel_left _ (by omega), ← hu])
              have HO8 := Lib.hid hown
              have HB8 := Lib.hid hb
              clear hu hown hb
              go_wp2_with fail
              refine bytes_loop gh chh wo.heap.size H1 u _ _ _ _ _ _ _ _ _ _ _ _ _ _ _ _ _ _ _ _ _ _ _ _ _ _ _ _ _ _ _ _ _ _ _ _ _ _ _ _ _ _ _ _ _ _ _ _ _ _ _ _ _ _ _ _ _ _ _ _ _ _ _ _ _ _ _ _ _ _ _ _ _ _ _ _ _ _ _ _ _ _ _ _ _ _ _ _ _ _ _ _ _ _ _ _ _ _ _ _ _ _ _ _ _ _ _ _ _ _ _ _ _ _ _ _ _ _ _ _ _ _ _ _ _ _ _ _ _ _ _ _ _ _ _ _ _ _ _ _ _ _ _ _ _ _ _ _ _ _ _ _ _ _ _ _ _ _ _ _ _ _ _ _ _ _ _ _ _ _ _ _ _ _ _ _ _ _ _ _ _ _ _ _ _ _ _ _ _ _ _ _ _ _ _ _ _ _ _ _ _ _ _ _ _ _ _ _ _ _ _ _ _ _ _ _ _ _ _ _ _ _ _ _ _ _ _ _ _ _ _ _ _ _ _ _ _ _ _ _ _ _ _ _ _ _ _ _ _ _ _ _ _ _ _ _ _ _ _ _ _ _ _ _ _ _ _ _ _ _ _ _ _ _ _ _ _ _ _ _ _ _ _ _ _ _ _ _ _ _ _ _ _ _ _ _ _ _ _ _ _ _ _ _ _ _ _ _ _ _ _ _ _ _ _ _ _ _ _ _ _ _ _ (by omega) (HO8.out.alloc _) (heap_alloc_new wo _) ?_
              intro u306 u307 u308 u309 u310 u311 u312 u313 u314 u315 u316 u317 u318 u319 u320 u321 u322 w9 hr9 hg9
              obtain ⟨Z, hZ0, hZs⟩ := HR2.out
              have hwH : w.heap.size < H1 := by have := HH1.out; omega
              have hHo : H1 < wo.heap.size := hl3
              have hZ1 : wo.heap[w.heap.size]? = some (.cells Z 73 (0, 0)) := (HB8.out.block _ hwH).trans hZ0
              have hZ9 : w9.heap[w.heap.size]? = some (.cells Z 73 (0, 0)) := by
                rw [hg9.block _ (by simp; omega) (by intro e; injection e with e; omega), Below.heap_alloc _ _ _ (by omega)]; exact hZ1
              have hb9 : Below w.heap.size w w9 := by
                refine (HB2.out.trans (HB8.out.mono (by omega))).trans ?_
                exact ((Below.refl w.heap.size wo).alloc (by omega) _).grown hg9 (by simp; omega) (fun k hk => by injection hk with hk; omega)
              obtain ⟨C, hC⟩ : ∃ C, C = (u.bytes.map bv).toArray := ⟨_, rfl⟩
              rw [← hC] at hr9
              have hC32 : C.size = 32 := by rw [hC, List.size_toArray, List.length_map, v8_bytes_len]
              have h1 := Lib.hid (show (Tryd.prog.info? 73).map (·.size) = some C.size by rw [hC32]; kernel_rfl)
              have h2 := Lib.hid (show Z.size = C.size by rw [hC32, ← hZs])
              have h3 := Lib.hid (show C.all (·.oneCell') = true by rw [hC]; exact bvs_one _)
              have HCC := Lib.hid (show C = ((digK K v b).map bv).toArray by rw [HDU.out, hC])
              have HA9 := Lib.hid hZ9
              have HR9 := Lib.hid hr9
              have HB9 := Lib.hid hb9
              clear hZ0 hZs hZ1 hZ9 hb9 hC hC32 hr9 hg9
              go_wp2_with (first
                | (refine wpList_load_row rfl _ _ rfl wo.heap.size rfl _ C (0, 0) _ HR9.out Tryd.underlying73 rfl h1.out ?_)
                | (refine wpList_store_row rfl _ _ _ rfl w.heap.size C rfl rfl _ Z HA9.out h1.out h2.out h3.out ?_))
              have hA2 := setRow_heap w9 w.heap.size Z C 73 (0, 0) HA9.out
              refine bodyPost_ret (v := .agg C) ?_ rfl ⟨by rw [HCC.out], below_setRow HB9.out (Nat.le_refl _) C⟩
              exact results_cell_row Tryd.results70 _ _ w.heap.size _ C (0, 0) _ rfl hA2 Tryd.underlying73 rfl h1.out
end
section

open Go.RowKit
set_option maxRecDepth 100000 in
theorem k64_len : K64.length = 64 := rfl
set_option maxRecDepth 100000 in
theorem add_row (g j : Nat) : (⟨g, 0, none⟩ : Addr).add j = ⟨g, j, none⟩ := by unfold Addr.add; by_cases hj : j = 0 <;> simp [hj]
set_option maxRecDepth 100000 in
set_option maxHeartbeats 1000000 in
theorem of_any (A : Option Addr) (c : Nat) (b : List B8) (w : World)
    (hb : Bts w A b) (hA : A = none → c = 0) (hc : b.length ≤ c) (hlen : b.length ≤ 1099511627000) :
    Calls Tryd.prog 60 #[.slice A b.length c] w fun e w' => e = .returned (.agg ((dig b).map bv).toArray) ∧ Below w.heap.size w w' := by
  have Hb := Lib.hid hb
  have HA := Lib.hid hA
  have HC := Lib.hid hc
  have HL := Lib.hid hlen
  clear hb hA hc hlen
  have F1 := Lib.hid (fun w => first_any w)
  have F2 := Lib.hid (fun w => rounds_any w)
  obtain ⟨XH, hXH⟩ : ∃ X, X = (H8.list.map wv).toArray := ⟨_, rfl⟩
  obtain ⟨XK, hXK⟩ : ∃ X, X = (K64.map wv).toArray := ⟨_, rfl⟩
  rw [← hXH] at F1
  rw [← hXK] at F2
  have HXH := Lib.hid hXH
  have HXK := Lib.hid hXK
  clear hXH hXK
  go_enter Tryd.func60, Tryd.ntmps60
  go_wp2_with (first
    | (go_at_call 71; refine (F1.out _).mono ?_; rintro e w1 ⟨rfl, rfl⟩)
    | (go_at_call 72; refine (F2.out _).mono ?_; rintro e w2 ⟨rfl, rfl⟩)
    | (go_at_call 70; refine stop ?_))
  unfold Stop
  generalize hO0 : Obj.cells _ _ _ = O0
  have hO1 : ∃ Z, O0 = .cells Z 73 (0, 0) ∧ 32 = Z.size := ⟨_, hO0.symm, rfl⟩
  clear hO0
  have e1 : (w.alloc O0).heap.size = w.heap.size + 1 := by simp
  have e2 : ((w.alloc O0).alloc (.cells XH 31)).heap.size = w.heap.size + 1 + 1 := by simp
  obtain ⟨w0, hw0⟩ : ∃ z, z = w.alloc O0 := ⟨_, rfl⟩
  rw [← hw0] at e1 e2 ⊢
  obtain ⟨wx, hwx⟩ : ∃ z, z = w0.alloc (.cells XH 31) := ⟨_, rfl⟩
  rw [← hwx] at e2 ⊢
  have hb0 : Below w.heap.size w w0 := by rw [hw0]; exact (Below.refl _ _).alloc (Nat.le_refl _) _
  have hbx : Below w0.heap.size w0 wx := by rw [hwx]; exact (Below.refl _ _).alloc (Nat.le_refl _) _
  have hb3 : Below wx.heap.size wx (wx.alloc (.cells XK 31)) := (Below.refl _ _).alloc (Nat.le_refl _) _
  have hball : Below w.heap.size w (wx.alloc (.cells XK 31)) := hb0.trans ((hbx.mono (by omega)).trans (hb3.mono (by omega)))
  have hWd : Wds (wx.alloc (.cells XK 31)) (some ⟨w.heap.size + 1, 0, none⟩) H8.list := by
    refine Wds.below ?_ hb3
    rw [hwx, HXH.out, ← e1]; exact wds_new _ _ _
  have hKd : ∀ i, i < 64 → (wx.alloc (.cells XK 31)).cell? ⟨w.heap.size + 1 + 1, i, none⟩ = some (.int .u32 ((K64.getD i 0).toNat : Int)) := fun i hi => by
    obtain ⟨ad, ea, hc⟩ := wds_new wx K64 31 i (wv (K64.getD i 0)) (by rw [List.getElem?_map, List.getD_eq_getElem?_getD, List.getElem?_eq_getElem (by rw [k64_len]; exact hi)]; rfl)
    injection ea with ea
    rw [← ea, add_row, e2] at hc
    rw [HXK.out]; exact hc
  refine (rsum_any A c b (some ⟨w.heap.size + 1, 0, none⟩) 8 H8 (w.heap.size + 1 + 1) 64 K64 _ (Hb.out.below hball) HA.out HC.out hWd hKd HL.out).mono ?_
  rintro e w4 ⟨rfl, hb4⟩
  obtain ⟨Z, hZ, hZs⟩ := hO1
  have hZ4 : w4.heap[w.heap.size]? = some (.cells Z 73 (0, 0)) := by
    rw [hb4.block _ (by simp; omega), hb3.block _ (by omega), hbx.block _ (by omega), hw0, heap_alloc_new, hZ]
  have hball4 := Lib.hid (hball.trans (hb4.mono (by simp; omega)))
  obtain ⟨C, hC⟩ : ∃ C, C = ((dig b).map bv).toArray := ⟨_, rfl⟩
  have hC0 : ((digK K64 H8 b).map bv).toArray = C := hC.symm
  rw [hC0]
  have hC32 : C.size = 32 := by rw [hC, List.size_toArray, List.length_map, dig_len]
  have h1 := Lib.hid (show (Tryd.prog.info? 73).map (·.size) = some C.size by rw [hC32]; kernel_rfl)
  have h2 := Lib.hid (show Z.size = C.size by rw [hC32, ← hZs])
  have h3 := Lib.hid (show C.all (·.oneCell') = true by rw [hC]; exact bvs_one _)
  have HCC := Lib.hid hC
  have HA9 := Lib.hid hZ4
  clear e1 e2 hw0 hwx hb0 hbx hb3 hball hWd hKd hb4 hZ hZs hZ4 hC hC0 hC32
  go_wp2_with (refine wpList_store_row rfl _ _ _ rfl w.heap.size C rfl rfl _ Z HA9.out h1.out h2.out h3.out ?_)
  have hA2 := setRow_heap w4 w.heap.size Z C 73 (0, 0) HA9.out
  refine bodyPost_ret (v := .agg C) ?_ rfl ⟨by rw [HCC.out], below_setRow hball4.out (Nat.le_refl _) C⟩
  exact results_cell_row Tryd.results60 _ _ w.heap.size _ C (0, 0) _ rfl hA2 Tryd.underlying73 rfl h1.out
end
section

section
variable {P : Program}
abbrev Fct := Value → World → Prop
inductive Gv where
  | one (v : Value)
  | rel (G : Value → World → Prop)
def Gv.ok : Gv → Value → World → Prop
  | .one v, x, _ => x = v
  | .rel G, x, w => G x w
/-- What an operation comes to. -/
def doesR (P : Program) (o : Oper) (a : Act) (w : World) (R : Value → World → Prop) : Prop :=
  match (execOp a.eval o).run P w with
  | .ok (.value v) w' => R v w'
  | .ok .skip w' => R undef w'
  | .ok (.enter f args) w' => Calls P f args w' fun e w'' => ∃ v, e = .returned v ∧ R v w''
  | _ => False
theorem wp_of_does {o : Oper} {a a' : Act} {w : World} {R : Value → World → Prop} {K : Act → World → Prop} {Q : Exit → Act → World → Prop} (he : execOp a'.eval o = execOp a.eval o)
    (h : doesR P o a w R) (hK : ∀ v w', R v w' → K (a'.put o.dst v) w') : o.wp P a' w K Q := by
  unfold Oper.wp
  unfold doesR at h
  rw [he]
  generalize (execOp a.eval o).run P w = r at *
  cases r with
  | ok n w' =>
    cases n <;> simp only [Oper.upon] at h ⊢
    case value u => exact hK _ _ h
    case skip => exact hK _ _ h
    case enter f args => exact Calls.mono h (fun e w'' ⟨v, he, hR⟩ => by subst he; exact hK _ _ hR)
  | halt x w' => exact False.elim h

def bindsA (e : Edge) : Bool := Region.binds .any e
def befM (ops : List Oper) : List Nat :=
  ops.foldl (fun acc o => acc ++ [(o.after.toList.filter bindsA).foldl (fun s e => s ||| (1 <<< e.on) ||| acc.getD e.on 0) 0]) []
def befs (ops : List Oper) : List (List Nat) := (befM ops).map fun m => (List.range ops.length).filter fun j => m.testBit j
def looksOk (ops : List Oper) (b : List (List Nat)) (i : Nat) (t : Tmp) : Bool :=
  (List.range ops.length).all fun j => match ops[j]? with
    | none => true
    | some o => o.dst != some t || (if j < i then (b.getD i []).contains j else (j == i || (b.getD j []).contains i))
def relOk1 (ops : List Oper) (b : List (List Nat)) (i : Nat) : Bool :=
  match ops[i]? with
  | none => true
  | some o =>
    (match o.op with | .select .. => false | _ => true) &&
    ((o.after.toList.filter bindsA).all fun e => decide (e.on < i) && (b.getD i []).contains e.on) &&
    ((b.getD i []).all fun j => decide (j < i) && (o.after.toList.filter bindsA).any fun e => e.on == j || (b.getD e.on []).contains j) &&
    (match o.dst with | none => true | some t => (List.range i).all fun j => match ops[j]? with | none => true | some o' => o'.dst != some t) &&
    ((o.op.operands.toList.filterMap fun | .tmp t => some t | _ => none).all (looksOk ops b i)) &&
    (match o.guard with | none => true | some (g, _) => (b.getD i []).contains g)
def relOk (ops : List Oper) : Bool := (List.range ops.length).all (relOk1 ops (befs ops))

def retV (o : Oper) (u : Value) : Value := match o.dst with | none => undef | some _ => u
def AllF : List (Nat × Value × Fct) → World → Prop
  | [], _ => True
  | p :: l, w => p.2.2 p.2.1 w ∧ AllF l w
theorem AllF_iff (φ : List (Nat × Value × Fct)) (w : World) : AllF φ w ↔ ∀ p ∈ φ, p.2.2 p.2.1 w := by
  induction φ with
  | nil => simp [AllF]
  | cons p l ih => simp [AllF, ih]
def Obl (P : Program) (ops : List Oper) (St : World → World → Prop) (w0 : World) (k : Nat) (o : Oper) (g : Gv) (a : Act) (φ : List (Nat × Value × Fct)) : Prop :=
  match g with
  | .one v => if Region.wanted o (yielded ops.toArray a.tmps) then ∀ w, St w0 w → AllF (φ.filter fun p => ((befs ops).getD k []).contains p.1) w → doesR P o a w (fun u w' => retV o u = v ∧ St w w') else v = undef
  | .rel G => if Region.wanted o (yielded ops.toArray a.tmps) then ∀ w, St w0 w → AllF (φ.filter fun p => ((befs ops).getD k []).contains p.1) w → doesR P o a w (fun u w' => G (retV o u) w' ∧ St w w')
      else ∀ w, St w0 w → AllF (φ.filter fun p => ((befs ops).getD k []).contains p.1) w → G undef w
/-- The walk in the text's order. -/
def wpR (P : Program) (ops : List Oper) (St : World → World → Prop) (w0 : World) (Q : Act → World → Prop) : List Gv → List Oper → Nat → Act → List (Nat × Value × Fct) → Prop
  | _, [], _, a, φ => ∀ w, St w0 w → AllF φ w → Q a w
  | .one v :: gs, o :: rest, k, a, φ => Obl P ops St w0 k o (.one v) a φ ∧ wpR P ops St w0 Q gs rest (k + 1) (a.put o.dst v) φ
  | .rel G :: gs, o :: rest, k, a, φ => Obl P ops St w0 k o (.rel G) a φ ∧ ∀ x, wpR P ops St w0 Q gs rest (k + 1) (a.put o.dst x) ((k, x, G) :: φ)
  | [], _ :: _, _, _, _ => False
def Gv.val : Gv → Value → Value
  | .one v, _ => v
  | .rel _, x => x
def Gv.fact (k : Nat) (x : Value) : Gv → List (Nat × Value × Fct) → List (Nat × Value × Fct)
  | .one _, φ => φ
  | .rel G, φ => (k, x, G) :: φ
def runR (xs : Nat → Value) : Nat → List Gv → List Oper → Nat → Act → List (Nat × Value × Fct) → Act × List (Nat × Value × Fct)
  | i + 1, g :: gs, o :: rest, k, a, φ => runR xs i gs rest (k + 1) (a.put o.dst (g.val (xs k))) (g.fact k (xs k) φ)
  | _, _, _, _, a, φ => (a, φ)
variable {ops : List Oper} {St : World → World → Prop} {w0 : World} {Q : Act → World → Prop} {xs : Nat → Value}
theorem wpR_cons {g : Gv} {gs : List Gv} {o : Oper} {rest : List Oper} {k : Nat} {a : Act} {φ : List (Nat × Value × Fct)} (h : wpR P ops St w0 Q (g :: gs) (o :: rest) k a φ) (x : Value) :
    Obl P ops St w0 k o g a φ ∧ wpR P ops St w0 Q gs rest (k + 1) (a.put o.dst (g.val x)) (g.fact k x φ) := by
  cases g with
  | one v => exact h
  | rel G => exact ⟨h.1, h.2 x⟩
theorem wpR_use : ∀ (gs : List Gv) (l : List Oper) (k : Nat) (a : Act) (φ : List (Nat × Value × Fct)), wpR P ops St w0 Q gs l k a φ → ∀ (i : Nat) (o : Oper), l[i]? = some o →
    ∃ g, gs[i]? = some g ∧ Obl P ops St w0 (k + i) o g (runR xs i gs l k a φ).1 (runR xs i gs l k a φ).2
  | [], [], _, _, _, _, i, o, hi => by simp at hi
  | [], o' :: l, _, _, _, h, _, _, _ => by simp [wpR] at h
  | g :: gs, [], _, _, _, _, i, o, hi => by simp at hi
  | g :: gs, o' :: l, k, a, φ, h, i, o, hi => by
    obtain ⟨h1, h2⟩ := wpR_cons h (xs k)
    cases i with
    | zero => simp at hi; subst hi; exact ⟨g, rfl, by simpa [runR] using h1⟩
    | succ i =>
      obtain ⟨g', e, hO⟩ := wpR_use gs l (k + 1) _ _ h2 i o (by simpa using hi)
      exact ⟨g', by simpa using e, by rw [show k + (i + 1) = k + 1 + i by omega]; exact hO⟩
theorem wpR_end : ∀ (gs : List Gv) (l : List Oper) (k : Nat) (a : Act) (φ : List (Nat × Value × Fct)), wpR P ops St w0 Q gs l k a φ → ∀ w, St w0 w → AllF (runR xs l.length gs l k a φ).2 w → Q (runR xs l.length gs l k a φ).1 w
  | [], [], _, _, _, h, w, hs, hf => h w hs hf
  | [], o' :: l, _, _, _, h, _, _, _ => by simp [wpR] at h
  | g :: gs, [], _, _, _, h, w, hs, hf => by
    cases g <;> exact h w hs hf
  | g :: gs, o' :: l, k, a, φ, h, w, hs, hf => wpR_end gs l (k + 1) _ _ (wpR_cons h (xs k)).2 w hs hf
theorem runR_facts : ∀ (i : Nat) (gs : List Gv) (l : List Oper) (k : Nat) (a : Act) (φ : List (Nat × Value × Fct)), ∀ p ∈ (runR xs i gs l k a φ).2, p ∈ φ ∨ ∃ j G, j < i ∧ gs[j]? = some (.rel G) ∧ p = (k + j, xs (k + j), G)
  | 0, _, _, _, _, _, p, hp => .inl hp
  | i + 1, [], l, _, _, _, p, hp => .inl (by simpa [runR] using hp)
  | i + 1, g :: gs, [], _, _, _, p, hp => .inl (by simpa [runR] using hp)
  | i + 1, g :: gs, o :: l, k, a, φ, p, hp => by
    rcases runR_facts i gs l (k + 1) _ _ p hp with h | ⟨j, G, hj, hg, e⟩
    · cases g with
      | one v => exact .inl h
      | rel G =>
        simp only [Gv.fact, List.mem_cons] at h
        rcases h with h | h
        · exact .inr ⟨0, G, by omega, rfl, by simpa using h⟩
        · exact .inl h
    · exact .inr ⟨j + 1, G, by omega, by simpa using hg, by rw [show k + (j + 1) = k + 1 + j by omega]; exact e⟩
theorem put_size (a : Act) (d : Option Tmp) (v : Value) : (a.put d v).tmps.size = a.tmps.size := by cases d <;> simp [Act.put]
theorem put_defers (a : Act) (d : Option Tmp) (v : Value) : (a.put d v).defers = a.defers := by cases d <;> simp [Act.put]
theorem put_ne {a : Act} {d : Option Tmp} {v : Value} {t : Tmp} (h : d ≠ some t) : (a.put d v).tmps[t]? = a.tmps[t]? := by
  cases d with
  | none => rfl
  | some d => simp only [Act.put]; rw [Array.getElem?_setIfInBounds_ne (by intro e; exact h (by rw [e]))]
theorem put_eq {a : Act} {v : Value} {t : Tmp} (h : t < a.tmps.size) : (a.put (some t) v).tmps[t]? = some v := by
  simp [Act.put, h]
theorem runR_size : ∀ (i : Nat) (gs : List Gv) (l : List Oper) (k : Nat) (a : Act) (φ : List (Nat × Value × Fct)), (runR xs i gs l k a φ).1.tmps.size = a.tmps.size ∧ (runR xs i gs l k a φ).1.defers = a.defers
  | 0, _, _, _, _, _ => ⟨rfl, rfl⟩
  | i + 1, [], _, _, _, _ => ⟨rfl, rfl⟩
  | i + 1, g :: gs, [], _, _, _ => ⟨rfl, rfl⟩
  | i + 1, g :: gs, o :: l, k, a, φ => by
    have h := runR_size i gs l (k + 1) (a.put o.dst (g.val (xs k))) (g.fact k (xs k) φ)
    exact ⟨h.1.trans (put_size _ _ _), h.2.trans (put_defers _ _ _)⟩
theorem runR_out (t : Tmp) : ∀ (i : Nat) (gs : List Gv) (l : List Oper) (k : Nat) (a : Act) (φ : List (Nat × Value × Fct)), (∀ j o, j < i → l[j]? = some o → o.dst ≠ some t) → (runR xs i gs l k a φ).1.tmps[t]? = a.tmps[t]?
  | 0, _, _, _, _, _, _ => rfl
  | i + 1, [], _, _, _, _, _ => rfl
  | i + 1, g :: gs, [], _, _, _, _ => rfl
  | i + 1, g :: gs, o :: l, k, a, φ, h => by
    refine (runR_out t i gs l (k + 1) _ _ (fun j o' hj ho => h (j + 1) o' (by omega) (by simpa using ho))).trans ?_
    exact put_ne (h 0 o (by omega) rfl)
theorem runR_at (t : Tmp) : ∀ (i : Nat) (gs : List Gv) (l : List Oper) (k : Nat) (a : Act) (φ : List (Nat × Value × Fct)) (j : Nat) (o : Oper) (g : Gv), j < i → l[j]? = some o → gs[j]? = some g → o.dst = some t → t < a.tmps.size →
    (∀ j' o', j < j' → l[j']? = some o' → o'.dst ≠ some t) → (runR xs i gs l k a φ).1.tmps[t]? = some (g.val (xs (k + j)))
  | 0, _, _, _, _, _, j, _, _, hj, _, _, _, _, _ => by omega
  | i + 1, [], _, _, _, _, j, _, _, _, _, hg, _, _, _ => by simp at hg
  | i + 1, g' :: gs, [], _, _, _, j, _, _, _, ho, _, _, _, _ => by simp at ho
  | i + 1, g' :: gs, o' :: l, k, a, φ, j, o, g, hj, ho, hg, hd, ht, hu => by
    cases j with
    | zero =>
      simp at ho hg; subst ho hg
      refine (runR_out t i gs l (k + 1) _ _ (fun j o hj ho => hu (j + 1) o (by omega) (by simpa using ho))).trans ?_
      rw [hd]; exact put_eq ht
    | succ j =>
      have := runR_at t i gs l (k + 1) (a.put o'.dst (g'.val (xs k))) (g'.fact k (xs k) φ) j o g (by omega) (by simpa using ho) (by simpa using hg) hd (by rw [put_size]; exact ht) (fun j' o'' hj' ho' => hu (j' + 1) o'' (by omega) (by simpa using ho'))
      rw [show k + (j + 1) = k + 1 + j by omega]; exact this

/-- What the Bool says. -/
structure RelOk (ops : List Oper) : Prop where
  sel : ∀ (i : Nat) (o : Oper), ops[i]? = some o → ∀ cs b, o.op ≠ .select cs b
  edge : ∀ (i : Nat) (o : Oper), ops[i]? = some o → ∀ e ∈ o.after, Region.binds .any e = true → e.on < i ∧ e.on ∈ (befs ops).getD i []
  bef : ∀ (i : Nat) (o : Oper), ops[i]? = some o → ∀ j ∈ (befs ops).getD i [], j < i ∧ ∃ e ∈ o.after, Region.binds .any e = true ∧ (e.on = j ∨ j ∈ (befs ops).getD e.on [])
  dst : ∀ (i : Nat) (o : Oper) (j : Nat) (o' : Oper) (t : Tmp), ops[i]? = some o → ops[j]? = some o' → o.dst = some t → o'.dst = some t → i = j
  looks : ∀ (i : Nat) (o : Oper) (t : Tmp), ops[i]? = some o → .tmp t ∈ o.op.operands → ∀ (j : Nat) (o' : Oper), ops[j]? = some o' → o'.dst = some t → if j < i then j ∈ (befs ops).getD i [] else (j = i ∨ i ∈ (befs ops).getD j [])
  guard : ∀ (i : Nat) (o : Oper) (g : Nat) (b : Bool), ops[i]? = some o → o.guard = some (g, b) → g ∈ (befs ops).getD i []
theorem relOk_spec (h : relOk ops = true) : RelOk ops := by
  have h1 : ∀ (i : Nat) (o : Oper), ops[i]? = some o → relOk1 ops (befs ops) i = true := fun i o hi => by
    unfold relOk at h
    rw [List.all_eq_true] at h
    exact h i (List.mem_range.2 (List.getElem?_eq_some_iff.1 hi).1)
  have h2 : ∀ (i : Nat) (o : Oper), ops[i]? = some o → (match o.op with | .select .. => false | _ => true) = true ∧
    ((o.after.toList.filter bindsA).all fun e => decide (e.on < i) && ((befs ops).getD i []).contains e.on) = true ∧
    (((befs ops).getD i []).all fun j => decide (j < i) && (o.after.toList.filter bindsA).any fun e => e.on == j || ((befs ops).getD e.on []).contains j) = true ∧
    (match o.dst with | none => true | some t => (List.range i).all fun j => match ops[j]? with | none => true | some o' => o'.dst != some t) = true ∧
    ((o.op.operands.toList.filterMap fun | .tmp t => some t | _ => none).all (looksOk ops (befs ops) i)) = true ∧
    (match o.guard with | none => true | some (g, _) => ((befs ops).getD i []).contains g) = true := fun i o hi => by
    have := h1 i o hi
    unfold relOk1 at this
    rw [hi] at this
    simp only [Bool.and_eq_true] at this
    obtain ⟨⟨⟨⟨⟨a, b⟩, c⟩, d⟩, e⟩, f⟩ := this
    exact ⟨a, b, c, d, e, f⟩
  have hlt : ∀ (i : Nat) (o : Oper) (j : Nat) (o' : Oper) (t : Tmp), ops[i]? = some o → ops[j]? = some o' → o.dst = some t → o'.dst = some t → ¬ j < i := fun i o j o' t hi hj ho ho' hji => by
    have := (h2 i o hi).2.2.2.1
    rw [ho] at this
    simp only [List.all_eq_true, List.mem_range] at this
    have := this j hji
    rw [hj] at this
    simp [ho'] at this
  refine ⟨fun i o hi cs b e => ?_, fun i o hi e he hb => ?_, fun i o hi j hj => ?_, fun i o j o' t hi hj ho ho' => ?_, fun i o t hi ht j o' hj ho' => ?_, fun i o g b hi hg => ?_⟩
  · have := (h2 i o hi).1; rw [e] at this; cases this
  · have := (h2 i o hi).2.1
    rw [List.all_eq_true] at this
    have := this e (List.mem_filter.2 ⟨by simpa using he, hb⟩)
    simpa using this
  · have := (h2 i o hi).2.2.1
    rw [List.all_eq_true] at this
    have := this j hj
    simp only [Bool.and_eq_true, decide_eq_true_eq, List.any_eq_true] at this
    obtain ⟨h3, e, he, h4⟩ := this
    obtain ⟨he1, he2⟩ := List.mem_filter.1 he
    exact ⟨h3, e, by simpa using he1, he2, by simpa using h4⟩
  · rcases Nat.lt_trichotomy i j with h | h | h
    · exact absurd h (hlt j o' i o t hj hi ho' ho)
    · exact h
    · exact absurd h (hlt i o j o' t hi hj ho ho')
  · have := (h2 i o hi).2.2.2.2.1
    rw [List.all_eq_true] at this
    have := this t (List.mem_filterMap.2 ⟨.tmp t, by simpa using ht, rfl⟩)
    unfold looksOk at this
    rw [List.all_eq_true] at this
    have := this j (List.mem_range.2 (List.getElem?_eq_some_iff.1 hj).1)
    rw [hj] at this
    simp only [ho'] at this
    split <;> simp_all
  · have := (h2 i o hi).2.2.2.2.2
    rw [hg] at this
    simpa using this

def valOf (o : Oper) (a : Act) : Value := match o.dst with | none => undef | some t => a.tmps.getD t undef
structure InvR (ops : List Oper) (St : World → World → Prop) (w0 : World) (a0 : Act) (gs : List Gv) (listed : Array Bool) (a : Act) (w : World) : Prop where
  st : St w0 w
  defers : a.defers = a0.defers
  size : a.tmps.size = a0.tmps.size
  lsize : listed.size = ops.length
  down : ∀ (i : Nat) (o : Oper), ops[i]? = some o → listed.getD i false = true → ∀ e ∈ o.after, Region.binds .any e = true → listed.getD e.on false = true
  facts : ∀ (i : Nat) (o : Oper) (g : Gv), ops[i]? = some o → gs[i]? = some g → listed.getD i false = true → g.ok (valOf o a) w
  out : ∀ t, (∀ (i : Nat) (o : Oper), ops[i]? = some o → listed.getD i false = true → o.dst ≠ some t) → a.tmps[t]? = a0.tmps[t]?
section
variable {a0 : Act} {gs : List Gv} {listed : Array Bool} {a : Act} {w : World}
def xsOf (ops : List Oper) (a : Act) (i : Nat) : Value := match ops[i]? with | some o => valOf o a | none => undef
theorem InvR.lst (hr : RelOk ops) (h : InvR ops St w0 a0 gs listed a w) : ∀ (i : Nat) (o : Oper), ops[i]? = some o → (∀ e ∈ o.after, Region.binds .any e = true → listed.getD e.on false = true) → ∀ j ∈ (befs ops).getD i [], listed.getD j false = true := by
  intro i
  induction i using Nat.strongRecOn with
  | _ i ih =>
    intro o hi hall j hj
    obtain ⟨hji, e, he, hb, h1⟩ := hr.bef i o hi j hj
    have hel := hall e he hb
    rcases h1 with rfl | h1
    · exact hel
    · have hei := (hr.edge i o hi e he hb).1
      have hlen := (List.getElem?_eq_some_iff.1 hi).1
      have he' : ops[e.on]? = some (ops[e.on]'(by omega)) := List.getElem?_eq_getElem (by omega)
      exact ih e.on hei _ he' (h.down e.on _ he' hel) j h1
theorem slot_eq (hr : RelOk ops) (h : InvR ops St w0 a0 gs listed a w) (hin : ∀ (i : Nat) (o : Oper) (t : Tmp), ops[i]? = some o → o.dst = some t → t < a0.tmps.size) (hg : ∀ (i : Nat) (o : Oper), ops[i]? = some o → ∃ g, gs[i]? = some g)
    (i : Nat) (t : Tmp) (hb : ∀ j ∈ (befs ops).getD i [], listed.getD j false = true) (hi : listed.getD i false = false)
    (ht : ∀ (j : Nat) (o' : Oper), ops[j]? = some o' → o'.dst = some t → if j < i then j ∈ (befs ops).getD i [] else (j = i ∨ i ∈ (befs ops).getD j [])) :
    (runR (xsOf ops a) i gs ops 0 a0 []).1.tmps[t]? = a.tmps[t]? := by
  by_cases hc : ∃ j o, j < i ∧ ops[j]? = some o ∧ o.dst = some t
  · obtain ⟨j, o, hji, hj, hd⟩ := hc
    obtain ⟨g, hgj⟩ := hg j o hj
    have hlj : listed.getD j false = true := hb j (by have := ht j o hj hd; rwa [if_pos hji] at this)
    have hts := hin j o t hj hd
    rw [runR_at t i gs ops 0 a0 [] j o g hji hj hgj hd hts (fun j' o' hj' ho' e => by have := hr.dst j o j' o' t hj ho' hd e; omega)]
    have hv := h.facts j o g hj hgj hlj
    have e1 : valOf o a = a.tmps.getD t undef := by unfold valOf; rw [hd]
    have e2 : xsOf ops a (0 + j) = valOf o a := by unfold xsOf; rw [Nat.zero_add, hj]
    have hta : t < a.tmps.size := by rw [h.size]; exact hts
    have e3 : a.tmps[t]? = some (valOf o a) := by rw [e1, Array.getElem?_eq_getElem hta, Array.getD, dif_pos hta]; rfl
    rw [e3, e2]
    cases g with
    | one v => exact congrArg some hv.symm
    | rel G => rfl
  · rw [runR_out t i gs ops 0 a0 [] (fun j o hj ho e => hc ⟨j, o, hj, ho, e⟩)]
    refine (h.out t fun j o hj hl e => ?_).symm
    have hji : ¬ j < i := fun hlt => hc ⟨j, o, hlt, hj, e⟩
    have := ht j o hj e
    rw [if_neg hji] at this
    rcases this with rfl | hij
    · rw [hi] at hl; cases hl
    · have := h.lst hr j o hj (h.down j o hj hl) i hij
      rw [hi] at this; cases this
def unl (listed : Array Bool) : Nat := listed.toList.countP (fun b => !b)
theorem getD_lt {listed : Array Bool} {i : Nat} (h : i < listed.size) (d : Bool) : listed.getD i d = listed[i] := by simp [h]
theorem unl_set {listed : Array Bool} {i : Nat} (h : i < listed.size) (hf : listed.getD i false = false) : unl (listed.setIfInBounds i true) + 1 = unl listed := by
  unfold unl
  rw [Array.toList_setIfInBounds, List.countP_set (by simpa using h)]
  rw [getD_lt h] at hf
  have h1 : listed.toList[i]'(by simpa using h) = false := by simpa using hf
  have h2 : 0 < listed.toList.countP (fun b => !b) := List.countP_pos_iff.2 ⟨false, by rw [← h1]; exact List.getElem_mem _, rfl⟩
  rw [h1]
  simp only [Bool.not_false, Bool.not_true, if_true, Bool.false_eq_true, if_false]
  generalize List.countP _ listed.toList = c at *
  omega
theorem InvR.all (hr : RelOk ops) (h : InvR ops St w0 a0 gs listed a w) (h0 : Region.ready .any ops.toArray listed = []) : ∀ (i : Nat) (o : Oper), ops[i]? = some o → listed.getD i false = true := by
  intro i
  induction i using Nat.strongRecOn with
  | _ i ih =>
    intro o hi
    have hlen := (List.getElem?_eq_some_iff.1 hi).1
    by_cases hl : listed.getD i false = true
    · exact hl
    · have : i ∈ Region.ready .any ops.toArray listed := by
        refine mem_ready.2 ⟨?_, o, by simpa using hi, fun e he hb => ?_⟩
        · rw [getD_lt (by rw [h.lsize]; exact hlen)] at hl ⊢; simpa using hl
        · have hei := (hr.edge i o hi e he hb).1
          exact ih e.on hei _ (List.getElem?_eq_getElem (by omega))
      rw [h0] at this; cases this
theorem unl_zero {listed : Array Bool} (h : unl listed = 0) (i : Nat) : listed.getD i true = true := by
  by_cases hi : i < listed.size
  · rw [getD_lt hi]
    unfold unl at h
    rw [List.countP_eq_zero] at h
    have := h (listed.toList[i]'(by simpa using hi)) (List.getElem_mem _)
    simpa using this
  · simp [hi]
theorem InvR.next (hr : RelOk ops) (h : InvR ops St w0 a0 gs listed a w) (htrans : ∀ a b c, St a b → St b c → St a c) (hstab : ∀ (i : Nat) G, gs[i]? = some (.rel G) → ∀ v w w', G v w → St w w' → G v w')
    (hin : ∀ (i : Nat) (o : Oper) (t : Tmp), ops[i]? = some o → o.dst = some t → t < a0.tmps.size)
    {i : Nat} {o : Oper} {g : Gv} (hi : ops[i]? = some o) (hg : gs[i]? = some g) (hall : ∀ e ∈ o.after, Region.binds .any e = true → listed.getD e.on false = true) {v : Value} {w' : World} (hst : St w w') (hv : g.ok (retV o v) w') :
    InvR ops St w0 a0 gs (listed.setIfInBounds i true) (a.put o.dst v) w' := by
  have hold : ∀ j, (listed.setIfInBounds i true).getD j false = true → j ≠ i → listed.getD j false = true := fun j hj hne => by
    rwa [getD_set_ne false (Ne.symm hne)] at hj
  refine ⟨htrans _ _ _ h.st hst, (put_defers _ _ _).trans h.defers, (put_size _ _ _).trans h.size, by rw [Array.size_setIfInBounds]; exact h.lsize, fun j oj hj hl e he hb => ?_, fun j oj gj hj hgj hl => ?_, fun t ht => ?_⟩
  · by_cases hne : j = i
    · subst hne
      rw [hi] at hj; injection hj with hj; subst hj
      exact getD_set_true (hall e he hb)
    · exact getD_set_true (h.down j oj hj (hold j hl hne) e he hb)
  · by_cases hne : j = i
    · subst hne
      rw [hi] at hj; injection hj with hj; subst hj
      rw [hg] at hgj; injection hgj with hgj; subst hgj
      have e : valOf o (a.put o.dst v) = retV o v := by
        unfold valOf retV
        cases hd : o.dst with
        | none => rfl
        | some t =>
          have := put_eq (a := a) (v := v) (t := t) (by rw [h.size]; exact hin j o t hi hd)
          simp only
          simp [Array.getD_eq_getD_getElem?, this]
      rw [e]; exact hv
    · have hl' := hold j hl hne
      have h1 := h.facts j oj gj hj hgj hl'
      have e : valOf oj (a.put o.dst v) = valOf oj a := by
        unfold valOf
        cases hd : oj.dst with
        | none => rfl
        | some t =>
          have hn : o.dst ≠ some t := fun e => hne (hr.dst j oj i o t hj hi hd e)
          have := put_ne (a := a) (v := v) hn
          simp only
          simp [Array.getD_eq_getD_getElem?, this]
      rw [e]
      cases gj with
      | one u => exact h1
      | rel G => exact hstab j G hgj _ _ _ h1 hst
  · have hli : (listed.setIfInBounds i true).getD i false = true := by
      have : i < listed.size := by rw [h.lsize]; exact (List.getElem?_eq_some_iff.1 hi).1
      simp [this]
    rw [put_ne (ht i o hi hli)]
    exact h.out t fun j oj hj hl => ht j oj hj (getD_set_true hl)
theorem rel_any {Q : Exit → Act → World → Prop} (hr : RelOk ops) (hrefl : ∀ w, St w w) (htrans : ∀ a b c, St a b → St b c → St a c) (hstab : ∀ (i : Nat) G, gs[i]? = some (.rel G) → ∀ v w w', G v w → St w w' → G v w')
    (hin : ∀ (i : Nat) (o : Oper) (t : Tmp), ops[i]? = some o → o.dst = some t → t < a0.tmps.size) (hw : wpR P ops St w0 (fun a' w' => Q .normal a' w') gs ops 0 a0 []) :
    ∀ (fuel : Nat) (listed : Array Bool) (a : Act) (w : World), InvR ops St w0 a0 gs listed a w → unl listed ≤ fuel → wpAny P .any ops.toArray Q fuel listed a w := by
  have hg : ∀ (i : Nat) (o : Oper), ops[i]? = some o → ∃ g, gs[i]? = some g := fun i o hi => by
    obtain ⟨g, e, -⟩ := wpR_use (xs := fun _ => undef) gs ops 0 a0 [] hw i o hi; exact ⟨g, e⟩
  have hend : ∀ (listed : Array Bool) (a : Act) (w : World), InvR ops St w0 a0 gs listed a w → Region.ready .any ops.toArray listed = [] → Q .normal a w := by
    intro listed a w h h0
    have hl := h.all hr h0
    have hw' := wpR_end (xs := xsOf ops a) gs ops 0 a0 [] hw w h.st ((AllF_iff _ _).2 fun p hp => by
      rcases runR_facts _ _ _ _ _ _ p hp with hp | ⟨j, G, hj, hgj, rfl⟩
      · cases hp
      · have hoj : ops[j]? = some (ops[j]'hj) := List.getElem?_eq_getElem hj
        have := h.facts j _ _ hoj hgj (hl j _ hoj)
        show G (xsOf ops a (0 + j)) w
        rw [show xsOf ops a (0 + j) = valOf (ops[j]'hj) a by unfold xsOf; rw [Nat.zero_add, hoj]]
        exact this)
    have he : (runR (xsOf ops a) ops.length gs ops 0 a0 []).1 = a := by
      obtain ⟨s1, s2⟩ := runR_size (xs := xsOf ops a) ops.length gs ops 0 a0 []
      have htm : (runR (xsOf ops a) ops.length gs ops 0 a0 []).1.tmps = a.tmps := by
        apply Array.ext_getElem?
        intro t
        by_cases hc : ∃ (j : Nat) (o : Oper), ops[j]? = some o ∧ o.dst = some t
        · obtain ⟨j, o, hj, hd⟩ := hc
          obtain ⟨g, hgj⟩ := hg j o hj
          have hts := hin j o t hj hd
          have hlen := (List.getElem?_eq_some_iff.1 hj).1
          rw [runR_at t ops.length gs ops 0 a0 [] j o g hlen hj hgj hd hts (fun j' o' hj' ho' e => by have := hr.dst j o j' o' t hj ho' hd e; omega)]
          have hv := h.facts j o g hj hgj (hl j o hj)
          have e1 : valOf o a = a.tmps.getD t undef := by unfold valOf; rw [hd]
          have e2 : xsOf ops a (0 + j) = valOf o a := by unfold xsOf; rw [Nat.zero_add, hj]
          have hta : t < a.tmps.size := by rw [h.size]; exact hts
          have e3 : a.tmps[t]? = some (valOf o a) := by rw [e1, Array.getElem?_eq_getElem hta, Array.getD, dif_pos hta]; rfl
          rw [e3, e2]
          cases g with
          | one v => exact congrArg some hv.symm
          | rel G => rfl
        · rw [runR_out t ops.length gs ops 0 a0 [] (fun j o _ ho e => hc ⟨j, o, ho, e⟩)]
          exact (h.out t fun j o hj _ e => hc ⟨j, o, hj, e⟩).symm
      have hdf := s2.trans h.defers.symm
      generalize (runR (xsOf ops a) ops.length gs ops 0 a0 []).1 = r at htm hdf
      obtain ⟨t1, d1⟩ := r
      obtain ⟨t2, d2⟩ := a
      simp only at htm hdf
      rw [htm, hdf]
    rwa [he] at hw'
  intro fuel
  induction fuel with
  | zero =>
    intro listed a w h hu
    have h0 : Region.ready .any ops.toArray listed = [] := by
      rw [List.eq_nil_iff_forall_not_mem]
      intro j hj
      have := (mem_ready.1 hj).1
      rw [unl_zero (by omega) j] at this; cases this
    exact ⟨h0, hend listed a w h h0⟩
  | succ fuel ih =>
    intro listed a w h hu
    refine ⟨hend listed a w h, fun i hi => ?_⟩
    obtain ⟨hiu, o, hio, hall⟩ := mem_ready.1 hi
    have hio : ops[i]? = some o := by simpa using hio
    have hlen := (List.getElem?_eq_some_iff.1 hio).1
    have hil : i < listed.size := by rw [h.lsize]; exact hlen
    have hif : listed.getD i false = false := by rw [getD_lt hil] at hiu ⊢; exact hiu
    have hus := unl_set hil hif
    obtain ⟨g, hgi, hO⟩ := wpR_use (xs := xsOf ops a) gs ops 0 a0 [] hw i o hio
    rw [Nat.zero_add] at hO
    have hbl := h.lst hr i o hio hall
    have heq : ∀ t, (∀ (j : Nat) (o' : Oper), ops[j]? = some o' → o'.dst = some t → if j < i then j ∈ (befs ops).getD i [] else (j = i ∨ i ∈ (befs ops).getD j [])) → (runR (xsOf ops a) i gs ops 0 a0 []).1.tmps[t]? = a.tmps[t]? :=
      fun t ht => slot_eq hr h hin hg i t hbl hif ht
    have hev : execOp a.eval o = execOp (runR (xsOf ops a) i gs ops 0 a0 []).1.eval o := by
      refine execOp_congr o (hr.sel i o hio) fun x hx => ?_
      cases x with
      | tmp t =>
        have := heq t (hr.looks i o t hio hx)
        simp only [Act.eval, Array.getD_eq_getD_getElem?, this]
      | _ => rfl
    have hwt : Region.wanted o (yielded ops.toArray (runR (xsOf ops a) i gs ops 0 a0 []).1.tmps) = Region.wanted o (yielded ops.toArray a.tmps) := by
      unfold Region.wanted
      cases hgd : o.guard with
      | none => rfl
      | some gw =>
        obtain ⟨gi, want⟩ := gw
        simp only
        have hgb := hr.guard i o gi want hio hgd
        have hy : yielded ops.toArray (runR (xsOf ops a) i gs ops 0 a0 []).1.tmps gi = yielded ops.toArray a.tmps gi := by
          unfold yielded
          cases hog : ops.toArray[gi]? with
          | none => rfl
          | some og =>
            cases hdg : og.dst with
            | none => simp [hdg]
            | some t =>
              have := heq t fun j o' hj ho' => by
                have : gi = j := hr.dst gi og j o' t (by simpa using hog) hj hdg ho'
                subst this
                rw [if_pos (hr.bef i o hio gi hgb).1]; exact hgb
              simp [hdg, this]
        rw [hy]
    have hF : AllF ((runR (xsOf ops a) i gs ops 0 a0 []).2.filter fun p => ((befs ops).getD i []).contains p.1) w := (AllF_iff _ _).2 fun p hp => by
      obtain ⟨hp1, hp2⟩ := List.mem_filter.1 hp
      rcases runR_facts _ _ _ _ _ _ p hp1 with hp1 | ⟨j, G, hj, hgj, rfl⟩
      · cases hp1
      · have hjl : j < ops.length := by omega
        have hoj : ops[j]? = some (ops[j]'hjl) := List.getElem?_eq_getElem hjl
        have hjb : j ∈ (befs ops).getD i [] := by simpa using hp2
        have := h.facts j _ _ hoj hgj (hbl j hjb)
        show G (xsOf ops a (0 + j)) w
        rw [show xsOf ops a (0 + j) = valOf (ops[j]'hjl) a by unfold xsOf; rw [Nat.zero_add, hoj]]
        exact this
    unfold wpOp
    rw [show ops.toArray[i]? = some o by simpa using hio]
    simp only
    unfold Obl at hO
    by_cases hwd : Region.wanted o (yielded ops.toArray a.tmps) = true
    · rw [if_pos hwd]
      left
      cases g with
      | one v =>
        simp only [hwt, hwd, if_true] at hO
        exact wp_of_does hev (hO w h.st hF) fun u w' ⟨hu1, hu2⟩ => ih _ _ _ (h.next hr htrans hstab hin hio hgi hall hu2 hu1) (by omega)
      | rel G =>
        simp only [hwt, hwd, if_true] at hO
        exact wp_of_does hev (hO w h.st hF) fun u w' ⟨hu1, hu2⟩ => ih _ _ _ (h.next hr htrans hstab hin hio hgi hall hu2 hu1) (by omega)
    · rw [if_neg hwd]
      have hre : retV o undef = undef := by unfold retV; cases o.dst <;> rfl
      cases g with
      | one v =>
        simp only [hwt, hwd] at hO
        refine ih _ _ _ (h.next hr htrans hstab hin hio hgi hall (hrefl w) (v := undef) ?_) (by omega)
        rw [hre]; exact hO.symm
      | rel G =>
        simp only [hwt, hwd] at hO
        refine ih _ _ _ (h.next hr htrans hstab hin hio hgi hall (hrefl w) (v := undef) ?_) (by omega)
        rw [hre]; exact hO w h.st hF
end
theorem rep_false (n i : Nat) : (Array.replicate n false).getD i false = false := by by_cases h : i < n <;> simp [h]
def insB (ops : List Oper) (n : Nat) : Bool := ops.all fun o => match o.dst with | none => true | some t => decide (t < n)
def StabL (St : World → World → Prop) : List Gv → Prop
  | [] => True
  | .one _ :: l => StabL St l
  | .rel G :: l => (∀ v w w', G v w → St w w' → G v w') ∧ StabL St l
theorem stabL_spec {St : World → World → Prop} : ∀ (gs : List Gv), StabL St gs → ∀ (i : Nat) G, gs[i]? = some (.rel G) → ∀ v w w', G v w → St w w' → G v w'
  | [], _, i, G, hi => by simp at hi
  | .one v :: l, h, 0, G, hi => by simp at hi
  | .one v :: l, h, i + 1, G, hi => stabL_spec l h i G (by simpa using hi)
  | .rel G' :: l, h, 0, G, hi => by simp at hi; subst hi; exact h.1
  | .rel G' :: l, h, i + 1, G, hi => stabL_spec l h.2 i G (by simpa using hi)
/-- ONE WALK IN THE TEXT's ORDER SERVES EVERY ORDER: each operation has one value, or one fact; 'St': what one operation may do to the world that another one reads. -/
theorem wp_region_rel {id : Nat} {Q : Exit → Act → World → Prop} {a0 : Act} {w : World} (n : Nat) (St : World → World → Prop) (gs : List Gv) (hm : P.follows .mixedOrders = true) (hok : relOk ops = true) (hn : a0.tmps.size = n) (hin : insB ops n = true)
    (hrefl : ∀ w, St w w) (htrans : ∀ a b c, St a b → St b c → St a c) (hstab : StabL St gs)
    (h : wpR P ops St w.drew (fun a' w' => Q .normal a' w') gs ops 0 a0 []) : (Code.region id ops.toArray true).wp P Q a0 w := by
  refine wp_region_any hm (rel_any (relOk_spec hok) hrefl htrans (stabL_spec gs hstab) (fun i o t hi ht => ?_) h _ _ _ _ ?_ ?_)
  · unfold insB at hin
    rw [List.all_eq_true] at hin
    have := hin o (List.mem_of_getElem? hi)
    rw [ht] at this
    rw [hn]; simpa using this
  · exact ⟨hrefl _, rfl, rfl, by simp, fun i o hi hl => (by rw [rep_false] at hl; cases hl), fun i o g hi hg hl => (by rw [rep_false] at hl; cases hl), fun t _ => rfl⟩
  · unfold unl
    refine Nat.le_trans (List.countP_le_length) ?_
    simp

section
variable {gs : List Gv} {rest : List Oper} {k : Nat} {a A' : Act} {o : Oper} {φ : List (Nat × Value × Fct)} {v : Value}
theorem quiet_eq {C : World → Prop} {w : World} (hw : C w) {t : Tmp} (hd : o.dst = some t) (ht : t < a.tmps.size) (h : o.quiet P a C (fun a' => a' = a.put o.dst v)) : doesR P o a w (fun u w' => retV o u = v ∧ C w') := by
  obtain ⟨u, h1, h2⟩ := h
  have hu : u = v := by
    have := congrArg (fun x : Act => x.tmps[t]?) h2
    simp only [hd] at this
    rw [put_eq ht, put_eq ht] at this
    injection this
  subst hu
  have hr : ∀ z, retV o z = z := fun z => by unfold retV; rw [hd]
  have h3 := h1 w hw
  unfold Oper.quietAt at h3
  unfold doesR
  generalize (execOp a.eval o).run P w = r at *
  cases r with
  | ok n w' =>
    cases n <;> simp only [Oper.quietUpon] at h3 <;> simp only
    case value x => obtain ⟨e1, e2⟩ := h3; exact ⟨by rw [hr]; exact e2, by rw [e1]; exact hw⟩
    case skip => obtain ⟨e1, e2⟩ := h3; exact ⟨by rw [hr]; exact e2.symm, by rw [e1]; exact hw⟩
    case enter f args => obtain ⟨e1, hc⟩ := h3; rw [e1]; exact hc.mono fun e w'' ⟨he, hw''⟩ => ⟨u, he, hr u, hw''⟩
  | halt x w' => simp only [Oper.quietUpon] at h3
/-- One operation that has one value. -/
theorem wpR_one (hrefl : ∀ w, St w w) (hw : Region.wanted o (yielded ops.toArray a.tmps) = true) (t : Tmp) (hd : o.dst = some t) (n : Nat) (hn : a.tmps.size = n) (ht : decide (t < n) = true) (hA : a.put o.dst v = A')
    (h : ∀ w, St w0 w → AllF (φ.filter fun p => ((befs ops).getD k []).contains p.1) w → ∀ K : Act → Prop, (∀ a', a' = A' → K a') → o.quiet P a (fun w' => St w w') K)
    (hrest : wpR P ops St w0 Q gs rest (k + 1) A' φ) : wpR P ops St w0 Q (.one v :: gs) (o :: rest) k a φ := by
  subst hA
  refine ⟨?_, hrest⟩
  unfold Obl
  simp only [hw, if_true]
  intro w hs hf
  exact quiet_eq (C := fun w' => St w w') (hrefl w) hd (by rw [hn]; simpa using ht) (h w hs hf _ (fun a' e => e))
theorem wpR_skip (hw : Region.wanted o (yielded ops.toArray a.tmps) = false) (hA : a.put o.dst undef = A')
    (hrest : wpR P ops St w0 Q gs rest (k + 1) A' φ) : wpR P ops St w0 Q (.one undef :: gs) (o :: rest) k a φ := by
  subst hA
  refine ⟨?_, hrest⟩
  unfold Obl
  simp [hw]
/-- One operation whose value and world meet a fact. -/
theorem wpR_rel {G : Value → World → Prop} (hw : Region.wanted o (yielded ops.toArray a.tmps) = true)
    (h : ∀ w, St w0 w → AllF (φ.filter fun p => ((befs ops).getD k []).contains p.1) w → doesR P o a w (fun u w' => G (retV o u) w' ∧ St w w'))
    {A' : Value → Act} (hA : ∀ x, a.put o.dst x = A' x) (hrest : ∀ x, wpR P ops St w0 Q gs rest (k + 1) (A' x) ((k, x, G) :: φ)) : wpR P ops St w0 Q (.rel G :: gs) (o :: rest) k a φ := by
  refine ⟨?_, fun x => by rw [hA]; exact hrest x⟩
  unfold Obl
  simp only [hw, if_true]
  exact h
theorem AllF_at {B : List Nat} {φ : List (Nat × Value × Fct)} {w : World} (h : AllF (φ.filter fun p => B.contains p.1) w) (j : Nat) {p : Nat × Value × Fct} (hj : φ[j]? = some p) (hB : B.contains p.1 = true) : p.2.2 p.2.1 w :=
  (AllF_iff _ _).1 h p (List.mem_filter.2 ⟨List.mem_of_getElem? hj, hB⟩)
theorem does_run {w w' : World} {u : Value} {R : Value → World → Prop} (hr : (execOp a.eval o).run P w = .ok (.value u) w') (h : R u w') : doesR P o a w R := by
  unfold doesR; rw [hr]; exact h
theorem does_call {w w' : World} {f : FuncId} {args : Array Value} {R : Value → World → Prop} (hr : (execOp a.eval o).run P w = .ok (.enter f args) w') (h : Calls P f args w' fun e w'' => ∃ v, e = .returned v ∧ R v w'') : doesR P o a w R := by
  unfold doesR; rw [hr]; exact h
end
end
end
section
set_option linter.unusedVariables false
open Go.RowKit Go.ChangeShapes Go.WideShapes Go.ChangeAt
set_option maxRecDepth 100000 in
theorem slice_hi (A : Option Addr) (len cap n : Nat) (h : n ≤ len) (hc : len ≤ cap) (w : World) : (Instr.slice 22 (.slice A len cap) none (some (.int .i64 (n : Int))) none).run Tryd.prog w = .ok (.slice A n cap) w := by
  rw [run_slice_h (P := Tryd.prog) w 22 A len cap (by kernel_rfl) .i64 (n : Int) (by omega) (by omega)]
  rw [show Tryd.prog.elem 22 = 5 by kernel_rfl, size_u8]
  simp [Result.andThen, sliced]
  cases A with
  | none => simp
  | some a => simp [Addr.add]
set_option maxRecDepth 100000 in
/-- A slice of bytes that came in. -/
theorem open_bytes {H : Type} {enc : TypeId × Value → H} {P : Program} {W : World} {r : Reach} {b0 : Nat} {t e : TypeId} {v : Value} {d : DataW H} {p : List MemPlace} (ht : P.underlying t = some (.slice e)) (he : P.underlying e = some (.int .u8)) (hc : P.cellsOf e = 1)
    (hval : Value.okWide P W r b0 t v) (hd : DataW.Trod enc P W 0 (fun _ => true) true t v d p) :
    ∃ (A : Option Addr) (c : Nat) (xs : List B8), v = .slice A xs.length c ∧ Sl W W.heap.size A (xs.map bv) ∧ (A = none → c = 0) ∧ xs.length ≤ c ∧ xs.length ≤ maxLen := by
  obtain ⟨a0, len, cap, rfl⟩ := okWide_slice ht hval
  obtain ⟨fuel, hf⟩ := hd
  rcases open_ints ht he hc hf with ⟨hcs, hx⟩ | ⟨a, len', cap', zs, hcs, _, hl, hm, hz, hx, hcell, hwz⟩
  · simp [Value.cells] at hcs
    obtain ⟨rfl, rfl, rfl⟩ := hcs
    exact ⟨_, 0, [], rfl, Sl.none _ _ _, (fun _ => rfl), by simp, by simp⟩
  · simp [Value.cells] at hcs
    obtain ⟨rfl, rfl, rfl⟩ := hcs
    have hzl : zs.length = cap := by simpa using hz
    have hlen : ((zs.take len).map fun z => BitVec.ofNat 8 z.toNat).length = len := by simp; omega
    refine ⟨some a, cap, (zs.take len).map (fun z => BitVec.ofNat 8 z.toNat), by rw [hlen], ?_, (fun h => by cases h), by omega, by omega⟩
    intro j u hu
    simp only [List.map_map, List.getElem?_map, Option.map_eq_some_iff] at hu
    obtain ⟨z, hz1, rfl⟩ := hu
    have hj : j < len := by have := (List.getElem?_eq_some_iff.1 hz1).1; simp at this; omega
    have hzj : zs[j]? = some z := by rw [List.getElem?_take, if_pos hj] at hz1; exact hz1
    have h1 := hcell j (by omega)
    have hb := bounds_u8 (hwz z (List.mem_of_getElem? hzj))
    refine ⟨a, rfl, ?_, ?_⟩
    · have := World.block_lt_of_cell? W _ h1
      rwa [add_block] at this
    · rw [h1, List.getD, hzj]
      simp only [Option.getD_some, Function.comp, bv, BitVec.toNat_ofNat]
      rw [Nat.mod_eq_of_lt (by omega)]
      congr 2
      omega
/-- What an operation of a law's last line may do to the world that another one reads. -/
def Stp (w w' : World) : Prop := Below w.heap.size w w'
set_option maxRecDepth 100000 in
theorem Stp.refl (w : World) : Stp w w := Below.refl _ _
set_option maxRecDepth 100000 in
theorem Stp.trans (a b c : World) (h : Stp a b) (k : Stp b c) : Stp a c := Below.trans h (Below.mono k (Below.size h))
set_option maxRecDepth 100000 in
theorem glob_stp {w w' : World} (h : Glob w) (hs : Stp w w') : Glob w' := h.below hs h.1
set_option maxRecDepth 100000 in
theorem bts_stp {w w' : World} {A : Option Addr} {xs : List B8} (h : Bts w A xs) (hs : Stp w w') : Bts w' A xs := h.below hs
set_option maxRecDepth 100000 in
theorem stp_start {W w w' : World} (h : Stp w.drew w') (hW : Below W.heap.size W w) : Below W.heap.size W w' := hW.drew.trans (h.mono hW.size)
/-- A list of lists that was made here. -/
def MadeL (ls : List (Option Addr × Nat × Nat)) (v : Value) (w : World) : Prop :=
  ∃ g, v = .slice (some ⟨g, 0, none⟩) ls.length ls.length ∧ ∀ i p, ls[i]? = some p → w.cell? ⟨g, i, none⟩ = some (.slice p.1 p.2.1 p.2.2)
set_option maxRecDepth 100000 in
theorem MadeL.stable (ls : List (Option Addr × Nat × Nat)) (v : Value) (w w' : World) (h : MadeL ls v w) (hs : Stp w w') : MadeL ls v w' := by
  obtain ⟨g, e, hc⟩ := h
  exact ⟨g, e, fun i p hp => by have := hc i p hp; rw [Below.cell hs (World.block_lt_of_cell? w _ this)]; exact this⟩
set_option maxRecDepth 100000 in
theorem MadeL.new (ls : List (Option Addr × Nat × Nat)) (w : World) (t : TypeId) (C : Array Value) (hC : C = (ls.map fun p => Value.slice p.1 p.2.1 p.2.2).toArray) (n : Nat) (hn : n = ls.length) :
    MadeL ls (.slice (some ⟨w.heap.size, 0, none⟩) n n) (w.alloc (.cells C t)) ∧ Stp w (w.alloc (.cells C t)) := by
  subst hn hC
  refine ⟨⟨w.heap.size, rfl, fun i p hp => ?_⟩, (Below.refl _ _).alloc (Nat.le_refl _) _⟩
  rw [cell_of_row _ _ _ _ _ _ (heap_alloc_new w _), List.getElem?_toArray, List.getElem?_map, hp]; rfl
set_option maxRecDepth 100000 in
theorem MadeL.lst {ls : List (Option Addr × Nat × Nat)} {v : Value} {w : World} (h : MadeL ls v w) (xss : List (List B8)) (hb : ∀ (i : Nat) (xs : List B8), xss[i]? = some xs → ∃ (A : Option Addr) (c : Nat), ls[i]? = some (A, xs.length, c) ∧ xs.length ≤ c ∧ Bts w A xs) : ∃ g, v = .slice (some ⟨g, 0, none⟩) ls.length ls.length ∧ Lst w (some ⟨g, 0, none⟩) xss := by
  obtain ⟨g, e, hc⟩ := h
  refine ⟨g, e, fun i xs hi => ?_⟩
  obtain ⟨A, c, h1, h2, h3⟩ := hb i xs hi
  exact ⟨_, A, c, rfl, by rw [add_row]; exact hc i _ h1, h2, h3⟩
set_option maxRecDepth 100000 in
theorem does_made {P : Program} {o : Oper} {a : Act} {w : World} (ls : List (Option Addr × Nat × Nat)) (t : TypeId) (d : Tmp) (hd : o.dst = some d) (hr : ∀ w, (execOp a.eval o).run P w = .ok (.value (.slice (some ⟨w.heap.size, 0, none⟩) ls.length ls.length)) (w.alloc (.cells (ls.map fun p => Value.slice p.1 p.2.1 p.2.2).toArray t))) :
    doesR P o a w (fun u w' => MadeL ls (retV o u) w' ∧ Stp w w') := by
  refine does_run (hr w) ?_
  have e : ∀ u, retV o u = u := fun u => by unfold retV; rw [hd]
  rw [e]
  exact MadeL.new ls w t _ rfl _ rfl
set_option maxRecDepth 100000 in
theorem lst_stp {w w' : World} {A : Option Addr} {ls : List (List B8)} (h : Lst w A ls) (hs : Stp w w') : Lst w' A ls := h.below hs
set_option maxRecDepth 100000 in
theorem Bts.cut {w : World} {A : Option Addr} {xs : List B8} (h : Bts w A xs) (cap n : Nat) (hc : xs.length ≤ cap) : Bts w (cutA A cap n) (xs.drop n) := fun j u hu => by
  rw [List.map_drop, List.getElem?_drop] at hu
  obtain ⟨ad, rfl, hcl⟩ := h (n + j) u hu
  have hlt := (List.getElem?_eq_some_iff.1 hu).1
  refine ⟨ad.add n, ?_, by rw [add_add]; exact hcl⟩
  unfold cutA
  rw [if_neg (by simp at hlt; omega)]; rfl
set_option maxRecDepth 100000 in
theorem Bts.front {w : World} {A : Option Addr} {xs : List B8} (h : Bts w A xs) (n : Nat) : Bts w A (xs.take n) := fun j u hu => by
  rw [List.map_take, List.getElem?_take] at hu
  split at hu
  · exact h j u hu
  · cases hu
set_option maxRecDepth 100000 in
theorem Bts.of_sl {w : World} {B : Nat} {A : Option Addr} {xs : List B8} (h : Sl w B A (xs.map bv)) : Bts w A xs := fun j u hu => by
  obtain ⟨ad, e, -, hc⟩ := h j u hu
  exact ⟨ad, e, hc⟩
end
section
set_option linter.unusedVariables false
open Go.RowKit Go.ChangeShapes Go.WideShapes Go.ChangeAt
/-- Lists of bytes that lie in a slice. -/
def LstN (w : World) (A : Option Addr) (ls : List (List B8)) : Prop := ∀ (i : Nat) (xs : List B8), ls[i]? = some xs → ∃ ad Ai ci, A = some ad ∧ w.cell? (ad.add i) = some (.slice Ai xs.length ci) ∧ xs.length ≤ ci ∧ (Ai = none → ci = 0) ∧ Bts w Ai xs
set_option maxRecDepth 100000 in
theorem LstN.lst {w : World} {A : Option Addr} {ls : List (List B8)} (h : LstN w A ls) : Lst w A ls := fun i xs hi => by
  obtain ⟨ad, Ai, ci, h1, h2, h3, -, h5⟩ := h i xs hi
  exact ⟨ad, Ai, ci, h1, h2, h3, h5⟩
set_option maxRecDepth 100000 in
theorem LstN.below {w w' : World} {A : Option Addr} {ls : List (List B8)} (h : LstN w A ls) (hb : Below w.heap.size w w') : LstN w' A ls := fun i xs hi => by
  obtain ⟨ad, Ai, ci, h1, h2, h3, h4, h5⟩ := h i xs hi
  exact ⟨ad, Ai, ci, h1, (hb.cell (World.block_lt_of_cell? w _ h2)).trans h2, h3, h4, h5.below hb⟩
section
variable {H : Type} {enc : TypeId × Value → H} {W : World} {fuel : Nat} {x : DataW H × List MemPlace}
set_option maxRecDepth 100000 in
theorem trod_bytes {cs : List Value} (h : DataW.trod enc Tryd.prog W 0 (fun _ => true) true fuel 22 cs = some x) :
    ∃ (A : Option Addr) (c : Nat) (xs : List B8), cs = [.slice A xs.length c] ∧ Bts W A xs ∧ (A = none → c = 0) ∧ xs.length ≤ c ∧ xs.length ≤ maxLen := by
  rcases open_ints Tryd.underlying22 Tryd.underlying5 (by kernel_rfl) h with ⟨hcs, hx⟩ | ⟨a, len', cap', zs, hcs, _, hl, hm, hz, hx, hcell, hwz⟩
  · exact ⟨none, 0, [], hcs, fun j u h => by simp at h, fun _ => rfl, by simp, by simp⟩
  · have hzl : zs.length = cap' := by simpa using hz
    have hlen : ((zs.take len').map fun z => BitVec.ofNat 8 z.toNat).length = len' := by simp; omega
    refine ⟨some a, cap', (zs.take len').map (fun z => BitVec.ofNat 8 z.toNat), by rw [hlen]; exact hcs, ?_, (fun h => by cases h), by omega, by omega⟩
    intro j u hu
    simp only [List.map_map, List.getElem?_map, Option.map_eq_some_iff] at hu
    obtain ⟨z, hz1, rfl⟩ := hu
    have hj : j < len' := by have := (List.getElem?_eq_some_iff.1 hz1).1; simp at this; omega
    have hzj : zs[j]? = some z := by rw [List.getElem?_take, if_pos hj] at hz1; exact hz1
    have h1 := hcell j (by omega)
    have hb := bounds_u8 (hwz z (List.mem_of_getElem? hzj))
    refine ⟨a, rfl, ?_⟩
    rw [h1, List.getD, hzj]
    simp only [Option.getD_some, Function.comp, bv, BitVec.toNat_ofNat]
    rw [Nat.mod_eq_of_lt (by omega)]
    congr 2
    omega
set_option maxRecDepth 100000 in
theorem cells_one {w : World} {b : Nat} {a : Addr} {v : Value} (h : w.cells? b a 1 = some [v]) : w.cell? a = some v := by
  obtain ⟨-, -, hc⟩ := World.cells?_some h
  have := hc 0 (by omega)
  have e : a.add 0 = a := by unfold Addr.add; simp
  rwa [e] at this
set_option maxRecDepth 100000 in
theorem open_lists {r : Reach} {b0 : Nat} {v : Value} {d : DataW H} {p : List MemPlace} (hval : Value.okWide Tryd.prog W r b0 36 v) (hd : DataW.Trod enc Tryd.prog W 0 (fun _ => true) true 36 v d p) :
    ∃ (A : Option Addr) (c : Nat) (l : List (List B8)), v = .slice A l.length c ∧ LstN W A l ∧ (A = none → c = 0) ∧ l.length ≤ c ∧ l.length ≤ maxLen := by
  obtain ⟨a0, len, cap, rfl⟩ := okWide_slice Tryd.underlying36 hval
  obtain ⟨fuel, hf⟩ := hd
  rcases DataW.trod_slice Tryd.underlying36 hf with ⟨hcs, -⟩ | ⟨a, len', cap', elems, rest, m, -, hcs, -, -, hl, hm, hel, hall, -, -⟩
  · simp [Value.cells] at hcs
    obtain ⟨rfl, rfl, rfl⟩ := hcs
    exact ⟨none, 0, [], rfl, fun i f h => by simp at h, fun _ => rfl, by simp, by simp⟩
  · simp [Value.cells] at hcs
    obtain ⟨rfl, rfl, rfl⟩ := hcs
    have c31 : Tryd.prog.cellsOf 22 = 1 := by kernel_rfl
    have each : ∀ i, i < len → ∃ xs : List B8, ∃ Ai ci, W.cell? (a.add i) = some (.slice Ai xs.length ci) ∧ xs.length ≤ ci ∧ (Ai = none → ci = 0) ∧ Bts W Ai xs := by
      intro i hi
      have h := hall i hi
      rw [c31, List.getElem?_eq_getElem (by omega), Option.bind_eq_some_iff, Nat.mul_one] at h
      obtain ⟨cs, hcs, ht⟩ := h
      obtain ⟨Ai, ci, xs, rfl, h1, h2, h3, -⟩ := trod_bytes ht
      exact ⟨xs, Ai, ci, cells_one hcs, h3, h2, h1⟩
    have hlen : ((List.range len).map fun i => if h : i < len then (each i h).choose else []).length = len := by simp
    refine ⟨some a, cap, (List.range len).map fun i => if h : i < len then (each i h).choose else [], by rw [hlen], ?_, (fun h => by cases h), by omega, by omega⟩
    intro i f hf
    have hi : i < len := by have := (List.getElem?_eq_some_iff.1 hf).1; simpa using this
    simp [hi] at hf
    obtain ⟨Ai, ci, h1, h2, h3, h4⟩ := (each i hi).choose_spec
    rw [hf] at h1 h2 h4
    exact ⟨a, Ai, ci, rfl, h1, h2, h3, h4⟩
end
set_option maxRecDepth 100000 in
theorem own_cap {w : World} {B : Nat} {e : TypeId} {s n cap : Nat} {A : Option Addr} {xs : List Value} (h : w.ownsRow B e s (.slice A n cap) n xs) : n ≤ cap := by
  rcases h.2 with ⟨e, -⟩ | ⟨g, cap', cur, e, -, -, hle, -⟩
  · injection e with _ e1 e2; omega
  · injection e with _ e1 e2; omega
set_option maxRecDepth 100000 in
theorem long_len (b : List B8) : (longB b).length = 4 + b.length := by simp [longB, wb_len]
set_option maxRecDepth 100000 in
theorem under_take_len (mk : B8) (ls : List (List B8)) (k : Nat) (h : ∀ xs ∈ ls.take k, xs.length ≤ 60) : (underB mk (ls.take k)).length ≤ 1 + 64 * k := by
  unfold underB
  rw [List.length_cons, List.length_flatten, List.map_map]
  have : ∀ (l : List (List B8)), (∀ xs ∈ l, xs.length ≤ 60) → (l.map (List.length ∘ longB)).sum ≤ 64 * l.length := by
    intro l
    induction l with
    | nil => intro _; simp
    | cons x l ih =>
      intro hl
      have h1 := hl x (by simp)
      have h2 := ih (fun xs hx => hl xs (by simp [hx]))
      simp only [List.map_cons, List.sum_cons, Function.comp, List.length_cons, long_len]
      omega
  have h3 := this _ h
  have h4 : (ls.take k).length ≤ k := List.length_take_le _ _
  have h5 : 64 * (ls.take k).length ≤ 64 * k := Nat.mul_le_mul_left _ h4
  omega
set_option maxRecDepth 100000 in
theorem under_next (mk : B8) (ls : List (List B8)) (k : Nat) (x : List B8) (h : ls[k]? = some x) : underB mk (ls.take (k + 1)) = underB mk (ls.take k) ++ longB x := by
  unfold underB
  rw [List.take_add_one, h]
  simp
end
section

open Go.RowKit
open Extern.Stop (cell)
set_option maxRecDepth 100000 in
theorem eql_id (a b : List B8) (ha : a.length = 32) (hb : b.length = 32) (w : World) : (binOp .eql 73 (.agg (a.map bv).toArray) (.agg (b.map bv).toArray)).run Tryd.prog w = .ok (.bool (decide (a = b))) w := by
  have h := eq_id a b ha hb w
  have e : (Op.equal 73 (.agg (a.map bv).toArray) (.agg (b.map bv).toArray)).run Tryd.prog w = .ok (decide (a = b)) w := h
  simp only [binOp, Sem.run_bind, e, Result.andThen_ok, Sem.run_pure]
end
end Go.Proofs.YthbheobjhpmoeaaDoor
