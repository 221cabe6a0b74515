/- The landed line: copies. -/
import Derived.Test.YtgjplbanfnomkaaLnG
import Derived.Test.YtgjplbanfnomkaaLtZ
set_option linter.unusedVariables false
set_option linter.unusedSimpArgs false
namespace Go.Proofs.Ytgjplbanfnomkaa
open Go.RowKit
set_option maxRecDepth 100000
/-- Not a block of bytes that was made from K on. -/
def NuK (K : Nat) (w : World) (i : Nat) : Prop := i < K ∨ Nu w i
theorem NuK.turn {T : Nat → Prop} {K : Nat} {w w' : World} (t : Turn T w w') (hT : ∀ i, T i → NuK K w i) : ∀ i, i < w.heap.size → NuK K w' i → NuK K w i := fun i hi h => by
  rcases h with h | h
  · exact .inl h
  · by_cases hTi : T i
    · exact hT i hTi
    · exact .inr (by rintro ⟨cs, m, e⟩; exact h ⟨cs, m, t.heap e hTi⟩)
theorem bt_ownK {w : World} {B K n : Nat} {S : Option Addr} {c : Nat} {b : List B8} (h : w.ownsRow B 5 1 (.slice S n c) n (b.map bv)) (hn : b.length = n) (hK : K ≤ B) : BtN w (NuK K w) S c b := by
  have hb := bt_own h hn
  refine ⟨fun j u hu => ?_, hb.a, hb.c⟩
  obtain ⟨ad, e, h1, h2⟩ := hb.s j u hu
  refine ⟨ad, e, fun hq => ?_, h2⟩
  rcases hq with hq | hq
  · rcases h.2 with ⟨e2, h0⟩ | ⟨g, cap, cur, e2, hB, hg, -⟩
    · have hl := h.1
      have := (List.getElem?_eq_some_iff.1 hu).1
      omega
    · injection e2 with e1
      rw [e] at e1
      injection e1 with e1
      rw [e1] at hq
      have hq : g < K := hq
      omega
  · exact h1 hq
/-- The first k items stand in a row's block. -/
def Rw (w : World) (K G n : Nat) (l : List Itm) : Prop := ∃ cur, w.heap[G]? = some (.cells cur 36 (0, 0)) ∧ cur.size = n * 2 ∧ ∀ (i : Nat) (p : Itm), l[i]? = some p → p.ok ∧ cur[i * 2]? = some (.int .i64 p.t) ∧ ∃ S c, cur[i * 2 + 1]? = some (.slice S p.b.length c) ∧ BtN w (NuK K w) S c p.b
theorem nu_item {w : World} {G : Nat} {cur : Array Value} (h : w.heap[G]? = some (.cells cur 36 (0, 0))) : Nu w G := by
  rintro ⟨cs, m, e⟩
  rw [h] at e
  injection e with e
  injection e with _ e
  exact absurd e (by decide)
theorem Rw.quiet {w w' : World} {K G n : Nat} {l : List Itm} (h : Rw w K G n l) (t : Turn (fun _ => False) w w') : Rw w' K G n l := by
  obtain ⟨cur, h1, h2, h3⟩ := h
  refine ⟨cur, t.heap h1 (fun h => h), h2, fun i p hi => ?_⟩
  obtain ⟨a, b, S, c, d, e⟩ := h3 i p hi
  exact ⟨a, b, S, c, d, e.turn t (fun _ h => h.elim) (NuK.turn t (fun _ h => h.elim))⟩
theorem Rw.cell {w : World} {K G n : Nat} {l : List Itm} (h : Rw w K G n l) {o : Nat} (ho : o < n * 2) : ∃ v, w.cell? ⟨G, o, none⟩ = some v ∧ w.frozen? ⟨G, o, none⟩ = false := by
  obtain ⟨cur, h1, h2, -⟩ := h
  exact ⟨cur[o]'(by omega), by rw [cell_of_row _ _ _ _ _ _ h1]; exact Array.getElem?_eq_getElem _, frozen_of_row w G _ _ _ h1⟩
theorem Rw.set {w : World} {K G n k : Nat} {l : List Itm} (h : Rw w K G n l) (hl : l.length = k) (hk : k < n) {p : Itm} (hp : p.ok) {S : Option Addr} {c : Nat} (hb : BtN w (NuK K w) S c p.b) :
    Rw ((w.setCell ⟨G, k * 2, none⟩ (.int .i64 p.t)).setCell ⟨G, k * 2 + 1, none⟩ (.slice S p.b.length c)) K G n (l ++ [p]) ∧ Turn (fun i => i = G) w ((w.setCell ⟨G, k * 2, none⟩ (.int .i64 p.t)).setCell ⟨G, k * 2 + 1, none⟩ (.slice S p.b.length c)) := by
  obtain ⟨cur, h1, h2, h3⟩ := h
  have T : Turn (fun i => i = G) w ((w.setCell ⟨G, k * 2, none⟩ (.int .i64 p.t)).setCell ⟨G, k * 2 + 1, none⟩ (.slice S p.b.length c)) := ((Turn.refl (fun i => i = G) w).setCell _ _ (fun _ => rfl)).setCell _ _ (fun _ => rfl)
  have hG := nu_item h1
  have e1 : (w.setCell ⟨G, k * 2, none⟩ (.int .i64 p.t)).heap[G]? = some (.cells (cur.setIfInBounds (k * 2) (.int .i64 p.t)) 36 (0, 0)) := by
    rw [heap_setCell_same w G (k * 2) _ _ _ h1]
  have e2 : ((w.setCell ⟨G, k * 2, none⟩ (.int .i64 p.t)).setCell ⟨G, k * 2 + 1, none⟩ (.slice S p.b.length c)).heap[G]? = some (.cells ((cur.setIfInBounds (k * 2) (.int .i64 p.t)).setIfInBounds (k * 2 + 1) (.slice S p.b.length c)) 36 (0, 0)) := by
    rw [heap_setCell_same _ G (k * 2 + 1) _ _ _ e1]
  refine ⟨⟨_, e2, by simp [h2], fun i q hi => ?_⟩, T⟩
  have TT : ∀ {S' : Option Addr} {c' : Nat} {b : List B8}, BtN w (NuK K w) S' c' b → BtN ((w.setCell ⟨G, k * 2, none⟩ (.int .i64 p.t)).setCell ⟨G, k * 2 + 1, none⟩ (.slice S p.b.length c)) (NuK K _) S' c' b := fun hq => hq.turn T (fun i e => by have e : i = G := e; rw [e]; exact .inr hG) (NuK.turn T (fun i e => by have e : i = G := e; rw [e]; exact .inr hG))
  by_cases hik : i < k
  · rw [List.getElem?_append_left (by omega)] at hi
    obtain ⟨a, b, S', c', d, e⟩ := h3 i q hi
    refine ⟨a, ?_, S', c', ?_, TT e⟩
    · rw [Array.getElem?_setIfInBounds_ne (by omega), Array.getElem?_setIfInBounds_ne (by omega)]; exact b
    · rw [Array.getElem?_setIfInBounds_ne (by omega), Array.getElem?_setIfInBounds_ne (by omega)]; exact d
  · obtain rfl : i = k := by have := (List.getElem?_eq_some_iff.1 hi).1; simp [hl] at this; omega
    rw [List.getElem?_append_right (by omega), hl, Nat.sub_self] at hi
    simp only [List.getElem?_cons_zero, Option.some.injEq] at hi
    subst hi
    refine ⟨hp, ?_, S, c, ?_, TT hb⟩
    · rw [Array.getElem?_setIfInBounds_ne (by omega), Array.getElem?_setIfInBounds_self_of_lt (by omega)]
    · rw [Array.getElem?_setIfInBounds_self_of_lt (by simp; omega)]
theorem Rw.row {w : World} {K G n B : Nat} {l : List Itm} (h : Rw w K G n l) (hl : l.length = n) (hm : n ≤ maxLen) (hB : B ≤ G) : ∃ cs, ItV w (NuK K w) l cs ∧ w.ownsRow B 36 2 (.slice (some ⟨G, 0, none⟩) n n) n cs := by
  obtain ⟨cur, h1, h2, h3⟩ := h
  refine ⟨cur.toList, ⟨by rw [Array.length_toList]; omega, fun i p hi => ?_⟩, ⟨by rw [Array.length_toList]; omega, .inr ⟨G, n, cur, rfl, hB, h1, Nat.le_refl _, hm, h2, by rw [List.take_of_length_le (by rw [Array.length_toList]; omega)]⟩⟩⟩
  obtain ⟨a, b, S, c, d, e⟩ := h3 i p hi
  exact ⟨a, by rw [Array.getElem?_toList]; exact b, S, c, by rw [Array.getElem?_toList]; exact d, e⟩
/-- Items of one's own, with bytes of their own. -/
def CsPost (l : List Itm) (w : World) (r : Ending) (w' : World) : Prop := ∃ A c cs, r = .returned (.slice A l.length c) ∧ ItV w' (NuK w.heap.size w') l cs ∧ w'.ownsRow w.heap.size 36 2 (.slice A l.length c) l.length cs ∧ Turn (fun _ => False) w w'
set_option maxHeartbeats 8000000 in
theorem lcopies_any (A : Option Addr) (c : Nat) (N : Nat → Prop) (l : List Itm) (w : World) (hI : ItN w N A l) (hl : l.length ≤ 1000000) (hb : ∀ p ∈ l, p.b.length ≤ 8192) : Calls Try.prog 43 #[.slice A l.length c] w (CsPost l w) := by
  obtain ⟨i0, hi, hz0, hz1, hz2⟩ := info_parts it_info
  have HI := Lib.hid hI
  have HB := Lib.hid hb
  obtain ⟨n, hn⟩ : ∃ n, n = l.length := ⟨_, rfl⟩
  have HN := Lib.hid hn
  have HP := Lib.hid (show ∀ r w', CsPost l w r w' ↔ ∃ A c cs, r = .returned (.slice A n c) ∧ ItV w' (NuK w.heap.size w') l cs ∧ w'.ownsRow w.heap.size 36 2 (.slice A n c) n cs ∧ Turn (fun _ => False) w w' from fun r w' => by rw [hn]; exact Iff.rfl)
  rw [← hn] at hl ⊢
  generalize CsPost l w = PP at *
  clear hI hb hn
  go_enter Try.func43, Try.ntmps43
  go_wp2_with (at_make; refine wpList_make_full _ rfl _ _ 27 rfl w.heap.size 36 i0 (.agg #[.int .i64 0, .slice none 0 0]) 2 Try.underlying27 hi hz0 hz1 _ _ _ _ n rfl rfl rfl rfl ?b2 ?b3 ?b4 ?_)
  case b2 => rw [hz2]; omega
  case b3 => unfold maxLen; omega
  case b4 => simp
  intro w2 hown2 hgrow2
  have ht2 : Turn (fun _ => False) w w2 := (Turn.refl _ w).grown hgrow2 (fun _ _ e => by cases e)
  have hrw : Rw w2 w.heap.size w.heap.size n [] := by
    rcases hown2.2 with ⟨e, -⟩ | ⟨g', cap, cur, e, hB, hg, hnc, hcm, hcs, -⟩
    · cases e
    · injection e with e1 e2 e3
      injection e1 with e1
      injection e1 with e1
      subst e1
      exact ⟨cur, hg, by rw [hcs, ← e3], fun i p hi => by simp at hi⟩
  have HR2 := Lib.hid hrw
  have HT2 := Lib.hid ht2
  clear hown2 hgrow2 ht2 hrw
  obtain ⟨G, hG⟩ : ∃ G, G = w.heap.size := ⟨_, rfl⟩
  rw [← hG] at HR2 ⊢
  have HG := Lib.hid hG
  clear hG
  go_wp2
  go_loopw [11] (fun i wr => ∃ k : Nat, k ≤ n ∧ i = .int .i64 k ∧ Rw wr G G n (l.take k) ∧ Turn (fun _ => False) w wr) (fun i _ => n - (intOf i).toNat)
  case atStart => exact ⟨0, Nat.zero_le _, rfl, HR2.out, HT2.out⟩
  case round =>
    clear HR2 HT2
    obtain ⟨k, hk, rfl, hrow, ht⟩ := hrel
    by_cases hlt : k < n
    · have hlk : k < l.length := by have := HN.out; omega
      obtain ⟨hok, b, o, S, cp, hAe, -, hs, p0, p1⟩ := (HI.out.quiet ht) k l[k] (List.getElem?_eq_getElem hlk)
      subst hAe
      have hbl := HB.out l[k] (List.getElem_mem hlk)
      have HSUC := Lib.hid (show l.take (k + 1) = l.take k ++ [l[k]] from List.take_succ_eq_append_getElem hlk)
      have HLT := Lib.hid (show (l.take k).length = k by rw [List.length_take]; omega)
      obtain ⟨p, hp⟩ : ∃ p, p = l[k] := ⟨_, rfl⟩
      rw [← hp] at hok p0 p1 hs hbl HSUC
      have HRW := Lib.hid hrow
      have HT := Lib.hid ht
      have HOK := Lib.hid hok
      have HS := Lib.hid hs
      have HBL := Lib.hid hbl
      clear hrow ht hok hp hs hbl
      go_upto_region 5 with fail
      obtain ⟨w4, hw4⟩ : ∃ w4, w4 = wr.alloc (itO p S cp) := ⟨_, rfl⟩
      have t4 : Turn (fun _ => False) wr w4 := by rw [hw4]; exact (Turn.refl _ _).alloc _
      have g4 : w4.heap[wr.heap.size]? = some (.cells #[.int .i64 p.t, .slice S p.b.length cp] 36 (0, 0)) := by rw [hw4]; exact heap_alloc_new _ _
      have CP := lcopied_any p S cp _ w4 (HS.out.quiet t4) (by have := HBL.out; omega)
      unfold CPost at CP
      have CP := Lib.hid CP
      have HT4 := Lib.hid (HT.out.trans t4 (fun _ _ h => h))
      have HR4 := Lib.hid (HRW.out.quiet t4)
      change Code.wp _ _ _ _ (wr.alloc (itO p S cp))
      rw [← hw4]
      have hsz4 : G ≤ w4.heap.size := by have := HT4.out.size; have := HG.out; omega
      clear hw4 t4 p0 p1
      generalize wr.heap.size = q at *
      obtain ⟨⟨d0, d1⟩, -⟩ := ys_row g4
      clear g4
      go_wp2_with (go_at_call 37; refine stop ?_)
      unfold Stop
      refine CP.out.mono ?_
      rintro r w5 ⟨S5, c5, rfl, ho5, t5⟩
      have HT5 := Lib.hid (HT4.out.trans t5 (fun _ _ h => h))
      have HR5 := Lib.hid (HR4.out.quiet t5)
      have HO5 := Lib.hid (bt_ownK ho5 rfl hsz4)
      clear ho5 t5 CP d0 d1 HT4 HR4
      obtain ⟨u0, c0, z0⟩ := HR5.out.cell (o := k * 2) (by omega)
      obtain ⟨u1, c1, z1⟩ := HR5.out.cell (o := k * 2 + 1) (by omega)
      go_wp2
      have h9 := HR5.out.set HLT.out hlt HOK.out HO5.out
      obtain ⟨w9, hw9⟩ : ∃ w9, w9 = (w5.setCell ⟨G, k * 2, none⟩ (.int .i64 p.t)).setCell ⟨G, k * 2 + 1, none⟩ (.slice S5 p.b.length c5) := ⟨_, rfl⟩
      rw [← hw9] at h9 ⊢
      go_roundw
      case rel => exact ⟨k + 1, by omega, by go_num, by rw [HSUC.out]; exact h9.1, HT5.out.trans h9.2 (fun i hi e => by have e : i = G := e; have := HG.out; omega)⟩
      case measure => simp [intOf]; omega
    · obtain rfl : k = n := by omega
      have hlk : l.take k = l := by rw [List.take_of_length_le (by have := HN.out; omega)]
      rw [hlk] at hrow
      obtain ⟨cs, h1, h2⟩ := hrow.row HN.out.symm (by unfold maxLen; omega) (Nat.le_of_eq HG.out.symm)
      have H1 := Lib.hid h1
      have H2 := Lib.hid h2
      have HT := Lib.hid ht
      clear h1 h2 hrow ht hlk
      go_wp2
      rw [HP.out]
      exact ⟨_, _, cs, rfl, HG.out ▸ H1.out, H2.out, HT.out⟩
end Go.Proofs.Ytgjplbanfnomkaa
