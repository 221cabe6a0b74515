/- The contracts of 'readIns' and 'readOuts'. -/
import Derived.Test.YteaoaabjdgdcmaaTxO
import Derived.OwnWalk
set_option linter.unusedVariables false
set_option linter.unusedSimpArgs false
namespace Go.Proofs.Yteaoaabjdgdcmaa
open Go.RowKit
set_option maxRecDepth 100000 in
theorem Turn.setCells {S : Nat → Prop} {a : World} (g : Nat) (hS : g < a.heap.size → S g) : ∀ (vs : List Value) (o : Nat) (b : World), Turn S a b → Turn S a (b.setCells g o vs)
  | [], _, _, h => h
  | v :: vs, o, b, h => Turn.setCells g hS vs (o + 1) (b.setCell ⟨g, o, none⟩ v) (h.setCell _ _ hS)
set_option maxRecDepth 100000 in
theorem info_in : (Try.prog.info? 41).map (fun i => (i.zero, i.size, i.bytes)) = some (some (.agg ZIn), 35, 72) := by kernel_rfl
set_option maxRecDepth 100000 in
theorem info_out : (Try.prog.info? 43).map (fun i => (i.zero, i.size, i.bytes)) = some (some (.agg ZOut), 33, 40) := by kernel_rfl
set_option maxRecDepth 100000 in
theorem own_there {w : World} {B n s g c : Nat} {e : TypeId} {xs : List Value} (h : w.ownsRow B e s (.slice (some ⟨g, 0, none⟩) n c) n xs) : w.there g 0 (n * s) := by
  rcases h.2 with ⟨e, -⟩ | ⟨g', cap, cur, e, hB, hg, hc, hm, hcs, ht⟩
  · cases e
  · injection e with e1 e2 e3
    injection e1 with e1
    injection e1 with e1
    subst e1
    exact there_lay hg _ (by rw [hcs]; exact Nat.mul_le_mul_right _ hc)
/-- The cells of a row below a place are as they were. -/
def KeepLo (w w' : World) (G lo : Nat) : Prop := ∀ o v, o < lo → w.cell? ⟨G, o, none⟩ = some v → w'.cell? ⟨G, o, none⟩ = some v
set_option maxRecDepth 100000 in
theorem KeepLo.refl (w : World) (G lo : Nat) : KeepLo w w G lo := fun _ _ _ h => h
set_option maxRecDepth 100000 in
theorem KeepLo.trans {a b c : World} {G lo : Nat} (h : KeepLo a b G lo) (k : KeepLo b c G lo) : KeepLo a c G lo := fun o v ho hv => k o v ho (h o v ho hv)
set_option maxRecDepth 100000 in
theorem KeepLo.less {a b : World} {G lo lo' : Nat} (h : KeepLo a b G lo) (hl : lo' ≤ lo) : KeepLo a b G lo' := fun o v ho hv => h o v (by omega) hv
set_option maxRecDepth 100000 in
theorem KeepLo.turn {a b : World} {G lo : Nat} {S : Nat → Prop} (t : Turn S a b) (hS : ¬ S G) : KeepLo a b G lo := fun o v _ hv => t.cell hv hS
set_option maxRecDepth 100000 in
theorem KeepLo.setCell (w : World) (G o : Nat) (v : Value) : KeepLo w (w.setCell ⟨G, o, none⟩ v) G o := fun o' u ho hu => by
  rw [World.cell?_setCell_other _ _ _ _ (fun e => by injection e with e1 e2; omega)]; exact hu
set_option maxRecDepth 100000 in
theorem KeepLo.setCells (w : World) (G o : Nat) (vs : List Value) : KeepLo w (w.setCells G o vs) G o := fun o' u ho hu => by
  rw [World.cell?_setCells_out G vs o w ⟨G, o', none⟩ (fun _ _ => .inl ho)]; exact hu
set_option maxRecDepth 100000 in
theorem KeepLo.range {a b : World} {G lo o : Nat} {cs : List Value} (h : KeepLo a b G lo) (hr : a.rangeAt G o cs) (hl : o + cs.length ≤ lo) : b.rangeAt G o cs := fun j v hj => h _ _ (by have := (List.getElem?_eq_some_iff.1 hj).1; omega) (hr j v hj)
set_option maxRecDepth 100000 in
theorem range_app {w : World} {b o : Nat} {xs ys : List Value} (h : w.rangeAt b o xs) (k : w.rangeAt b (o + xs.length) ys) : w.rangeAt b o (xs ++ ys) := fun j v hj => by
  by_cases hl : j < xs.length
  · rw [List.getElem?_append_left hl] at hj; exact h j v hj
  · rw [List.getElem?_append_right (by omega)] at hj
    have := k _ v hj
    rwa [show o + xs.length + (j - xs.length) = o + j by omega] at this
set_option maxRecDepth 100000 in
theorem range_one {w : World} {b o : Nat} {u : Value} (h : w.cell? ⟨b, o, none⟩ = some u) : w.rangeAt b o [u] := fun j v hj => by
  obtain rfl : j = 0 := by have := (List.getElem?_eq_some_iff.1 hj).1; simp at this; omega
  simp at hj
  rw [← hj]; exact h
set_option maxRecDepth 100000 in
theorem cell_set {w : World} {b o : Nat} {v u : Value} (h : w.cell? ⟨b, o, none⟩ = some v) : (w.setCell ⟨b, o, none⟩ u).cell? ⟨b, o, none⟩ = some u := by
  exact World.cell?_setCell_same _ _ _ h
set_option maxRecDepth 100000 in
theorem own_sln {w : World} {B n c : Nat} {e : TypeId} {A : Option Addr} {xs : List Value} (h : w.ownsRow B e 1 (.slice A n c) n xs) : SlN w (fun i => i < B) A xs := fun j u hu => by
  rcases h.2 with ⟨e, h0⟩ | ⟨g, cap, cur, e, hB, hg, hc, hm, hcs, ht⟩
  · have hl := h.1
    injection e with e1 e2 e3
    subst e2
    have : xs = [] := List.eq_nil_of_length_eq_zero (by omega)
    subst this; simp at hu
  · injection e with e1 e2 e3
    subst e1
    exact ⟨_, rfl, by show ¬ g < B; omega, h.cells (g := g) rfl j u hu⟩
/-- What reading inputs comes to. -/
def RinsPost (e E : Nat) (N : Nat → Prop) (l : List B8) (w : World) (r : Ending) (w' : World) : Prop :=
  (rinsE l = 0 ∧ ∃ G, r = .returned (.slice (some ⟨G, 0, none⟩) (numV l) (numV l)) ∧ InsN w' (fun i => i < w.heap.size) (some ⟨G, 0, none⟩) (rinsV l) ∧ Eye0 w' e E N (rinsR l) ∧ Turn (fun i => i = e) w w') ∨
  (rinsE l ≠ 0 ∧ r = pan E ∧ EyeX w' e E (rinsE l) ∧ Turn (fun i => i = e ∨ i = E) w w')
set_option maxRecDepth 100000 in
theorem rins_no {e E G : Nat} {N : Nat → Prop} {l : List B8} {w w2 wj w' : World} {x : Nat} (hX : rinsE l = x) (hx : x ≠ 0) (he : EyeX w' e E x) (t2 : Turn (fun i => i = e) w w2) (t3 : Turn (fun i => i = e ∨ i = G) w2 wj) (t4 : Turn (fun i => i = e ∨ i = E) wj w') (hG : w.heap.size ≤ G) : RinsPost e E N l w (pan E) w' := by
  refine Or.inr ⟨by rw [hX]; exact hx, rfl, by rw [hX]; exact he, ?_⟩
  exact ((t2.mono (fun _ _ h => .inl h)).trans t3 (fun i hi h => by rcases h with h | h; exact .inl h; omega)).trans t4 (fun _ _ h => h)
/-- The first k inputs of a row. -/
def RowIns (w : World) (K G : Nat) (l : List Pin) : Prop := ∀ i p, l[i]? = some p → p.ok ∧ ∃ S c, BtN w (fun i => i < K) S c p.b ∧ w.rangeAt G (i * 35) (p.cells S c)
set_option maxRecDepth 100000 in
set_option maxHeartbeats 4000000 in
theorem readIns_any (e E : Nat) (N : Nat → Prop) (l : List B8) (w : World) (h : Eye0 w e E N l) (hN : ∀ i, w.heap.size ≤ i → N i) :
    Calls Try.prog 12 #[.pointer (some ⟨e, 0, none⟩)] w (RinsPost e E N l w) := by
  obtain ⟨i0, hi, hz0, hz1, hz2⟩ := info_parts info_in
  obtain ⟨hle, hlE, hne, hNe, hNE, hll⟩ := h.lt
  by_cases hx : eNum 16 l = 0
  · have T0 := Lib.hid (num_yes e E N 16 l w h hx)
    have hnv : numV l ≤ 16 := by unfold eNum at hx; split at hx <;> (try split at hx) <;> omega
    have HX := Lib.hid (show rinsE l = insE (numV l) (numR l) by unfold rinsE; rw [if_neg (by omega)])
    have HV := Lib.hid (show rinsV l = insV (numV l) (numR l) from rfl)
    have HR := Lib.hid (show rinsR l = insR (numV l) (numR l) from rfl)
    have HN := Lib.hid hN
    obtain ⟨n, hn⟩ : ∃ n, n = numV l := ⟨_, rfl⟩
    rw [← hn] at T0 HX HV HR hnv
    have HNN := Lib.hid hn
    clear h hN hx hn
    generalize numR l = l1 at *
    go_enter Try.func12, Try.ntmps12
    go_wp2_with fail
    refine T0.out.mono ?_
    rintro r w1 ⟨rfl, he1, ht1⟩
    have HE1 := Lib.hid he1
    have HT1 := Lib.hid ht1
    clear he1 ht1 T0
    go_wp2_with (at_make; refine wpList_make_full _ rfl _ _ 24 rfl w1.heap.size 41 i0 (.agg ZIn) 35 Try.underlying24 hi hz0 hz1 _ _ _ _ n rfl rfl rfl rfl ?b2 ?b3 ?b4 ?_)
    case b2 => rw [hz2]; omega
    case b3 => unfold maxLen; omega
    case b4 => simp
    intro w2 hown2 hgrow2
    have HTH := Lib.hid (own_there hown2)
    have ht2 : Turn (fun _ => False) w1 w2 := (Turn.refl _ w1).grown hgrow2 (fun _ _ e => by cases e)
    have HGlt := Lib.hid (show w1.heap.size < w2.heap.size from by
      rcases hown2.2 with ⟨e, -⟩ | ⟨g', cap, cur, e, hB, hg, -⟩
      · cases e
      · injection e with e1 e2 e3
        injection e1 with e1
        injection e1 with e1
        rw [e1]; exact lt_of_block hg)
    have HE2 := Lib.hid (HE1.out.turn ht2 (fun h => h) (fun h => h) (fun _ h => h.elim))
    have HT2 := Lib.hid (HT1.out.trans ht2 (fun _ _ h => h.elim))
    have HS1 := Lib.hid HT1.out.size
    clear hown2 hgrow2 ht2 HE1 HT1
    generalize w1.heap.size = G at *
    go_wp2
    go_loopw [10] (fun i wr => ∃ k : Nat, k ≤ n ∧ i = .int .i64 k ∧ insE k l1 = 0 ∧ wr.there G 0 (n * 35) ∧ RowIns wr w2.heap.size G (insV k l1) ∧ Eye0 wr e E N (insR k l1) ∧ Turn (fun i => i = e ∨ i = G) w2 wr) (fun i _ => n - (intOf i).toNat)
    case atStart => exact ⟨0, Nat.zero_le _, rfl, rfl, HTH.out, (fun i p hi => by simp [insV] at hi), HE2.out, Turn.refl _ _⟩
    case round =>
      clear HTH HE2
      obtain ⟨k, hk, rfl, h0, hth, hrow, he, ht⟩ := hrel
      by_cases hlt : k < n
      · have hkn : k * 35 + 35 ≤ n * 35 := by omega
        obtain ⟨lk, hlk⟩ : ∃ lk, lk = insR k l1 := ⟨_, rfl⟩
        have HVS := Lib.hid (show insV (k + 1) l1 = insV k l1 ++ [inV lk] by rw [hlk]; rfl)
        have HRS := Lib.hid (show insR (k + 1) l1 = inR lk by rw [hlk]; rfl)
        have HERR := Lib.hid (fun (h1 : inE lk ≠ 0) => show rinsE l = inE lk by rw [HX.out, hlk] at *; exact insE_here h0 (by rw [← hlk]; exact h1) hlt)
        have HNXT := Lib.hid (fun (h1 : inE lk = 0) => insE_next h0 (by rw [← hlk]; exact h1))
        rw [← hlk] at he
        have hlkl := he.lt.2.2.2.2.2
        have HRW := Lib.hid hrow
        have HTR := Lib.hid ht
        have HTH := Lib.hid hth
        have HNG := Lib.hid (show N G from HN.out G HS1.out)
        have hGe : G ≠ e ∧ G ≠ E := by have := HS1.out; omega
        have hGw : G < wr.heap.size := by have := ht.size; have := HGlt.out; omega
        have HKT := Lib.hid (insV_len k l1)
        clear hrow ht h0 hlk hth
        by_cases h32 : lk.length < 32
        · have T := Lib.hid (id_no e E N lk wr he h32)
          have HE2 := Lib.hid (show inE lk = 2 by unfold inE; rw [if_pos h32])
          clear he h32
          go_wp2_with (go_at_call 31; refine T.out.mono ?_; rintro r w3 ⟨rfl, he3, ht3⟩; dsimp only [pan]; have HE3 := Lib.hid he3; have HT3 := Lib.hid ht3; clear he3 ht3)
          have hz := HERR.out (by rw [HE2.out]; decide)
          exact ⟨rfl, rins_no (hz.trans HE2.out) (by decide) HE3.out HT2.out HTR.out HT3.out HS1.out⟩
        · have T := Lib.hid (id_yes e E N lk wr he (by omega))
          obtain ⟨D, hD⟩ : ∃ D, D = ((lk.take 32).map bv).toArray := ⟨_, rfl⟩
          have hd32 : (lk.take 32).length = 32 := by rw [List.length_take]; omega
          have sD : D.size = 32 := by rw [hD]; simp; omega
          rw [← hD] at T
          have H1 := Lib.hid (show (Try.prog.info? 37).map (·.size) = some D.size by rw [sD]; kernel_rfl)
          have H3 := Lib.hid (show D.all (·.oneCell') = true by rw [hD]; exact all_oneCell_toArray (bv_one _))
          have HD := Lib.hid hD
          have HSD := Lib.hid sD
          have HD32 := Lib.hid hd32
          clear he hD sD hd32
          go_wp2_with fail
          refine T.out.mono ?_
          rintro r w3 ⟨rfl, he3, ht3⟩
          have hth3 := there_turn HTH.out ht3 hGe.1
          have HTS := Lib.hid (show w3.there G (k * 35) D.size by rw [HSD.out]; exact there_sub hth3 _ _ (by omega))
          have HTH3 := Lib.hid hth3
          have HE3 := Lib.hid he3
          have HT3 := Lib.hid ht3
          clear he3 ht3 hth3 T
          go_wp2_with (refine wpList_store_mid rfl _ _ _ rfl G (k * 35) D rfl rfl HTS.out H1.out H3.out ?_; refine stop ?_)
          unfold Stop
          obtain ⟨w4, hw4⟩ : ∃ w4, w4 = w3.setCells G (k * 35) D.toList := ⟨_, rfl⟩
          have hr4 : w4.rangeAt G (k * 35) ((lk.take 32).map bv) := by
            rw [hw4]
            have h := World.rangeAt_setCells_same w3 G (k * 35) D.toList (by simpa using HTS.out)
            rw [HD.out] at h ⊢
            simpa using h
          have HR4 := Lib.hid hr4
          have HTH4 := Lib.hid (show w4.there G 0 (n * 35) by rw [hw4]; exact World.there_setCells HTH3.out _ _ _)
          have HK4 := Lib.hid (show KeepLo wr w4 G (k * 35) by rw [hw4]; exact (KeepLo.turn HT3.out hGe.1).trans (KeepLo.setCells _ _ _ _))
          have ht4 : Turn (fun i => i = G) w3 w4 := by rw [hw4]; exact Turn.setCells (S := fun i => i = G) G (fun _ => rfl) _ _ _ (Turn.refl _ _)
          have HT4 := Lib.hid (show Turn (fun i => i = e ∨ i = G) wr w4 from (HT3.out.mono (fun _ _ h => .inl h)).trans ht4 (fun _ _ h => .inr h))
          have HE4 := Lib.hid (HE3.out.turn ht4 (fun h => hGe.1 h.symm) (fun h => hGe.2 h.symm) (fun i h => by rw [h]; exact HNG.out))
          have HZ4 := Lib.hid (Nat.le_trans HT3.out.size ht4.size)
          rw [← hw4]
          clear hw4 hr4 ht4 HTS HTH3 HE3 HTH
          by_cases h15 : eNum 15 (lk.drop 32) = 0
          · have T := Lib.hid (num_yes e E N 15 (lk.drop 32) w4 HE4.out h15)
            have hx15 : numV (lk.drop 32) ≤ 15 := by unfold eNum at h15; split at h15 <;> (try split at h15) <;> omega
            have HH15 := Lib.hid h15
            obtain ⟨x, hx⟩ : ∃ x, x = numV (lk.drop 32) := ⟨_, rfl⟩
            rw [← hx] at T hx15
            have HXX := Lib.hid hx
            clear h15 hx
            go_wp2_with fail
            refine T.out.mono ?_
            rintro r w5 ⟨rfl, he5, ht5⟩
            have hth5 := there_turn HTH4.out ht5 hGe.1
            obtain ⟨v5, c5, z5⟩ := there_cell hth5 (k * 35 + 32) (by omega)
            have HC5 := Lib.hid c5
            have HTH5 := Lib.hid hth5
            have HE5 := Lib.hid he5
            have HT5 := Lib.hid ht5
            clear he5 ht5 hth5 T
            go_upto_region 7 with fail
            obtain ⟨w6, hw6⟩ : ∃ w6, w6 = w5.setCell ⟨G, k * 35 + 32, none⟩ (.int .i64 (x : Int)) := ⟨_, rfl⟩
            have ht6 : Turn (fun i => i = G) w5 w6 := by rw [hw6]; exact (Turn.refl _ _).setCell _ _ (fun _ => rfl)
            have HTH6 := Lib.hid (show w6.there G 0 (n * 35) by rw [hw6]; exact World.there_setCells HTH5.out G (k * 35 + 32) [.int .i64 (x : Int)])
            have HK6 := Lib.hid (show KeepLo w4 w6 G (k * 35 + 32) by rw [hw6]; exact (KeepLo.turn HT5.out hGe.1).trans (KeepLo.setCell _ _ _ _))
            have HC6 := Lib.hid (show w6.cell? ⟨G, k * 35 + 32, none⟩ = some (.int .i64 (x : Int)) by rw [hw6]; exact cell_set HC5.out)
            have HT6 := Lib.hid (show Turn (fun i => i = e ∨ i = G) wr w6 from (HT4.out.trans HT5.out (fun _ _ h => .inl h)).trans ht6 (fun _ _ h => .inr h))
            have HE6 := Lib.hid (HE5.out.turn ht6 (fun h => hGe.1 h.symm) (fun h => hGe.2 h.symm) (fun i h => by rw [h]; exact HNG.out))
            have HZ6 := Lib.hid (Nat.le_trans HZ4.out (Nat.le_trans HT5.out.size ht6.size))
            rw [← hw6]
            clear hw6 ht6 HTH5 HE5 HTH4 HE4 c5 z5 HC5
            obtain ⟨l2, hl2⟩ : ∃ l2, l2 = numR (lk.drop 32) := ⟨_, rfl⟩
            rw [← hl2] at HE6
            have HL2 := Lib.hid hl2
            clear hl2
            by_cases htop : eNum topN l2 = 0
            · have T := Lib.hid (num_yes e E N topN l2 w6 HE6.out htop)
              have hy64 : numV l2 < 18446744073709551616 := numV_lt l2 (by unfold eNum at htop; split at htop <;> omega)
              have HHT := Lib.hid htop
              obtain ⟨y, hy⟩ : ∃ y, y = numV l2 := ⟨_, rfl⟩
              rw [← hy] at T hy64
              have HYY := Lib.hid hy
              clear htop hy
              go_wp2_with fail
              refine T.out.mono ?_
              rintro r w7 ⟨rfl, he7, ht7⟩
              have hth7 := there_turn HTH6.out ht7 hGe.1
              obtain ⟨v7, c7, z7⟩ := there_cell hth7 (k * 35 + 33) (by omega)
              have HC7 := Lib.hid c7
              have HTH7 := Lib.hid hth7
              have HE7 := Lib.hid he7
              have HT7 := Lib.hid ht7
              clear he7 ht7 hth7 T
              go_upto_region 8 with fail
              obtain ⟨w8, hw8⟩ : ∃ w8, w8 = w7.setCell ⟨G, k * 35 + 33, none⟩ (.int .u64 (y : Int)) := ⟨_, rfl⟩
              have ht8 : Turn (fun i => i = G) w7 w8 := by rw [hw8]; exact (Turn.refl _ _).setCell _ _ (fun _ => rfl)
              have HTH8 := Lib.hid (show w8.there G 0 (n * 35) by rw [hw8]; exact World.there_setCells HTH7.out G (k * 35 + 33) [.int .u64 (y : Int)])
              have HK8 := Lib.hid (show KeepLo w6 w8 G (k * 35 + 33) by rw [hw8]; exact (KeepLo.turn HT7.out hGe.1).trans (KeepLo.setCell _ _ _ _))
              have HC8 := Lib.hid (show w8.cell? ⟨G, k * 35 + 33, none⟩ = some (.int .u64 (y : Int)) by rw [hw8]; exact cell_set HC7.out)
              have HT8 := Lib.hid (show Turn (fun i => i = e ∨ i = G) wr w8 from (HT6.out.trans HT7.out (fun _ _ h => .inl h)).trans ht8 (fun _ _ h => .inr h))
              have HE8 := Lib.hid (HE7.out.turn ht8 (fun h => hGe.1 h.symm) (fun h => hGe.2 h.symm) (fun i h => by rw [h]; exact HNG.out))
              have HZ8 := Lib.hid (Nat.le_trans HZ6.out (Nat.le_trans HT7.out.size ht8.size))
              rw [← hw8]
              clear hw8 ht8 HTH7 HE7 HTH6 HE6 c7 z7 HC7
              obtain ⟨l3, hl3⟩ : ∃ l3, l3 = numR l2 := ⟨_, rfl⟩
              rw [← hl3] at HE8
              have HL3 := Lib.hid hl3
              clear hl3
              by_cases htx : eText 64 l3 = 0
              · have T := Lib.hid (text_yes e E N 64 l3 w8 HE8.out htx (by decide))
                have hs64 : numV l3 ≤ 64 ∧ numV l3 ≤ (numR l3).length := by unfold eText at htx; split at htx; omega; split at htx; omega; split at htx <;> omega
                have HHX := Lib.hid htx
                clear htx
                go_wp2_with fail
                refine T.out.mono ?_
                rintro r w9 ⟨v9, rfl, own9, he9, ht9⟩
                have hth9 := there_turn HTH8.out ht9 hGe.1
                obtain ⟨u9, c9, z9⟩ := there_cell hth9 (k * 35 + 34) (by omega)
                have HC9 := Lib.hid c9
                have HTH9 := Lib.hid hth9
                have HE9 := Lib.hid he9
                have HT9 := Lib.hid ht9
                obtain ⟨A9, k9, rfl, hs9, -, hk9, ha9⟩ := own_sl own9
                have HO9 := Lib.hid own9
                have HKA := Lib.hid (And.intro hk9 ha9)
                clear he9 ht9 hth9 own9 hs9 T hk9 ha9
                go_upto_region 9 with fail
                obtain ⟨w10, hw10⟩ : ∃ w10, w10 = w9.setCell ⟨G, k * 35 + 34, none⟩ (.slice A9 (numV l3) k9) := ⟨_, rfl⟩
                have ht10 : Turn (fun i => i = G) w9 w10 := by rw [hw10]; exact (Turn.refl _ _).setCell _ _ (fun _ => rfl)
                have HTH10 := Lib.hid (show w10.there G 0 (n * 35) by rw [hw10]; exact World.there_setCells HTH9.out G (k * 35 + 34) [.slice A9 (numV l3) k9])
                have HK10 := Lib.hid (show KeepLo w8 w10 G (k * 35 + 34) by rw [hw10]; exact (KeepLo.turn HT9.out hGe.1).trans (KeepLo.setCell _ _ _ _))
                have HC10 := Lib.hid (show w10.cell? ⟨G, k * 35 + 34, none⟩ = some (.slice A9 (numV l3) k9) by rw [hw10]; exact cell_set HC9.out)
                have HT10 := Lib.hid (show Turn (fun i => i = e ∨ i = G) wr w10 from (HT8.out.trans HT9.out (fun _ _ h => .inl h)).trans ht10 (fun _ _ h => .inr h))
                have HE10 := Lib.hid (HE9.out.turn ht10 (fun h => hGe.1 h.symm) (fun h => hGe.2 h.symm) (fun i h => by rw [h]; exact HNG.out))
                have HZT := Lib.hid ht10
                rw [← hw10]
                clear hw10 ht10 HTH9 HE9 HTH8 HE8 c9 z9 HC9
                have HIN := Lib.hid (show inE lk = 0 by unfold inE; rw [if_neg h32, ← HL2.out, ← HL3.out, if_neg (by rw [HH15.out]; omega), if_neg (by rw [HHT.out]; omega), HHX.out])
                have HIV := Lib.hid (show inV lk = ⟨lk.take 32, (x : Int), y, (numR l3).take (numV l3)⟩ by unfold inV; rw [← HL2.out, ← HL3.out, ← HXX.out, ← HYY.out])
                have HIR := Lib.hid (show inR lk = (numR l3).drop (numV l3) by unfold inR; rw [← HL2.out, ← HL3.out])
                have HTL := Lib.hid (show ((numR l3).take (numV l3)).length = numV l3 by rw [List.length_take]; omega)
                go_wp2
                go_roundw
                case rel =>
                  refine ⟨k + 1, by omega, by go_num, HNXT.out HIN.out, HTH10.out, ?_, by rw [HRS.out, HIR.out]; exact HE10.out, HTR.out.trans HT10.out (fun _ _ h => h)⟩
                  have hs2 := HT2.out.size
                  have hs3 := HTR.out.size
                  have hs4 := HGlt.out
                  rw [HVS.out]
                  intro i p hi
                  by_cases hik : i < k
                  · rw [List.getElem?_append_left (by rw [HKT.out]; exact hik)] at hi
                    obtain ⟨hok, S, c, hs, hr⟩ := HRW.out i p hi
                    refine ⟨hok, S, c, hs.turn HT10.out (fun i h => by rcases h with h | h <;> omega) (fun _ _ h => h), ?_⟩
                    have hl := p.len S c hok.d
                    exact (((HK4.out.trans (HK6.out.less (by omega))).trans (HK8.out.less (by omega))).trans (HK10.out.less (by omega))).range hr (by omega)
                  · obtain rfl : i = k := by have := (List.getElem?_eq_some_iff.1 hi).1; simp [HKT.out] at this; omega
                    rw [List.getElem?_append_right (by rw [HKT.out]; exact Nat.le_refl _), HKT.out, Nat.sub_self] at hi
                    simp only [List.getElem?_cons_zero, Option.some.injEq] at hi
                    rw [← hi, HIV.out]
                    refine ⟨⟨HD32.out, by simp only; omega, by simp only; omega, hy64, by simp only [HTL.out]; unfold maxLen; omega⟩, A9, k9, ⟨?_, HKA.out.2, by simp only [HTL.out]; exact HKA.out.1⟩, ?_⟩
                    · exact (own_sln HO9.out).turn HZT.out (fun i h => by have := HZ8.out; have h' : i = G := h; show i < _; omega) (fun i _ h => by have := HZ8.out; have h' : i < w2.heap.size := h; show i < _; omega)
                    · have r0 := ((HK6.out.trans (HK8.out.less (by omega))).trans (HK10.out.less (by omega))).range HR4.out (by rw [List.length_map, HD32.out]; exact Nat.le_refl _)
                      have r1 := range_one ((HK8.out.trans (HK10.out.less (by omega))) _ _ (by omega) HC6.out)
                      have r2 := range_one (HK10.out _ _ (by omega) HC8.out)
                      have r3 := range_one HC10.out
                      unfold Pin.cells
                      simp only [HTL.out]
                      refine range_app r0 ?_
                      rw [List.length_map, HD32.out]
                      exact range_app (xs := [_]) r1 (range_app (xs := [_]) r2 r3)
                case measure => simp [intOf]; omega
              · have T := Lib.hid (text_no e E N 64 l3 w8 HE8.out htx (by decide) (by decide))
                have HE2 := Lib.hid (show inE lk = eText 64 l3 by unfold inE; rw [if_neg h32, ← HL2.out, ← HL3.out, if_neg (by rw [HH15.out]; omega), if_neg (by rw [HHT.out]; omega)])
                have HHX := Lib.hid htx
                clear htx
                go_wp2_with (go_at_call 32; refine T.out.mono ?_; rintro r w9 ⟨rfl, he9, ht9⟩; dsimp only [pan]; have HE9 := Lib.hid he9; have HT9 := Lib.hid ht9; clear he9 ht9)
                have hz := HERR.out (by rw [HE2.out]; exact HHX.out)
                exact ⟨rfl, rins_no (hz.trans HE2.out) HHX.out HE9.out HT2.out (HTR.out.trans HT8.out (fun _ _ h => h)) HT9.out HS1.out⟩
            · have T := Lib.hid (num_no e E N topN l2 w6 HE6.out htop)
              have HE2 := Lib.hid (show inE lk = eNum topN l2 by unfold inE; rw [if_neg h32, ← HL2.out, if_neg (by rw [HH15.out]; omega), if_pos htop])
              have HHT := Lib.hid htop
              clear htop
              go_wp2_with (go_at_call 14; refine T.out.mono ?_; rintro r w7 ⟨rfl, he7, ht7⟩; dsimp only [pan]; have HE7 := Lib.hid he7; have HT7 := Lib.hid ht7; clear he7 ht7)
              have hz := HERR.out (by rw [HE2.out]; exact HHT.out)
              exact ⟨rfl, rins_no (hz.trans HE2.out) HHT.out HE7.out HT2.out (HTR.out.trans HT6.out (fun _ _ h => h)) HT7.out HS1.out⟩
          · have T := Lib.hid (num_no e E N 15 (lk.drop 32) w4 HE4.out h15)
            have HE2 := Lib.hid (show inE lk = eNum 15 (lk.drop 32) by unfold inE; rw [if_neg h32, if_pos h15])
            have HH15 := Lib.hid h15
            clear h15
            go_wp2_with (go_at_call 14; refine T.out.mono ?_; rintro r w5 ⟨rfl, he5, ht5⟩; dsimp only [pan]; have HE5 := Lib.hid he5; have HT5 := Lib.hid ht5; clear he5 ht5)
            have hz := HERR.out (by rw [HE2.out]; exact HH15.out)
            exact ⟨rfl, rins_no (hz.trans HE2.out) HH15.out HE5.out HT2.out (HTR.out.trans HT4.out (fun _ _ h => h)) HT5.out HS1.out⟩
      · obtain rfl : k = n := by omega
        have H0 := Lib.hid h0
        have HRW := Lib.hid hrow
        have HE := Lib.hid he
        have HT := Lib.hid ht
        clear h0 hrow he ht hth
        go_wp2
        go_ret
        refine Or.inl ⟨by rw [HX.out, H0.out], G, by rw [← HNN.out]; rfl, ?_, by rw [HR.out]; exact HE.out, HT2.out.trans HT.out (fun i hi h => ?_)⟩
        · rw [HV.out]
          intro i p hi
          obtain ⟨hok, S, c, hs, hr⟩ := HRW.out i p hi
          refine ⟨hok, G, 0, S, c, rfl, by have := HS1.out; omega, hs.turn (Turn.refl (fun _ => False) _) (fun _ h => h.elim) (fun i _ h => ?_), by rw [Nat.zero_add]; exact hr⟩
          have := HT2.out.size; omega
        · have := HS1.out
          omega
  · have T0 := Lib.hid (num_no e E N 16 l w h hx)
    have HX := Lib.hid (show rinsE l = eNum 16 l by unfold rinsE; rw [if_pos hx])
    have HNZ := Lib.hid hx
    clear h hN hx
    go_enter Try.func12, Try.ntmps12
    go_wp2_with (go_at_call 14; refine T0.out.mono ?_; rintro r w1 ⟨rfl, he1, ht1⟩; dsimp only [pan]; have HE1 := Lib.hid he1; have HT1 := Lib.hid ht1; clear he1 ht1)
    exact ⟨rfl, Or.inr ⟨by rw [HX.out]; exact HNZ.out, rfl, by rw [HX.out]; exact HE1.out, HT1.out⟩⟩
end Go.Proofs.Yteaoaabjdgdcmaa
