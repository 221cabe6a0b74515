/- The contract of the code's 'take': bytes come to a digest that is under way. -/
import Derived.Test.YtoclfohgchlpnaaDoorShaW3
import Derived.Deep.RegionLaw
import Derived.Test.YtoclfohgchlpnaaDoorKit
namespace Go.Proofs.YtoclfohgchlpnaaDoor
open Go.RowKit

/-- What a digester holds when the bytes t have come. -/
def Eat (t : List B8) (v : V8) (m : List B8) (f : Nat) : Prop := v = absorb K64 H8 t (t.length / 64) ∧ f = t.length % 64 ∧ m.length = 64 ∧ m.take f = t.drop (64 * (t.length / 64))
def DigAt (w : World) (g : Nat) (t : List B8) : Prop := ∃ v m f, Eat t v m f ∧ w.heap[g]? = some (.cells (dcells v m f t.length) 72 (0, 0))
def mput (m : List B8) (f : Nat) (x : List B8) : List B8 := m.take f ++ (x ++ m.drop (f + x.length))
theorem mput_len (m : List B8) (f : Nat) (x : List B8) (hm : m.length = 64) (h : f + x.length ≤ 64) : (mput m f x).length = 64 := by simp [mput]; omega
theorem eat_part (t : List B8) (v : V8) (m : List B8) (f : Nat) (x : List B8) (h : Eat t v m f) (hf : f + x.length < 64) : Eat (t ++ x) v (mput m f x) (f + x.length) := by
  obtain ⟨h1, h2, h3, h4⟩ := h
  have e : (t ++ x).length / 64 = t.length / 64 := by simp; omega
  refine ⟨?_, by simp; omega, mput_len _ _ _ h3 (by omega), ?_⟩
  · rw [e, absorb_append _ _ _ _ _ (by omega)]; exact h1
  · rw [e, List.drop_append_of_le_length (by omega), ← h4]
    have : (m.take f ++ x).length = f + x.length := by simp; omega
    unfold mput
    rw [← List.append_assoc, ← this, List.take_left']
    rfl
theorem eat_full (t : List B8) (v : V8) (m : List B8) (f : Nat) (x : List B8) (h : Eat t v m f) (hf : f + x.length = 64) : Eat (t ++ x) (comp K64 v (mput m f x)) (mput m f x) 0 := by
  obtain ⟨h1, h2, h3, h4⟩ := h
  have e : (t ++ x).length / 64 = t.length / 64 + 1 := by simp; omega
  have e2 : mput m f x = (t ++ x).drop (64 * (t.length / 64)) := by
    rw [List.drop_append_of_le_length (by omega), ← h4]
    unfold mput
    rw [List.drop_eq_nil_of_le (by omega), List.append_nil]
  refine ⟨?_, by simp; omega, mput_len _ _ _ h3 (by omega), ?_⟩
  · rw [e, absorb, absorb_append _ _ _ _ _ (by omega), ← h1, ← e2, List.take_of_length_le (by rw [mput_len _ _ _ h3 (by omega)]; omega)]
  · rw [List.take_zero, List.drop_eq_nil_of_le (by rw [e]; simp; omega)]
theorem dtail (v : V8) (m : List B8) (f l : Nat) (w : World) (g : Nat) (t : TypeId) (hm : m.length = 64) (h : w.heap[g]? = some (.cells (dcells v m f l) t (0, 0))) :
    w.cell? ⟨g, 72, none⟩ = some (.int .i64 (f : Int)) ∧ w.cell? ⟨g, 73, none⟩ = some (.int .u64 (l : Int)) ∧ w.frozen? ⟨g, 72, none⟩ = false ∧ w.frozen? ⟨g, 73, none⟩ = false := by
  refine ⟨?_, ?_, frozen_of_row w g 72 _ _ h, frozen_of_row w g 73 _ _ h⟩
  · rw [cell_of_row w g _ _ _ _ h]
    unfold dcells
    rw [List.getElem?_toArray, List.getElem?_append_right (by simp), List.getElem?_append_right (by simp; omega)]
    simp [hm]
  · rw [cell_of_row w g _ _ _ _ h]
    unfold dcells
    rw [List.getElem?_toArray, List.getElem?_append_right (by simp), List.getElem?_append_right (by simp; omega)]
    simp [hm]
theorem dset72 (v : V8) (m : List B8) (f l f' : Nat) (w : World) (g : Nat) (t : TypeId) (hm : m.length = 64) (h : w.heap[g]? = some (.cells (dcells v m f l) t (0, 0))) :
    (w.setCell ⟨g, 72, none⟩ (.int .i64 (f' : Int))).heap[g]? = some (.cells (dcells v m f' l) t (0, 0)) := by
  rw [heap_setCell_same _ g 72 _ t _ h]
  unfold dcells
  rw [List.setIfInBounds_toArray, List.set_append_right _ _ (by simp), List.set_append_right _ _ (by simp; omega)]
  simp [hm]
theorem dset72' (v : V8) (m : List B8) (f l f' n : Nat) (w : World) (g : Nat) (t : TypeId) (hm : m.length = 64) (h : w.heap[g]? = some (.cells (dcells v m f l) t (0, 0))) :
    (w.setCell ⟨g, 72, none⟩ (.int .i64 ((f' : Int) + (n : Int)))).heap[g]? = some (.cells (dcells v m (f' + n) l) t (0, 0)) := dset72 v m f l (f' + n) w g t hm h
theorem dset73 (v : V8) (m : List B8) (f l l' : Nat) (w : World) (g : Nat) (t : TypeId) (hm : m.length = 64) (h : w.heap[g]? = some (.cells (dcells v m f l) t (0, 0))) :
    (w.setCell ⟨g, 73, none⟩ (.int .u64 (l' : Int))).heap[g]? = some (.cells (dcells v m f l') t (0, 0)) := by
  rw [heap_setCell_same _ g 73 _ t _ h]
  unfold dcells
  rw [List.setIfInBounds_toArray, List.set_append_right _ _ (by simp), List.set_append_right _ _ (by simp; omega)]
  simp [hm]
/-- Bytes that are read while block g is written. -/
def Src (w : World) (g : Nat) (A : Option Addr) (xs : List B8) : Prop := ∀ j u, (xs.map bv)[j]? = some u → ∃ ad, A = some ad ∧ ad.block ≠ g ∧ w.cell? (ad.add j) = some u
theorem Src.grown {w w' : World} {g : Nat} {A : Option Addr} {xs : List B8} (h : Src w g A xs) (hg : w.grownBy w' (some g)) : Src w' g A xs := fun j u hu => by
  obtain ⟨ad, e, hb, hc⟩ := h j u hu
  exact ⟨ad, e, hb, hg.cell hc (by rw [add_block]; intro he; exact hb (by injection he))⟩
theorem cells_split (v : V8) (m : List B8) (f l : Nat) (x : List B8) (hm : m.length = 64) (h : f + x.length ≤ 64) :
    ((dcells v m f l).toList.take (8 + f) ++ (x.map bv ++ (dcells v m f l).toList.drop (8 + f + (x.map bv).length))).toArray = dcells v (mput m f x) f l := by
  unfold dcells mput
  congr 1
  generalize hH : [wv v.a, wv v.b, wv v.c, wv v.d, wv v.e, wv v.f, wv v.g, wv v.h] = H
  have hl : H.length = 8 := by rw [← hH]; rfl
  rw [List.length_map, List.take_append, List.drop_append, List.take_append, List.drop_append]
  rw [List.take_of_length_le (by omega), List.drop_eq_nil_of_le (by omega)]
  simp only [hl, List.length_map, hm, List.map_append, List.map_take, List.map_drop, List.nil_append, List.append_assoc]
  rw [show 8 + f - 8 = f by omega, show 8 + f + x.length - 8 = f + x.length by omega, show f - 64 = 0 by omega, show f + x.length - 64 = 0 by omega]
  simp
theorem wpList_copy_dig {w : World} {ops : Array Oper} {rest : List Oper} {o : Oper} {a : Act} {Q : Exit → Act → World → Prop} (hgd : o.guard = none) (d s : Operand)
    (ho : o.op = .call { callee := .builtin .copy, args := #[d, s], argTypes := #[52, 52] }) (g : Nat) (v : V8) (m : List B8) (f l : Nat) (dLen cap : Nat) (ad : Addr) (sLen sCap : Nat)
    (hd : a.eval d = .slice (some ⟨g, 8 + f, none⟩) dLen cap) (hs : a.eval s = .slice (some ad) sLen sCap) (xs : List B8) (n : Nat) (hn : n = Nat.min sLen dLen) (hl : xs.length = sLen) (hdl : dLen = 64 - f) (hf64 : f < 64)
    (hsrc : Src w g (some ad) xs) (hm : m.length = 64) (hg : w.heap[g]? = some (.cells (dcells v m f l) 72 (0, 0)))
    (h : ∀ w', Hid (w'.heap[g]? = some (.cells (dcells v (mput m f (xs.take n)) f l) 72 (0, 0))) → w.grownBy w' (some g) → wpList Tryd.prog ops Q rest (a.put o.dst (.int .i64 (n : Int))) w') :
    wpList Tryd.prog ops Q (o :: rest) a w := by
  have hn1 : n ≤ sLen := by rw [hn]; exact Nat.min_le_left _ _
  have hn2 : n ≤ dLen := by rw [hn]; exact Nat.min_le_right _ _
  have hlen : (xs.take n).length = n := by simp; omega
  refine wpList_copy_own hgd d s _ _ ho 5 Tryd.underlying52 (by kernel_rfl) g (8 + f) dLen cap ad sLen sCap hd hs (dcells v m f l) _ hg ((xs.take n).map bv) (by rw [List.length_map, hlen, hn]) ?_ ?_ ?_ ?_
  · intro j u hu
    rw [List.map_take, List.getElem?_take] at hu
    split at hu
    · obtain ⟨ad', e, _, hc⟩ := hsrc j u hu
      injection e with e; subst e; exact hc
    · cases hu
  · rw [List.length_map, hlen]; simp [dcells, hm]; omega
  · intro u hu
    simp only [List.mem_map] at hu
    obtain ⟨x, _, rfl⟩ := hu
    rfl
  · rw [cells_split v m f l _ hm (by omega), show goInt ((xs.take n).map bv).length = Value.int .i64 (n : Int) by rw [List.length_map, hlen]; rfl]
    exact h _ (setRow_heap w g _ _ _ _ hg) ⟨rfl, rfl, rfl, by simp [World.setRow], fun k hk hne => setRow_other w g k _ (by intro e; exact hne (by rw [e]))⟩
theorem grown_refl (w : World) (r : Option Nat) : w.grownBy w r := ⟨rfl, rfl, rfl, Nat.le_refl _, fun _ _ _ => rfl⟩
def cutA (A : Option Addr) (cap n : Nat) : Option Addr := if cap = n then A else A.map (·.add n)
theorem size_u8 (w : World) : (sizeOf 5).run Tryd.prog w = .ok 1 w := by kernel_rfl
theorem slice_lo (A : Option Addr) (len cap n : Nat) (h : n ≤ len) (w : World) : (Instr.slice 52 (.slice A len cap) (some (.int .i64 (n : Int))) none none).run Tryd.prog w = .ok (.slice (cutA A cap n) (len - n) (cap - n)) w := by
  rw [run_slice_l (P := Tryd.prog) w 52 A len cap (by kernel_rfl) .i64 (n : Int) (by omega) (by omega)]
  rw [show Tryd.prog.elem 52 = 5 by kernel_rfl, size_u8]
  simp [Result.andThen, sliced, cutA]
theorem slice_dig (g f : Nat) (h : f ≤ 63) (w : World) : (Instr.sliceAt 70 (.pointer (some ⟨g, 8, none⟩)) (some (.int .i64 (f : Int))) none none).run Tryd.prog w = .ok (.slice (some ⟨g, 8 + f, none⟩) (64 - f) (64 - f)) w := by
  have e : Tryd.prog.arrayLen 70 = 64 := by kernel_rfl
  rw [run_sliceAt_array_l (P := Tryd.prog) w 70 ⟨g, 8, none⟩ (by kernel_rfl) .i64 (f : Int) (by omega) (by rw [e]; omega)]
  rw [show Tryd.prog.elem 70 = 5 by kernel_rfl, size_u8, e]
  simp only [Result.andThen, slicedAt, Int.toNat_natCast, Nat.mul_one]
  rw [if_neg (by omega)]
  unfold Addr.add
  by_cases h0 : f = 0 <;> simp [h0]
theorem Src.cut {w : World} {g : Nat} {A : Option Addr} {xs : List B8} (h : Src w g A xs) (cap n : Nat) (hc : xs.length ≤ cap) : Src w g (cutA A cap n) (xs.drop n) := fun j u hu => by
  rw [List.map_drop, List.getElem?_drop] at hu
  obtain ⟨ad, rfl, hb, hcl⟩ := h (n + j) u hu
  have hlt := (List.getElem?_eq_some_iff.1 hu).1
  refine ⟨ad.add n, ?_, by rw [add_block]; exact hb, by rw [add_add]; exact hcl⟩
  unfold cutA
  rw [if_neg (by simp at hlt; omega)]; rfl
theorem grown_trans {a b c : World} {r : Option Nat} (h : a.grownBy b r) (k : b.grownBy c r) : a.grownBy c r :=
  ⟨k.os.trans h.os, k.tape.trans h.tape, k.output.trans h.output, Nat.le_trans h.size k.size, fun i hi hne => (k.block i (Nat.lt_of_lt_of_le hi h.size) hne).trans (h.block i hi hne)⟩
theorem Glob.grown {w w' : World} {g : Nat} (h : Glob w) (hg : w.grownBy w' (some g)) (h2 : 2 ≤ g) : Glob w' :=
  h.below (B := 2) ⟨hg.os, hg.tape, hg.output, hg.size, fun k hk => hg.block k (Nat.lt_of_lt_of_le hk h.1) (by intro e; injection e; omega)⟩ (Nat.le_refl _)
/-- The length in a slot. -/
def lenV : Value → Nat | .slice _ n _ => n | _ => 0
set_option maxRecDepth 100000 in
set_option maxHeartbeats 2000000 in
theorem take_any (g : Nat) (t : List B8) (A : Option Addr) (c : Nat) (src : List B8) (w : World) (hs : Src w g A src) (hc : src.length ≤ c) (hD : DigAt w g t) (hG : Glob w) (h2 : 2 ≤ g) (hlen : t.length + src.length ≤ 1099511627776) :
    Calls Tryd.prog 32 #[.pointer (some ⟨g, 0, none⟩), .slice A src.length c] w fun e w' => e = .returned (.tuple #[]) ∧ w.grownBy w' (some g) ∧ DigAt w' g (t ++ src) := by
  obtain ⟨v, m, f, hE, hg⟩ := hD
  obtain ⟨c72, c73, z72, z73⟩ := dtail v m f _ w g _ hE.2.2.1 hg
  have hlt : g < w.heap.size := lt_of_block hg
  have HS := Lib.hid hs
  have HE := Lib.hid hE
  have HG := Lib.hid hg
  have HGl := Lib.hid hG
  have H2 := Lib.hid h2
  clear hs hE hg hG h2
  go_enter Tryd.func32, Tryd.ntmps32
  go_wp2
  obtain ⟨L, hL⟩ : ∃ L, L = t.length + src.length := ⟨_, rfl⟩
  have hw0 := dset73 v m f t.length L w g _ HE.out.2.2.1 HG.out
  have hg0 := grown_set (grown_refl w (some g)) 73 (.int .u64 (L : Int))
  rw [show (t.length : Int) + (src.length : Int) = (L : Int) by omega]
  have HW0 := Lib.hid hw0
  have HG0 := Lib.hid hg0
  have HLL := Lib.hid hL
  clear c72 c73 z72 z73 hw0 hg0 hL
  go_loopw [1] (fun b wr => ∃ (A : Option Addr) (c : Nat) (k : Nat) (v : V8) (m : List B8) (f : Nat), k ≤ src.length ∧ b = .slice A (src.length - k) c ∧ src.length - k ≤ c ∧ Src wr g A (src.drop k) ∧ Eat (t ++ src.take k) v m f ∧
      wr.heap[g]? = some (.cells (dcells v m f L) 72 (0, 0)) ∧ w.grownBy wr (some g)) (fun b _ => lenV b)
  case atStart => exact ⟨A, c, 0, v, m, f, Nat.zero_le _, rfl, hc, HS.out.grown HG0.out, by simpa using HE.out, HW0.out, HG0.out⟩
  case round =>
    clear hc HE HG HS HW0 HG0
    obtain ⟨A, c, k, v, m, f, hk, rfl, hc, hs, hE, hg, hb⟩ := hrel
    obtain ⟨r, hr⟩ : ∃ r, r = src.length - k := ⟨_, rfl⟩
    have hrl : (src.drop k).length = r := by simp [hr]
    have HR := Lib.hid hr
    rw [← hr] at hc ⊢
    clear hr
    by_cases hr0 : 0 < r
    · obtain ⟨c72, c73, z72, z73⟩ := dtail v m f _ wr g _ hE.2.2.1 hg
      have hf : f < 64 := by have := hE.2.1; omega
      obtain ⟨ad, rfl, -, -⟩ := hs 0 _ (List.getElem?_eq_getElem (by simp; have := HR.out; omega))
      obtain ⟨n, hn⟩ : ∃ n, n = Nat.min r (64 - f) := ⟨_, rfl⟩
      have HN := Lib.hid hn
      have HE := Lib.hid hE
      have HS := Lib.hid (show Src wr.drew g (some ad) (src.drop k) from hs)
      have HG := Lib.hid (show wr.drew.heap[g]? = _ from hg)
      have HB := Lib.hid (grown_drew hb)
      have d72 : wr.drew.cell? ⟨g, 72, none⟩ = _ := c72
      have s1 := slice_dig g f (by omega)
      clear hs hE hg hb hn c72 c73 z72 z73
      go_wp2
      refine wp_region_still_tail 9 (by kernel_rfl) (by kernel_rfl) ?_
      simp only [List.take_succ_cons, List.take_zero, List.drop_succ_cons, List.drop_zero]
      change wpStill _ _ wr.drew (fun a' => wpList _ _ _ _ a' wr.drew) _ _
      generalize wr.drew = wd at HS HG HB d72 ⊢
      have hnr : n ≤ r := by rw [HN.out]; exact Nat.min_le_left _ _
      have hn6 : n ≤ 64 - f := by rw [HN.out]; exact Nat.min_le_right _ _
      have hn0 : 0 < n := by rw [HN.out]; exact Nat.lt_min.2 ⟨hr0, by omega⟩
      have hml : ((src.drop k).take n).length = n := by rw [List.length_take, hrl]; omega
      have hmm := mput_len m f ((src.drop k).take n) HE.out.2.2.1 (by rw [hml]; omega)
      have HMM := Lib.hid hmm
      have HML := Lib.hid hml
      have HRL := Lib.hid hrl
      clear hml hmm
      repeat still_step
      refine wpStill_nil ?_
      by_cases hfull : f + n = 64
      · have F1 : ((f : Int) + (n : Int) == 64) = true := by simp; omega
        go_wp2_with (first
          | (refine wpList_copy_dig rfl _ _ rfl g v m f L (64 - f) _ ad r _ rfl rfl (src.drop k) n HN.out hrl rfl hf HS.out HE.out.2.2.1 HG.out ?_; intro wx hgx hbx; obtain ⟨x72, x73, y72, y73⟩ := dtail _ _ _ _ wx g _ HMM.out hgx.out; clear hrl)
          | (go_at_call 45; refine (mix_any g v (mput m f ((src.drop k).take n)) (f + n) L _ HMM.out (dset72' _ _ _ _ _ _ wx g _ HMM.out hgx.out) (HGl.out.grown (grown_set (grown_trans HB.out hbx) 72 _) H2.out) H2.out).mono ?_; rintro e w2 ⟨rfl, hg2, hb2⟩; have hg2 := Lib.hid hg2; obtain ⟨p72, p73, q72, q73⟩ := dtail _ _ _ _ w2 g _ HMM.out hg2.out))
        go_roundw
        case rel =>
          have hb3 := grown_set (grown_trans (grown_set (grown_trans HB.out hbx) 72 (.int .i64 ((f : Int) + (n : Int)))) hb2) 72 (.int .i64 ((0 : Nat) : Int))
          have hs3 := HS.out.grown (grown_set (grown_trans (grown_set hbx 72 (.int .i64 ((f : Int) + (n : Int)))) hb2) 72 (.int .i64 ((0 : Nat) : Int)))
          refine ⟨cutA (some ad) c n, c - n, k + n, comp K64 v (mput m f ((src.drop k).take n)), mput m f ((src.drop k).take n), 0, ?_, ?_, ?_, ?_, ?_, ?_, ?_⟩
          · have := HR.out; omega
          · rw [show src.length - (k + n) = r - n by have := HR.out; omega]; rfl
          · have := HR.out; omega
          · have h := hs3.cut c n (by rw [HRL.out]; exact hc)
            rw [List.drop_drop] at h; exact h
          · have h := eat_full _ v m f ((src.drop k).take n) HE.out (by rw [HML.out]; exact hfull)
            rw [List.append_assoc, ← List.take_add] at h; exact h
          · exact dset72 _ _ _ _ 0 w2 g _ HMM.out hg2.out
          · exact hb3
        case measure => simp [lenV]; omega
      · have F1 : ((f : Int) + (n : Int) == 64) = false := by simp; omega
        go_wp2_with (first
          | (refine wpList_copy_dig rfl _ _ rfl g v m f L (64 - f) _ ad r _ rfl rfl (src.drop k) n HN.out hrl rfl hf HS.out HE.out.2.2.1 HG.out ?_; intro wx hgx hbx; obtain ⟨x72, x73, y72, y73⟩ := dtail _ _ _ _ wx g _ HMM.out hgx.out; clear hrl))
        go_roundw
        case rel =>
          have hb3 := grown_set (grown_trans HB.out hbx) 72 (.int .i64 ((f : Int) + (n : Int)))
          have hs3 := HS.out.grown (grown_set hbx 72 (.int .i64 ((f : Int) + (n : Int))))
          refine ⟨cutA (some ad) c n, c - n, k + n, v, mput m f ((src.drop k).take n), f + n, ?_, ?_, ?_, ?_, ?_, ?_, ?_⟩
          · have := HR.out; omega
          · rw [show src.length - (k + n) = r - n by have := HR.out; omega]; rfl
          · have := HR.out; omega
          · have h := hs3.cut c n (by rw [HRL.out]; exact hc)
            rw [List.drop_drop] at h; exact h
          · have h := eat_part _ v m f ((src.drop k).take n) HE.out (by rw [HML.out]; omega)
            rw [List.append_assoc, ← List.take_add, HML.out] at h; exact h
          · exact dset72' _ _ _ _ _ _ wx g _ HMM.out hgx.out
          · exact hb3
        case measure => simp [lenV]; omega
    · go_wp2
      go_end0
      refine ⟨rfl, hb, v, m, f, ?_, ?_⟩
      · have e : src.take k = src := List.take_of_length_le (by have := HR.out; omega)
        rw [← e]; exact hE
      · rw [List.length_append, ← HLL.out]; exact hg
end Go.Proofs.YtoclfohgchlpnaaDoor
