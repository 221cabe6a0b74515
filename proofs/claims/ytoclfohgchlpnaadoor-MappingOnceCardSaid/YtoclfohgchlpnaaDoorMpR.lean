/- 'MappingOnce': its walk. -/
import Derived.Test.YtoclfohgchlpnaaDoorMpN
import Derived.StillTailTactics
set_option linter.unusedVariables false
set_option linter.unusedSimpArgs false
namespace Go.Proofs.YtoclfohgchlpnaaDoor
open Go.RowKit
set_option maxRecDepth 100000 in
theorem plN_up (l : List Int) (s : Int) (k : Nat) : (plN l s k).Pairwise (· < ·) := by
  unfold plN
  rw [List.pairwise_map]
  exact (List.pairwise_lt_range.filter _).imp (by intro a b h; omega)
set_option maxRecDepth 100000 in
theorem places_mem {l : List Int} {s : Int} {i : Nat} : (i : Int) ∈ placesZ l s ↔ l[i]? = some s := by
  unfold placesZ plN
  rw [List.mem_map]
  constructor
  · rintro ⟨a, ha, e⟩
    rw [List.mem_filter] at ha
    obtain rfl : a = i := by omega
    exact of_decide_eq_true ha.2
  · intro h
    exact ⟨i, List.mem_filter.2 ⟨List.mem_range.2 (List.getElem?_eq_some_iff.1 h).1, decide_eq_true h⟩, rfl⟩
set_option maxRecDepth 100000 in
theorem places_at {l : List Int} {s : Int} {j : Nat} {y : Int} (h : (placesZ l s)[j]? = some y) : ∃ p : Nat, y = (p : Int) ∧ p < l.length := by
  have hm := List.mem_of_getElem? h
  unfold placesZ plN at hm
  rw [List.mem_map] at hm
  obtain ⟨a, ha, e⟩ := hm
  rw [List.mem_filter, List.mem_range] at ha
  exact ⟨a, e.symm, ha.1⟩
def loN (l : List Int) (s : Int) (i : Nat) : Nat := match l[i]? with | some y => if y < s then 1 else 0 | none => 0
def cN (l : List Int) (s : Int) (j i : Nat) : Nat := loN l s i + if (i : Int) ∈ (placesZ l s).take j then 1 else 0
def rowC (l : List Int) (s : Int) (j : Nat) : List Int := (List.range 16).map fun i => (cN l s j i : Int)
set_option maxRecDepth 100000 in
theorem rowC_len (l : List Int) (s : Int) (j : Nat) : (rowC l s j).length = 16 := by simp [rowC]
set_option maxRecDepth 100000 in
theorem rowC_at {l : List Int} {s : Int} {j p : Nat} (h : p < 16) : (rowC l s j)[p]? = some (cN l s j p : Int) := by
  unfold rowC; rw [List.getElem?_map, List.getElem?_range h]; rfl
set_option maxRecDepth 100000 in
theorem cN_le (l : List Int) (s : Int) (j i : Nat) : cN l s j i ≤ 2 := by
  unfold cN loN
  split <;> split <;> (try split) <;> omega
set_option maxRecDepth 100000 in
theorem rowC_step {l : List Int} {s : Int} {j p : Nat} (h : (placesZ l s)[j]? = some (p : Int)) : (rowC l s j).set p ((cN l s j p : Int) + 1) = rowC l s (j + 1) := by
  have hj := (List.getElem?_eq_some_iff.1 h).1
  have ht : (placesZ l s).take (j + 1) = (placesZ l s).take j ++ [(p : Int)] := by
    rw [List.take_succ_eq_append_getElem hj]
    have := List.getElem?_eq_getElem hj
    rw [this] at h
    rw [Option.some.inj h]
  have hno : ¬ (p : Int) ∈ (placesZ l s).take j := by
    intro hm
    have hp := plN_up l s l.length
    rw [show plN l s l.length = placesZ l s from rfl, ← List.take_append_drop j (placesZ l s), List.pairwise_append] at hp
    have : (p : Int) ∈ (placesZ l s).drop j := List.mem_of_getElem? (i := 0) (by rw [List.getElem?_drop]; simpa using h)
    have := hp.2.2 _ hm _ this
    omega
  apply List.ext_getElem?
  intro i
  rw [List.getElem?_set]
  by_cases hi : i < 16
  · rw [rowC_at hi, rowC_at hi]
    by_cases e : p = i
    · subst e
      rw [if_pos rfl, if_pos (by rw [rowC_len]; exact hi)]
      unfold cN
      rw [ht, if_neg hno, if_pos (by simp)]
      simp
    · rw [if_neg e]
      unfold cN
      rw [ht]
      have : ((i : Int) ∈ (placesZ l s).take j ++ [(p : Int)]) ↔ (i : Int) ∈ (placesZ l s).take j := by
        rw [List.mem_append, List.mem_singleton]
        exact ⟨fun h => h.elim id (fun h => by omega), .inl⟩
      simp only [this]
  · rw [List.getElem?_eq_none (by rw [rowC_len]; omega), List.getElem?_eq_none (by rw [rowC_len]; omega)]
    by_cases e : p = i
    · rw [if_pos e, if_neg (by rw [rowC_len]; omega)]
    · rw [if_neg e]
set_option maxRecDepth 100000 in
theorem rowC_next (l : List Int) (s : Int) : rowC l s (placesZ l s).length = rowC l (s + 1) 0 := by
  unfold rowC
  apply List.map_congr_left
  intro i _
  congr 1
  unfold cN
  rw [List.take_length, List.take_zero, if_neg (by simp : ¬ (i : Int) ∈ ([] : List Int))]
  simp only [places_mem]
  unfold loN
  cases h : l[i]? with
  | none => simp
  | some y =>
    simp only [Option.some.injEq]
    by_cases h1 : y < s
    · rw [if_pos h1, if_neg (by omega), if_pos (by omega)]
    · rw [if_neg h1]
      by_cases h2 : y = s
      · rw [if_pos h2, if_pos (by omega)]
      · rw [if_neg h2, if_neg (by omega)]
set_option maxRecDepth 100000 in
theorem rowC_zero {l : List Int} (h : ∀ z ∈ l, 0 ≤ z ∧ z < 64) : rowC l 0 0 = List.replicate 16 0 := by
  have e : ∀ i, cN l 0 0 i = 0 := fun i => by
    unfold cN loN
    rw [List.take_zero, if_neg (by simp)]
    cases hi : l[i]? with
    | none => rfl
    | some y =>
      have := h y (List.mem_of_getElem? hi)
      simp only
      rw [if_neg (by omega)]
  unfold rowC
  simp only [e]
  rfl
set_option maxRecDepth 100000 in
theorem cN_end {l : List Int} {n : Int} (h : ∀ z ∈ l, z < n) (i : Nat) : cN l n 0 i = if i < l.length then 1 else 0 := by
  unfold cN loN
  rw [List.take_zero, if_neg (by simp)]
  by_cases hi : i < l.length
  · rw [List.getElem?_eq_getElem hi, if_pos hi]
    simp only
    rw [if_pos (h _ (List.getElem_mem hi))]
  · rw [List.getElem?_eq_none (by omega), if_neg hi]
set_option maxRecDepth 100000 in
theorem sp_lt {t : Ptx} {m : Nat} : (∀ z ∈ spI t (m : Int), z < (m : Int)) ∧ ∀ z ∈ spO t (m : Int), z < (m : Int) := by
  cases h : okT t (m : Int)
  · obtain ⟨e1, e2⟩ := sp_no h
    rw [e1, e2]; simp
  · obtain ⟨e1, e2⟩ := sp_yes h
    rw [e1, e2]
    have hin : inN (m : Int) = true := by unfold okT at h; rw [Bool.and_eq_true] at h; exact h.1
    have hm := of_decide_eq_true hin
    unfold insZ outsZ
    have hlt : ∀ (d : List B8) (x : Int), (shO d x (m : Int) : Int) < (m : Int) := fun d x => by
      cases hb : inO x (m : Int)
      · rw [shO_no hb]; omega
      · have := shO_lt (d := d) hb; omega
    constructor
    · intro z hz
      obtain ⟨p, _, rfl⟩ := List.mem_map.1 hz
      exact hlt _ _
    · intro z hz
      obtain ⟨i, _, rfl⟩ := List.mem_map.1 hz
      exact hlt _ _
set_option maxRecDepth 100000 in
theorem has_places (l : List Int) (s : Int) : hasB (gathZ l) s = decide (0 < (placesZ l s).length) := by
  rw [placesZ_pos]
  unfold hasB
  exact decide_eq_decide.2 ((gathZ_up l).2 s)
def Z16 : Array Value := (i64s (List.replicate 16 0)).toArray
set_option maxRecDepth 100000 in
theorem own16 {w : World} (B : Nat) (hB : B ≤ w.heap.size) : (w.alloc (.cells Z16 47)).ownsRow B 47 1 (.slice (some ⟨w.heap.size, 0, none⟩) 16 16) 16 (i64s (List.replicate 16 0)) :=
  own_new w B 47 (i64s (List.replicate 16 0)) 16 rfl hB (by unfold maxLen; omega)
set_option maxRecDepth 100000 in
theorem i64s_set (l : List Int) (p : Nat) (x : Int) : i64s (l.set p x) = (i64s l).set p (.int .i64 x) := by unfold i64s; rw [List.map_set]
set_option maxRecDepth 100000 in
set_option maxHeartbeats 16000000 in
theorem mappingOnce_walk (Ai : Option Addr) (ci : Nat) (Ao : Option Addr) (co : Nat) (t : Ptx) (a : Nat) (w : World) (h : TxAt w w.heap.size Ai ci Ao co t) (ha : a < 256) (hG : Glob w) :
    Calls Tryd.prog 5 #[txV Ai ci Ao co t, .int .u8 (a : Int)] w fun e w' => e = .returned (.bool true) ∧ Below w.heap.size w w' := by
  obtain ⟨w0, hw0⟩ : ∃ w0, w0 = w.alloc (.cells (txCells Ai ci Ao co t).toArray 35) := ⟨_, rfl⟩
  obtain ⟨hbx, hb0⟩ := Box.new hw0 h (Nat.le_refl _) hG
  have B0 := Lib.hid hbx
  have FIN := Lib.hid (fun (w' : World) (k : Stp w0 w') => show Below w.heap.size w w' from hb0.trans (Below.mono k hb0.size))
  obtain ⟨c0, c1, c2, c3⟩ := hbx.row
  have AW := Lib.hid awake_any
  have K0 := Lib.hid ((rcheck_any Ai Ao ci co w.heap.size t w0 B0.out.at_).mono (fun _ _ ⟨h1, h2⟩ => And.intro h1 (show Below w0.heap.size w0 _ from turn_stp h2)))
  have HST := Lib.hid (fun (x y : World) (hx : Box w0 w.heap.size w.heap.size Ai Ao ci co t x) (k : Below x.heap.size x y) => hx.step k)
  by_cases hc : chk t = 0
  · rw [hc] at K0
    obtain ⟨n, hn⟩ : ∃ n : Int, n = 1 + (a : Int) % 64 := ⟨_, rfl⟩
    have hin : inN n = true := decide_eq_true (by omega)
    obtain ⟨m, rfl⟩ : ∃ m : Nat, n = (m : Int) := ⟨n.toNat, by omega⟩
    have hm64 : m ≤ 64 := by omega
    obtain ⟨la, lb, -, -⟩ := sp_ne hc hin
    have AT := Lib.hid (fun (s : Int) (w' : World) (k : Box w0 w.heap.size w.heap.size Ai Ao ci co t w') => at_any Ai Ao ci co w.heap.size t (m : Int) s w' k.at_ k.size k.glob)
    have IN := Lib.hid (fun (w' : World) (k : Box w0 w.heap.size w.heap.size Ai Ao ci co t w') => ins_any Ai Ao ci co w.heap.size t (m : Int) w' k.at_ k.size k.glob)
    have OU := Lib.hid (fun (w' : World) (k : Box w0 w.heap.size w.heap.size Ai Ao ci co t w') => outs_any Ai Ao ci co w.heap.size t (m : Int) w' k.at_ k.size k.glob)
    have HSL := sp_len t (m : Int)
    have h64 := sp_64 t (m : Int)
    have hlt := sp_lt (t := t) (m := m)
    have RZ := Lib.hid (And.intro (rowC_zero h64.1) (rowC_zero h64.2))
    have RE := Lib.hid (And.intro (fun i => cN_end hlt.1 i) (fun i => cN_end hlt.2 i))
    rw [la, lb] at RE
    have HGI := Lib.hid (show (gathZ (spI t (m : Int))).length ≤ 16 from Nat.le_trans (gathZ_len _) HSL.1)
    have HGO := Lib.hid (show (gathZ (spO t (m : Int))).length ≤ 16 from Nat.le_trans (gathZ_len _) HSL.2)
    have HLI := Lib.hid HSL.1
    have HLO := Lib.hid HSL.2
    have HTI : t.ins.length ≤ 16 := by rw [← la]; exact HSL.1
    have HTO : t.outs.length ≤ 16 := by rw [← lb]; exact HSL.2
    unfold txV at K0 AT IN OU ⊢
    clear h hbx hb0 hG hc hin la lb HSL h64 hlt
    generalize spI t (m : Int) = li at *
    generalize spO t (m : Int) = lo at *
    have HHI := Lib.hid (fun s => has_places li s)
    have HHO := Lib.hid (fun s => has_places lo s)
    have HAS := Lib.hid (fun (A : Option Addr) (c n : Nat) (l : List Int) (s : Int) (w : World) (hs : Sl w w.heap.size A (i64s l)) (hn : l.length = n) (hm : n ≤ 1000) => has_any A c w.heap.size n l s w hs (Nat.le_refl _) hn hm)
    obtain ⟨gi, hgi⟩ : ∃ gi, gathZ li = gi := ⟨_, rfl⟩
    obtain ⟨go, hgo⟩ : ∃ go, gathZ lo = go := ⟨_, rfl⟩
    rw [hgi] at HHI HGI IN
    rw [hgo] at HHO HGO OU
    clear hgi hgo
    go_enter Tryd.func5, Tryd.ntmps5
    go_upto_region 1 with fail
    change Code.wp _ _ _ _ (w.alloc (.cells (txCells Ai ci Ao co t).toArray 35))
    rw [← hw0]
    clear hw0
    go_wp2_with (go_at_call 19; refine stop ?_)
    unfold Stop
    refine K0.out.mono ?_
    rintro e w1 ⟨rfl, hb1⟩
    have B1 := Lib.hid (HST.out _ _ B0.out hb1)
    clear hb1 c0 c1 c2 c3 K0
    go_upto_region 4 with fail
    rw [← hn]
    clear hn ha
    obtain ⟨w2, hw2⟩ : ∃ w2, w2 = w1.alloc (.cells Z16 47) := ⟨_, rfl⟩
    obtain ⟨w3, hw3⟩ : ∃ w3, w3 = w2.alloc (.cells Z16 47) := ⟨_, rfl⟩
    have hb12 : Below w1.heap.size w1 w2 := by rw [hw2]; exact (Below.refl _ _).alloc (Nat.le_refl _) _
    have hb23 : Below w2.heap.size w2 w3 := by rw [hw3]; exact (Below.refl _ _).alloc (Nat.le_refl _) _
    have o6 : w3.ownsRow w1.heap.size 47 1 (.slice (some ⟨w1.heap.size, 0, none⟩) 16 16) 16 (i64s (rowC li 0 0)) := own_below (by rw [hw2, RZ.out.1]; exact own16 _ (Nat.le_refl _)) hb23
    have o7 : w3.ownsRow w1.heap.size 47 1 (.slice (some ⟨w2.heap.size, 0, none⟩) 16 16) 16 (i64s (rowC lo 0 0)) := by rw [hw3, RZ.out.2]; exact own16 _ hb12.size
    have hs12 : w2.heap.size = w1.heap.size + 1 := by rw [hw2]; simp
    have hs23 : w3.heap.size = w1.heap.size + 2 := by rw [hw3]; simp [hs12]
    have O6 := Lib.hid o6
    rw [hs12] at o7
    have O7 := Lib.hid o7
    have HB3 := Lib.hid (hb12.trans (hb23.mono hb12.size))
    go_upto_region 6 with fail
    change Code.wp _ _ _ _ ((w1.alloc (.cells Z16 47)).alloc (.cells Z16 47))
    rw [← hw2, ← hw3]
    clear hw2 hw3 hb12 hb23 o6 o7 RZ
    obtain ⟨g6, hg6⟩ : ∃ g6, g6 = w1.heap.size := ⟨_, rfl⟩
    obtain ⟨g7, hg7⟩ : ∃ g7, g7 = w1.heap.size + 1 := ⟨_, rfl⟩
    have h67 : g6 ≠ g7 := by omega
    have h7e := Lib.hid (show g7 = g6 + 1 by omega)
    have h6K : g6 < w3.heap.size := by omega
    have h7K : g7 < w3.heap.size := by omega
    rw [← hg7] at O7 ⊢
    rw [← hg6] at O6 O7 HB3 ⊢
    have HK := Lib.hid (show ∀ y, Below g6 w1 y → Box w0 w.heap.size w.heap.size Ai Ao ci co t y from fun y k => HST.out _ _ B1.out (by rw [← hg6]; exact k))
    have HK6 : w3.heap.size = g6 + 2 := by omega
    clear hg6 hg7 hs12 hs23 B0 B1
    go_loopw [8] (fun i wr => ∃ s : Nat, s ≤ m ∧ i = .int .i64 s ∧ Below g6 w1 wr ∧ g6 + 2 ≤ wr.heap.size ∧ wr.ownsRow g6 47 1 (.slice (some ⟨g6, 0, none⟩) 16 16) 16 (i64s (rowC li s 0)) ∧ wr.ownsRow g6 47 1 (.slice (some ⟨g7, 0, none⟩) 16 16) 16 (i64s (rowC lo s 0))) (fun i _ => m - (intOf i).toNat)
    case atStart => exact ⟨0, Nat.zero_le _, rfl, HB3.out, by omega, O6.out, O7.out⟩
    case round =>
      clear O6 O7 HB3 h6K h7K HK6
      obtain ⟨s, hsm, rfl, hb, hsz, ho6, ho7⟩ := hrel
      have H4 := Lib.hid hb
      have Q6 := Lib.hid ho6
      have Q7 := Lib.hid ho7
      obtain ⟨w4, hw4⟩ : ∃ w4, w4 = wr := ⟨_, rfl⟩
      rw [← hw4] at H4 Q6 Q7 hsz ⊢
      clear hb ho6 ho7 hw4
      by_cases hlt : s < m
      · go_upto_region 8 with fail
        obtain ⟨c0, c1, c2, c3⟩ := (HK.out _ H4.out).row
        go_wp2_with (go_at_call 14; refine stop ?_)
        unfold Stop
        refine (AT.out (s : Int) w4 (HK.out _ H4.out)).mono ?_
        rintro e w5 ⟨x, y, rfl, hx, hy, hb5⟩
        obtain ⟨AX, kx, rfl, sx, -, hkx, hax⟩ := own_sl hx
        obtain ⟨AY, ky, rfl, sy, -, hky, hay⟩ := own_sl hy
        have hbg5 : Below g6 w1 w5 := H4.out.trans (hb5.mono (by omega))
        have H5 := Lib.hid hbg5
        have P6 := Lib.hid (own_below Q6.out hb5)
        have P7 := Lib.hid (own_below Q7.out hb5)
        have HX := Lib.hid hx
        have HY := Lib.hid hy
        have hs45 := hb5.size
        have HI5 := Lib.hid (HHI.out (s : Int))
        have HO5 := Lib.hid (HHO.out (s : Int))
        have NX := Lib.hid (rowC_next li (s : Int))
        have NY := Lib.hid (rowC_next lo (s : Int))
        have hpx := Lib.hid (Nat.le_trans (placesZ_len li (s : Int)) HLI.out)
        have hpy := Lib.hid (Nat.le_trans (placesZ_len lo (s : Int)) HLO.out)
        have SX := Lib.hid (fun (j p : Nat) (h : (placesZ li (s : Int))[j]? = some (p : Int)) => rowC_step h)
        have SY := Lib.hid (fun (j p : Nat) (h : (placesZ lo (s : Int))[j]? = some (p : Int)) => rowC_step h)
        have PXA := Lib.hid (fun (j : Nat) (y : Int) (h : (placesZ li (s : Int))[j]? = some y) => places_at h)
        have PYA := Lib.hid (fun (j : Nat) (y : Int) (h : (placesZ lo (s : Int))[j]? = some y) => places_at h)
        obtain ⟨px, hpxe⟩ : ∃ px, placesZ li (s : Int) = px := ⟨_, rfl⟩
        obtain ⟨py, hpye⟩ : ∃ py, placesZ lo (s : Int) = py := ⟨_, rfl⟩
        rw [hpxe] at HX HI5 NX hpx SX PXA hkx ⊢
        rw [hpye] at HY HO5 NY hpy SY PYA hky ⊢
        obtain ⟨nx, hnx⟩ : ∃ nx, px.length = nx := ⟨_, rfl⟩
        obtain ⟨ny, hny⟩ : ∃ ny, py.length = ny := ⟨_, rfl⟩
        have HNX := Lib.hid hnx
        have HNY := Lib.hid hny
        rw [hnx] at HX HI5 NX hpx hkx ⊢
        rw [hny] at HY HO5 NY hpy hky ⊢
        obtain ⟨ba, hba⟩ : ∃ ba, decide (0 < nx) = ba := ⟨_, rfl⟩
        obtain ⟨bb, hbb⟩ : ∃ bb, decide (0 < ny) = bb := ⟨_, rfl⟩
        have hba' : decide (nx > 0) = ba := hba
        have hbb' : decide (ny > 0) = bb := hbb
        have hba2 : decide ((nx : Int) > 0) = ba := by rw [← hba]; exact decide_eq_decide.2 (by omega)
        have hbb2 : decide ((ny : Int) > 0) = bb := by rw [← hbb]; exact decide_eq_decide.2 (by omega)
        have hba3 : decide ((0 : Int) < (nx : Int)) = ba := hba2
        have hbb3 : decide ((0 : Int) < (ny : Int)) = bb := hbb2
        rw [hba] at HI5
        rw [hbb] at HO5
        have hnx16 := hpx.out
        have hny16 := hpy.out
        clear hb5 hx hy sx sy hbg5 hpxe hpye hnx hny c0 c1 c2 c3 H4 Q6 Q7 hpx hpy
        go_upto_region 9 with fail
        obtain ⟨c0, c1, c2, c3⟩ := (HK.out _ H5.out).row
        go_wp2_with (go_at_call 16; refine stop ?_)
        unfold Stop
        refine (IN.out w5 (HK.out _ H5.out)).mono ?_
        rintro e w6 ⟨u1, rfl, ho, hb6⟩
        obtain ⟨AI, kI, rfl, sI, -, hkI, haI⟩ := own_sl ho
        have H6 := Lib.hid (H5.out.trans (hb6.mono (by omega)))
        have A6 := Lib.hid (HAS.out AI kI _ gi (s : Int) w6 sI rfl (by have := HGI.out; omega))
        rw [HI5.out] at A6
        have hs56 := hb6.size
        have P6 := Lib.hid (own_below P6.out hb6)
        have P7 := Lib.hid (own_below P7.out hb6)
        have HX := Lib.hid (own_below HX.out hb6)
        have HY := Lib.hid (own_below HY.out hb6)
        clear hb6 ho sI c0 c1 c2 c3
        go_wp2_with (go_at_call 20; refine stop ?_)
        unfold Stop
        refine A6.out.mono ?_
        rintro e w7 ⟨rfl, hb7⟩
        have H7 := Lib.hid (H6.out.trans (hb7.mono (by omega)))
        have hs67 := hb7.size
        have P6 := Lib.hid (own_below P6.out hb7)
        have P7 := Lib.hid (own_below P7.out hb7)
        have HX := Lib.hid (own_below HX.out hb7)
        have HY := Lib.hid (own_below HY.out hb7)
        clear hb7 A6
        obtain ⟨c0, c1, c2, c3⟩ := (HK.out _ H7.out).row
        go_wp2_with (go_at_call 17; refine stop ?_)
        unfold Stop
        refine (OU.out w7 (HK.out _ H7.out)).mono ?_
        rintro e w8 ⟨u2, rfl, ho, hb8⟩
        obtain ⟨AU, kU, rfl, sU, -, hkU, haU⟩ := own_sl ho
        have H8 := Lib.hid (H7.out.trans (hb8.mono (by omega)))
        have A8 := Lib.hid (HAS.out AU kU _ go (s : Int) w8 sU rfl (by have := HGO.out; omega))
        rw [HO5.out] at A8
        have hs78 := hb8.size
        have P6 := Lib.hid (own_below P6.out hb8)
        have P7 := Lib.hid (own_below P7.out hb8)
        have HX := Lib.hid (own_below HX.out hb8)
        have HY := Lib.hid (own_below HY.out hb8)
        clear hb8 ho sU c0 c1 c2 c3
        go_wp2_with (go_at_call 20; refine stop ?_)
        unfold Stop
        refine A8.out.mono ?_
        rintro e w9 ⟨rfl, hb9⟩
        have H9 := Lib.hid (H8.out.trans (hb9.mono (by omega)))
        have hs89 := hb9.size
        have P6 := Lib.hid (own_below P6.out hb9)
        have P7 := Lib.hid (own_below P7.out hb9)
        have HX := Lib.hid (own_below HX.out hb9)
        have HY := Lib.hid (own_below HY.out hb9)
        clear hb9 A8 H5 H6 H7 H8
        have hs59 : g6 + 2 ≤ w9.heap.size := by omega
        have hs49 : w4.heap.size ≤ w9.heap.size := by omega
        clear hs45 hs56 hs67 hs78 hs89
        go_upto_region 12 with fail
        have HLI2 := HLI
        have HLO2 := HLO
        go_loopw [11] (fun i wr => ∃ j : Nat, j ≤ nx ∧ i = .int .i64 j ∧ Turn (fun z => z = g6) w9 wr ∧ wr.ownsRow g6 47 1 (.slice (some ⟨g6, 0, none⟩) 16 16) 16 (i64s (rowC li (s : Int) j))) (fun i _ => nx - (intOf i).toNat)
        case atStart => exact ⟨0, Nat.zero_le _, rfl, Turn.refl _ _, P6.out⟩
        case round =>
          obtain ⟨j, hj, rfl, ht, hoj⟩ := hrel
          have HT2 := Lib.hid ht
          have HOJ2 := Lib.hid hoj
          obtain ⟨w10, hwn⟩ : ∃ w10, w10 = wr := ⟨_, rfl⟩
          rw [← hwn] at HT2 HOJ2 ⊢
          clear ht hoj hwn
          by_cases hjn : j < nx
          · obtain ⟨y, hy⟩ : ∃ y, px[j]? = some y := ⟨_, List.getElem?_eq_getElem (by rw [HNX.out]; exact hjn)⟩
            obtain ⟨p, rfl, hpl⟩ := PXA.out j y hy
            have hp16 : p < 16 := by have := HLI2.out; omega
            have hox := HT2.out.own HX.out (fun z hz e => by have e1 : z = g6 := e; have := h7e.out; have := (HX.out.lt z hz).1; omega)
            obtain ⟨gx, cx, ex, hg1, hg2⟩ := hox.form (by omega)
            injection ex with ex1 ex2 ex3
            subst ex1
            have hcx : w10.cell? ⟨gx, j, none⟩ = some (.int .i64 (p : Int)) := by
              have e : (i64s px)[j]? = some (.int .i64 (p : Int)) := i64s_at hy
              rw [hox.cellAt j (by omega), e]
            obtain ⟨c, hcdef⟩ : ∃ c, c = cN li (s : Int) j p := ⟨_, rfl⟩
            have hc2 : c ≤ 2 := by rw [hcdef]; exact cN_le _ _ _ _
            have hc6 : w10.cell? ⟨g6, p, none⟩ = some (.int .i64 (c : Int)) := by
              have e : (i64s (rowC li (s : Int) j))[p]? = some (.int .i64 (c : Int)) := by rw [hcdef]; exact i64s_at (rowC_at hp16)
              rw [HOJ2.out.cellAt p (by omega), e]
            have hz6 := HOJ2.out.frozenAt p
            have HST2 := Lib.hid (show (rowC li (s : Int) j).set p ((c : Int) + 1) = rowC li (s : Int) (j + 1) by rw [hcdef]; exact SX.out j p hy)
            have hp0 : (0 : Int) ≤ (p : Int) := by omega
            have hp9 : (p : Int) < 16 := by omega
            have hj0 : (0 : Int) ≤ (j : Int) := by omega
            have hjn9 : (j : Int) < (nx : Int) := by omega
            clear hcdef hy hox hg1 hg2 hpl
            go_upto_region 14 with fail
            go_still_tail 12, (by kernel_rfl)
            change wpList _ _ _ _ _ w10.drew
            go_wp2_with fail
            go_roundw
            case rel =>
              refine ⟨j + 1, by omega, by go_num, ?_, ?_⟩
              · have h := HT2.out.setCell ⟨g6, p, none⟩ (.int .i64 ((c : Int) + 1)) (fun _ => rfl)
                exact ⟨h.os, h.tape, h.output, h.size, h.block⟩
              · have h := HOJ2.out.stored p (.int .i64 ((c : Int) + 1))
                rw [← HST2.out, i64s_set]
                exact h.1
            case measure => simp [intOf]; omega
          · have hj' : j = nx := by omega
            subst hj'
            have R2 := Lib.hid (show w10.ownsRow g6 47 1 (.slice (some ⟨g6, 0, none⟩) 16 16) 16 (i64s (rowC li ((s : Int) + 1) 0)) by rw [← NX.out]; exact HOJ2.out)
            clear HOJ2 hjn
            have P7' := Lib.hid (HT2.out.own P7.out (fun z hz e => h67 (by have e1 : z = g6 := e; have := Option.some.inj (show some g7 = some z from hz); omega)))
            have HY' := Lib.hid (HT2.out.own HY.out (fun z hz e => by have e1 : z = g6 := e; have := (HY.out.lt z hz).1; omega))
            have hs910 := HT2.out.size
            clear P7 HY HX
            go_upto_region 16 with fail
            go_loopw [12] (fun i wr => ∃ j : Nat, j ≤ ny ∧ i = .int .i64 j ∧ Turn (fun z => z = g7) w10 wr ∧ wr.ownsRow g6 47 1 (.slice (some ⟨g7, 0, none⟩) 16 16) 16 (i64s (rowC lo (s : Int) j))) (fun i _ => ny - (intOf i).toNat)
            case atStart => exact ⟨0, Nat.zero_le _, rfl, Turn.refl _ _, P7'.out⟩
            case round =>
              obtain ⟨j, hj, rfl, ht, hoj⟩ := hrel
              have HT3 := Lib.hid ht
              have HOJ3 := Lib.hid hoj
              obtain ⟨w11, hwn⟩ : ∃ w11, w11 = wr := ⟨_, rfl⟩
              rw [← hwn] at HT3 HOJ3 ⊢
              clear ht hoj hwn
              by_cases hjn : j < ny
              · obtain ⟨y, hy⟩ : ∃ y, py[j]? = some y := ⟨_, List.getElem?_eq_getElem (by rw [HNY.out]; exact hjn)⟩
                obtain ⟨p, rfl, hpl⟩ := PYA.out j y hy
                have hp16 : p < 16 := by have := HLO2.out; omega
                have hox := HT3.out.own HY'.out (fun z hz e => by have e1 : z = g7 := e; have := h7e.out; have := (HY'.out.lt z hz).1; omega)
                obtain ⟨gx, cx, ex, hg1, hg2⟩ := hox.form (by omega)
                injection ex with ex1 ex2 ex3
                subst ex1
                have hcx : w11.cell? ⟨gx, j, none⟩ = some (.int .i64 (p : Int)) := by
                  have e : (i64s py)[j]? = some (.int .i64 (p : Int)) := i64s_at hy
                  rw [hox.cellAt j (by omega), e]
                obtain ⟨c, hcdef⟩ : ∃ c, c = cN lo (s : Int) j p := ⟨_, rfl⟩
                have hc2 : c ≤ 2 := by rw [hcdef]; exact cN_le _ _ _ _
                have hc6 : w11.cell? ⟨g7, p, none⟩ = some (.int .i64 (c : Int)) := by
                  have e : (i64s (rowC lo (s : Int) j))[p]? = some (.int .i64 (c : Int)) := by rw [hcdef]; exact i64s_at (rowC_at hp16)
                  rw [HOJ3.out.cellAt p (by omega), e]
                have hz6 := HOJ3.out.frozenAt p
                have HST2 := Lib.hid (show (rowC lo (s : Int) j).set p ((c : Int) + 1) = rowC lo (s : Int) (j + 1) by rw [hcdef]; exact SY.out j p hy)
                have hp0 : (0 : Int) ≤ (p : Int) := by omega
                have hp9 : (p : Int) < 16 := by omega
                have hj0 : (0 : Int) ≤ (j : Int) := by omega
                have hjn9 : (j : Int) < (ny : Int) := by omega
                clear hcdef hy hox hg1 hg2 hpl
                go_upto_region 18 with fail
                go_still_tail 12, (by kernel_rfl)
                change wpList _ _ _ _ _ w11.drew
                go_wp2_with fail
                go_roundw
                case rel =>
                  refine ⟨j + 1, by omega, by go_num, ?_, ?_⟩
                  · have h := HT3.out.setCell ⟨g7, p, none⟩ (.int .i64 ((c : Int) + 1)) (fun _ => rfl)
                    exact ⟨h.os, h.tape, h.output, h.size, h.block⟩
                  · have h := HOJ3.out.stored p (.int .i64 ((c : Int) + 1))
                    rw [← HST2.out, i64s_set]
                    exact h.1
                case measure => simp [intOf]; omega
              · have hj' : j = ny := by omega
                subst hj'
                have R3 := Lib.hid (show w11.ownsRow g6 47 1 (.slice (some ⟨g7, 0, none⟩) 16 16) 16 (i64s (rowC lo ((s : Int) + 1) 0)) by rw [← NY.out]; exact HOJ3.out)
                clear HOJ3 hjn
                have H11 := Lib.hid (show Below g6 w1 w11 from (H9.out.trans ((HT2.out.below (fun i _ e => by have e1 : i = g6 := e; omega) (by omega)).mono (Nat.le_refl _))).trans (HT3.out.below (fun i _ e => by have e1 : i = g7 := e; have := h7e.out; omega) (by have := HT2.out.size; omega)))
                have Q6' := Lib.hid (HT3.out.own R2.out (fun z hz e => h67 (by have e1 : z = g7 := e; have := Option.some.inj (show some g6 = some z from hz); omega)))
                have hsz11 : g6 + 2 ≤ w11.heap.size := by have := HT2.out.size; have := HT3.out.size; omega
                go_wp2_with fail
                go_roundw
                case rel => exact ⟨s + 1, by omega, by go_num, H11.out, hsz11, by push_cast; exact Q6'.out, by push_cast; exact R3.out⟩
                case measure => simp [intOf]; omega
      · have hsm' : s = m := by omega
        subst hsm'
        clear hlt hsm
        go_upto_region 20 with fail
        obtain ⟨c0, c1, c2, c3⟩ := (HK.out _ H4.out).row
        go_loop [13] (fun i => ∃ k : Nat, k ≤ 16 ∧ i = .int .i64 k) (fun i => 16 - (intOf i).toNat)
        case atStart => exact ⟨0, Nat.zero_le _, rfl⟩
        case round =>
          obtain ⟨k, hk, rfl⟩ := hrel
          by_cases hlt : k < 16
          · have e6 : (i64s (rowC li (s : Int) 0))[k]? = some (.int .i64 (cN li (s : Int) 0 k : Int)) := i64s_at (rowC_at hlt)
            have e7 : (i64s (rowC lo (s : Int) 0))[k]? = some (.int .i64 (cN lo (s : Int) 0 k : Int)) := i64s_at (rowC_at hlt)
            rw [RE.out.1 k] at e6
            rw [RE.out.2 k] at e7
            have x6 : w4.cell? ⟨g6, k, none⟩ = some (.int .i64 ((if k < t.ins.length then 1 else 0 : Nat) : Int)) := by rw [Q6.out.cellAt k (by omega), e6]
            have x7 : w4.cell? ⟨g7, k, none⟩ = some (.int .i64 ((if k < t.outs.length then 1 else 0 : Nat) : Int)) := by rw [Q7.out.cellAt k (by omega), e7]
            clear e6 e7
            by_cases hi : k < t.ins.length
            · rw [if_pos hi] at x6
              by_cases hj : k < t.outs.length
              · rw [if_pos hj] at x7
                go_wp2
                go_round
                case rel => exact ⟨k + 1, by omega, by go_num⟩
                case measure => simp [intOf]; omega
              · rw [if_neg hj] at x7
                go_wp2
                go_round
                case rel => exact ⟨k + 1, by omega, by go_num⟩
                case measure => simp [intOf]; omega
            · rw [if_neg hi] at x6
              by_cases hj : k < t.outs.length
              · rw [if_pos hj] at x7
                go_wp2
                go_round
                case rel => exact ⟨k + 1, by omega, by go_num⟩
                case measure => simp [intOf]; omega
              · rw [if_neg hj] at x7
                go_wp2
                go_round
                case rel => exact ⟨k + 1, by omega, by go_num⟩
                case measure => simp [intOf]; omega
          · have hk16 : k = 16 := by omega
            subst hk16
            clear hlt hk c0 c1 c2 c3
            go_wp2_with (go_at_call 9; refine stop ?_)
            unfold Stop
            refine (AW.out w4 (HK.out _ H4.out).glob).mono ?_
            rintro e wz ⟨rfl, hbz⟩
            have HZ := Lib.hid (FIN.out _ ((HK.out _ H4.out).step hbz).stp)
            clear hbz
            go_wp2
            go_ret
            exact ⟨rfl, HZ.out⟩
  · have hz1 : ((chk t : Int) != 0) = true := by simp; omega
    unfold txV at K0 ⊢
    generalize chk t = z at *
    go_enter Tryd.func5, Tryd.ntmps5
    go_upto_region 1 with fail
    change Code.wp _ _ _ _ (w.alloc (.cells (txCells Ai ci Ao co t).toArray 35))
    rw [← hw0]
    clear hw0
    go_wp2_with (go_at_call 19; refine stop ?_)
    unfold Stop
    refine K0.out.mono ?_
    rintro e w1 ⟨rfl, hb1⟩
    have B1 := Lib.hid (HST.out _ _ B0.out hb1)
    clear hb1 c0 c1 c2 c3 K0
    go_wp2_with (go_at_call 9; refine stop ?_)
    unfold Stop
    refine (AW.out w1 B1.out.glob).mono ?_
    rintro e w2 ⟨rfl, hb2⟩
    have B2 := Lib.hid (HST.out _ _ B1.out hb2)
    clear hb2
    go_wp2
    go_ret
    exact ⟨rfl, FIN.out _ B2.out.stp⟩
end Go.Proofs.YtoclfohgchlpnaaDoor
