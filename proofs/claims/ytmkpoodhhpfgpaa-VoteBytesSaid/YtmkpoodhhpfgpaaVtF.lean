/- What is agreed, as the landed code tells it; and in plain words. -/
import Derived.Test.YtmkpoodhhpfgpaaVtE
import Derived.Test.YtmkpoodhhpfgpaaVtC
set_option linter.unusedVariables false
set_option linter.unusedSimpArgs false
namespace Go.Proofs.Ytmkpoodhhpfgpaa
open Go.RowKit
def agO (zs : List Int) : Bool := decide (1 ≤ zs.length ∧ zs.length ≤ 7)
def agV (zs : List Int) : Int := if agO zs = true then (srtZ zs)[zs.length - enN (zs.length : Int)]?.getD 0 else 0
def cnt (zs : List Int) (x : Int) : Nat := (zs.filter fun y => decide (x ≤ y)).length
theorem cnt_perm {a b : List Int} (h : a.Perm b) (x : Int) : cnt a x = cnt b x := (h.filter _).length_eq
theorem srtZ_perm (zs : List Int) : (srtZ zs).Perm zs := List.mergeSort_perm _ _
theorem srtZ_sorted (zs : List Int) : (srtZ zs).Pairwise (fun x y => x ≤ y) := by
  have := List.pairwise_mergeSort (le := fun x y : Int => decide (x ≤ y)) (fun a b c h1 h2 => by simp only [decide_eq_true_eq] at *; omega) (fun a b => by simp only [Bool.or_eq_true, decide_eq_true_eq]; omega) zs
  simpa [srtZ] using this
theorem cnt_append (a b : List Int) (x : Int) : cnt (a ++ b) x = cnt a x + cnt b x := by unfold cnt; rw [List.filter_append, List.length_append]
theorem cnt_le (a : List Int) (x : Int) : cnt a x ≤ a.length := List.length_filter_le _ _
theorem cnt_all {a : List Int} {x : Int} (h : ∀ y ∈ a, x ≤ y) : cnt a x = a.length := by
  unfold cnt
  rw [List.filter_eq_self.2 (fun y hy => decide_eq_true (h y hy))]
theorem cnt_none {a : List Int} {x : Int} (h : ∀ y ∈ a, y < x) : cnt a x = 0 := by
  unfold cnt
  rw [List.filter_eq_nil_iff.2 (fun y hy => by have := h y hy; simp; omega)]; rfl
/-- Of a sorted list the element with so many from it on: so many have it, and nobody has more whom so many have. -/
theorem sorted_ag {s : List Int} (hs : s.Pairwise (fun x y => x ≤ y)) {e : Nat} (h1 : 1 ≤ e) (h2 : e ≤ s.length) (v : Int) (hv : s[s.length - e]? = some v) : v ∈ s ∧ e ≤ cnt s v ∧ ∀ x, e ≤ cnt s x → x ≤ v := by
  have hlt : s.length - e < s.length := by omega
  have hd : s.drop (s.length - e) = v :: s.drop (s.length - e + 1) := by
    rw [List.drop_eq_getElem_cons hlt]
    rw [List.getElem?_eq_getElem hlt] at hv
    injection hv with hv
    rw [hv]
  have hsplit := List.take_append_drop (s.length - e) s
  have hp := hs
  rw [← hsplit, List.pairwise_append] at hp
  obtain ⟨p1, p2, p3⟩ := hp
  rw [hd] at p2 p3
  rw [List.pairwise_cons] at p2
  refine ⟨List.mem_of_getElem? hv, ?_, ?_⟩
  · have : cnt s v = cnt (s.take (s.length - e)) v + cnt (s.drop (s.length - e)) v := by rw [← cnt_append, hsplit]
    rw [this, cnt_all (a := s.drop (s.length - e)) (by rw [hd]; intro y hy; rcases List.mem_cons.1 hy with rfl | hy; exact Int.le_refl _; exact p2.1 y hy), List.length_drop]
    omega
  · intro x hx
    by_cases hlt2 : x ≤ v
    · exact hlt2
    · exfalso
      have : cnt s x = cnt (s.take (s.length - e)) x + cnt (s.drop (s.length - e)) x := by rw [← cnt_append, hsplit]
      rw [cnt_none (a := s.take (s.length - e)) (fun y hy => by have := p3 y hy v List.mem_cons_self; omega), hd] at this
      have e2 : cnt (v :: s.drop (s.length - e + 1)) x = cnt (s.drop (s.length - e + 1)) x := by
        unfold cnt
        rw [List.filter_cons_of_neg (by simp; omega)]
      have := cnt_le (s.drop (s.length - e + 1)) x
      rw [List.length_drop] at this
      omega
theorem enN_mid (n : Nat) (h : 1 ≤ n ∧ n ≤ 7) : enN (n : Int) = n / 2 + 1 := by unfold enN; rw [if_neg (by omega)]; simp
/-- What is agreed: enough have it, and of nothing greater there are enough. -/
theorem ag_spec (zs : List Int) (h : agO zs = true) : agV zs ∈ zs ∧ enN (zs.length : Int) ≤ cnt zs (agV zs) ∧ ∀ x, enN (zs.length : Int) ≤ cnt zs x → x ≤ agV zs := by
  have hn : 1 ≤ zs.length ∧ zs.length ≤ 7 := of_decide_eq_true h
  have he := enN_mid _ hn
  have hl := srtZ_len zs
  have hlt : (srtZ zs).length - enN (zs.length : Int) < (srtZ zs).length := by omega
  have hv : (srtZ zs)[(srtZ zs).length - enN (zs.length : Int)]? = some (agV zs) := by
    unfold agV
    rw [if_pos h, hl]
    rw [hl] at hlt
    rw [List.getElem?_eq_getElem (by omega)]; rfl
  obtain ⟨a, b, c⟩ := sorted_ag (srtZ_sorted zs) (e := enN (zs.length : Int)) (by omega) (by omega) _ hv
  exact ⟨(srtZ_perm zs).mem_iff.1 a, by rw [← cnt_perm (srtZ_perm zs)]; exact b, fun x hx => c x (by rw [cnt_perm (srtZ_perm zs)]; exact hx)⟩
theorem ag_unique (zs : List Int) (h : agO zs = true) (v : Int) (hm : v ∈ zs) (h1 : enN (zs.length : Int) ≤ cnt zs v) (h2 : ∀ x ∈ zs, enN (zs.length : Int) ≤ cnt zs x → x ≤ v) : v = agV zs := by
  obtain ⟨a, b, c⟩ := ag_spec zs h
  have := c v h1
  have := h2 _ a b
  omega
set_option maxRecDepth 100000 in
set_option maxHeartbeats 4000000 in
theorem agreed_any (A : Option Addr) (c : Nat) (zs : List Int) (w : World) (hs : Sl w w.heap.size A (i64s zs)) (hm : zs.length ≤ maxLen) :
    Calls Try.prog 17 #[.slice A zs.length c] w fun r w' => r = .returned (.tuple #[.int .i64 (agV zs), .bool (agO zs)]) ∧ Below w.heap.size w w' := by
  unfold maxLen at hm
  have CE := Lib.hid enough_any
  by_cases h : 1 ≤ zs.length ∧ zs.length ≤ 7
  · have hO : agO zs = true := decide_eq_true h
    have hV : agV zs = (srtZ zs)[zs.length - enN (zs.length : Int)]?.getD 0 := by unfold agV; rw [if_pos hO]
    have CV := Lib.hid (fun w1 => (callsIn_wide (n := 6)).1 (vals_in Fence.wide 6 trivial rfl A zs.length c w1))
    have CS := Lib.hid (fun (w2 : World) (hb : w.heap.size < w2.heap.size) (h1 : w2.cell? ⟨w.heap.size, 0, none⟩ = some (.slice A zs.length c)) (k : Below w.heap.size w w2) => sorted_any w.heap.size c A zs (by omega) (by omega) w2 hb h1 (fun j u hu => by
      obtain ⟨ad, e, hb', hc⟩ := hs j u hu
      exact ⟨ad, e, by omega, by rw [k.cell (by rw [add_block]; omega)]; exact hc⟩))
    rw [hV, hO]
    have HLen := srtZ_len zs
    generalize srtZ zs = ss at *
    generalize zs.length = n at *
    have hx := List.getElem?_eq_getElem (l := ss) (i := n - enN (n : Int)) (by have := enN_mid n h; omega)
    generalize ss[n - enN (n : Int)]'(by have := enN_mid n h; omega) = y at hx
    rw [hx]
    have hn : n = 1 ∨ n = 2 ∨ n = 3 ∨ n = 4 ∨ n = 5 ∨ n = 6 ∨ n = 7 := by omega
    clear h hO hV hs hm HLen
    have hee : enN ((1 : Nat) : Int) = 1 ∧ enN ((2 : Nat) : Int) = 2 ∧ enN ((3 : Nat) : Int) = 2 ∧ enN ((4 : Nat) : Int) = 3 ∧ enN ((5 : Nat) : Int) = 3 ∧ enN ((6 : Nat) : Int) = 4 ∧ enN ((7 : Nat) : Int) = 4 := by decide
    obtain ⟨e1, e2, e3, e4, e5, e6, e7⟩ := hee
    rcases hn with rfl | rfl | rfl | rfl | rfl | rfl | rfl
    · rw [e1] at hx
      have HX := Lib.hid (show (i64s ss)[0]? = some (.int .i64 y) from i64s_at hx)
      have CE0 := CE.out ((1 : Nat) : Int)
      rw [e1] at CE0
      have CE1 := Lib.hid CE0
      clear CE0 hx e1 e2 e3 e4 e5 e6 e7
      go_enter Try.func17, Try.ntmps17
      go_wp2_with (first
        | (go_at_call 12; refine (CE1.out _).mono ?_; rintro r w9 ⟨rfl, hw9⟩; rw [hw9]; clear hw9 w9)
        | (go_at_call 28; refine stop ?_))
      unfold Stop
      refine (CV.out _).mono ?_
      rintro r w1 ⟨rfl, hw1⟩
      have k1 : Below w.heap.size w w1 := by rw [hw1]; exact (Below.refl _ w).alloc (Nat.le_refl _) _
      have g1 := (show w1.heap[w.heap.size]? = some (.cells #[_] _ (0, 0)) by rw [hw1]; exact heap_alloc_new _ _)
      have CS1 := Lib.hid (CS.out w1 (lt_of_block g1) (by rw [cell_of_row _ _ _ _ _ _ g1]; rfl) k1)
      have K1 := Lib.hid k1
      clear hw1 k1 g1
      go_wp2_with (go_at_call 27; refine stop ?_)
      unfold Stop
      refine CS1.out.mono ?_
      rintro r w2 ⟨v, rfl, ho, hb⟩
      obtain ⟨g2, c2, rfl⟩ := ownsRow_succ ho
      have hcell := ho.cells (g := g2) rfl _ _ HX.out
      simp [Addr.add] at hcell
      have K2 := Lib.hid (K1.out.trans (hb.mono K1.out.size))
      clear ho hb
      go_wp2
      refine bodyPost_ret (results_tmp2 rfl _ _ _) rfl ?_
      exact ⟨rfl, K2.out⟩
    · rw [e2] at hx
      have HX := Lib.hid (show (i64s ss)[0]? = some (.int .i64 y) from i64s_at hx)
      have CE0 := CE.out ((2 : Nat) : Int)
      rw [e2] at CE0
      have CE1 := Lib.hid CE0
      clear CE0 hx e1 e2 e3 e4 e5 e6 e7
      go_enter Try.func17, Try.ntmps17
      go_wp2_with (first
        | (go_at_call 12; refine (CE1.out _).mono ?_; rintro r w9 ⟨rfl, hw9⟩; rw [hw9]; clear hw9 w9)
        | (go_at_call 28; refine stop ?_))
      unfold Stop
      refine (CV.out _).mono ?_
      rintro r w1 ⟨rfl, hw1⟩
      have k1 : Below w.heap.size w w1 := by rw [hw1]; exact (Below.refl _ w).alloc (Nat.le_refl _) _
      have g1 := (show w1.heap[w.heap.size]? = some (.cells #[_] _ (0, 0)) by rw [hw1]; exact heap_alloc_new _ _)
      have CS1 := Lib.hid (CS.out w1 (lt_of_block g1) (by rw [cell_of_row _ _ _ _ _ _ g1]; rfl) k1)
      have K1 := Lib.hid k1
      clear hw1 k1 g1
      go_wp2_with (go_at_call 27; refine stop ?_)
      unfold Stop
      refine CS1.out.mono ?_
      rintro r w2 ⟨v, rfl, ho, hb⟩
      obtain ⟨g2, c2, rfl⟩ := ownsRow_succ ho
      have hcell := ho.cells (g := g2) rfl _ _ HX.out
      simp [Addr.add] at hcell
      have K2 := Lib.hid (K1.out.trans (hb.mono K1.out.size))
      clear ho hb
      go_wp2
      refine bodyPost_ret (results_tmp2 rfl _ _ _) rfl ?_
      exact ⟨rfl, K2.out⟩
    · rw [e3] at hx
      have HX := Lib.hid (show (i64s ss)[1]? = some (.int .i64 y) from i64s_at hx)
      have CE0 := CE.out ((3 : Nat) : Int)
      rw [e3] at CE0
      have CE1 := Lib.hid CE0
      clear CE0 hx e1 e2 e3 e4 e5 e6 e7
      go_enter Try.func17, Try.ntmps17
      go_wp2_with (first
        | (go_at_call 12; refine (CE1.out _).mono ?_; rintro r w9 ⟨rfl, hw9⟩; rw [hw9]; clear hw9 w9)
        | (go_at_call 28; refine stop ?_))
      unfold Stop
      refine (CV.out _).mono ?_
      rintro r w1 ⟨rfl, hw1⟩
      have k1 : Below w.heap.size w w1 := by rw [hw1]; exact (Below.refl _ w).alloc (Nat.le_refl _) _
      have g1 := (show w1.heap[w.heap.size]? = some (.cells #[_] _ (0, 0)) by rw [hw1]; exact heap_alloc_new _ _)
      have CS1 := Lib.hid (CS.out w1 (lt_of_block g1) (by rw [cell_of_row _ _ _ _ _ _ g1]; rfl) k1)
      have K1 := Lib.hid k1
      clear hw1 k1 g1
      go_wp2_with (go_at_call 27; refine stop ?_)
      unfold Stop
      refine CS1.out.mono ?_
      rintro r w2 ⟨v, rfl, ho, hb⟩
      obtain ⟨g2, c2, rfl⟩ := ownsRow_succ ho
      have hcell := ho.cells (g := g2) rfl _ _ HX.out
      simp [Addr.add] at hcell
      have K2 := Lib.hid (K1.out.trans (hb.mono K1.out.size))
      clear ho hb
      go_wp2
      refine bodyPost_ret (results_tmp2 rfl _ _ _) rfl ?_
      exact ⟨rfl, K2.out⟩
    · rw [e4] at hx
      have HX := Lib.hid (show (i64s ss)[1]? = some (.int .i64 y) from i64s_at hx)
      have CE0 := CE.out ((4 : Nat) : Int)
      rw [e4] at CE0
      have CE1 := Lib.hid CE0
      clear CE0 hx e1 e2 e3 e4 e5 e6 e7
      go_enter Try.func17, Try.ntmps17
      go_wp2_with (first
        | (go_at_call 12; refine (CE1.out _).mono ?_; rintro r w9 ⟨rfl, hw9⟩; rw [hw9]; clear hw9 w9)
        | (go_at_call 28; refine stop ?_))
      unfold Stop
      refine (CV.out _).mono ?_
      rintro r w1 ⟨rfl, hw1⟩
      have k1 : Below w.heap.size w w1 := by rw [hw1]; exact (Below.refl _ w).alloc (Nat.le_refl _) _
      have g1 := (show w1.heap[w.heap.size]? = some (.cells #[_] _ (0, 0)) by rw [hw1]; exact heap_alloc_new _ _)
      have CS1 := Lib.hid (CS.out w1 (lt_of_block g1) (by rw [cell_of_row _ _ _ _ _ _ g1]; rfl) k1)
      have K1 := Lib.hid k1
      clear hw1 k1 g1
      go_wp2_with (go_at_call 27; refine stop ?_)
      unfold Stop
      refine CS1.out.mono ?_
      rintro r w2 ⟨v, rfl, ho, hb⟩
      obtain ⟨g2, c2, rfl⟩ := ownsRow_succ ho
      have hcell := ho.cells (g := g2) rfl _ _ HX.out
      simp [Addr.add] at hcell
      have K2 := Lib.hid (K1.out.trans (hb.mono K1.out.size))
      clear ho hb
      go_wp2
      refine bodyPost_ret (results_tmp2 rfl _ _ _) rfl ?_
      exact ⟨rfl, K2.out⟩
    · rw [e5] at hx
      have HX := Lib.hid (show (i64s ss)[2]? = some (.int .i64 y) from i64s_at hx)
      have CE0 := CE.out ((5 : Nat) : Int)
      rw [e5] at CE0
      have CE1 := Lib.hid CE0
      clear CE0 hx e1 e2 e3 e4 e5 e6 e7
      go_enter Try.func17, Try.ntmps17
      go_wp2_with (first
        | (go_at_call 12; refine (CE1.out _).mono ?_; rintro r w9 ⟨rfl, hw9⟩; rw [hw9]; clear hw9 w9)
        | (go_at_call 28; refine stop ?_))
      unfold Stop
      refine (CV.out _).mono ?_
      rintro r w1 ⟨rfl, hw1⟩
      have k1 : Below w.heap.size w w1 := by rw [hw1]; exact (Below.refl _ w).alloc (Nat.le_refl _) _
      have g1 := (show w1.heap[w.heap.size]? = some (.cells #[_] _ (0, 0)) by rw [hw1]; exact heap_alloc_new _ _)
      have CS1 := Lib.hid (CS.out w1 (lt_of_block g1) (by rw [cell_of_row _ _ _ _ _ _ g1]; rfl) k1)
      have K1 := Lib.hid k1
      clear hw1 k1 g1
      go_wp2_with (go_at_call 27; refine stop ?_)
      unfold Stop
      refine CS1.out.mono ?_
      rintro r w2 ⟨v, rfl, ho, hb⟩
      obtain ⟨g2, c2, rfl⟩ := ownsRow_succ ho
      have hcell := ho.cells (g := g2) rfl _ _ HX.out
      simp [Addr.add] at hcell
      have K2 := Lib.hid (K1.out.trans (hb.mono K1.out.size))
      clear ho hb
      go_wp2
      refine bodyPost_ret (results_tmp2 rfl _ _ _) rfl ?_
      exact ⟨rfl, K2.out⟩
    · rw [e6] at hx
      have HX := Lib.hid (show (i64s ss)[2]? = some (.int .i64 y) from i64s_at hx)
      have CE0 := CE.out ((6 : Nat) : Int)
      rw [e6] at CE0
      have CE1 := Lib.hid CE0
      clear CE0 hx e1 e2 e3 e4 e5 e6 e7
      go_enter Try.func17, Try.ntmps17
      go_wp2_with (first
        | (go_at_call 12; refine (CE1.out _).mono ?_; rintro r w9 ⟨rfl, hw9⟩; rw [hw9]; clear hw9 w9)
        | (go_at_call 28; refine stop ?_))
      unfold Stop
      refine (CV.out _).mono ?_
      rintro r w1 ⟨rfl, hw1⟩
      have k1 : Below w.heap.size w w1 := by rw [hw1]; exact (Below.refl _ w).alloc (Nat.le_refl _) _
      have g1 := (show w1.heap[w.heap.size]? = some (.cells #[_] _ (0, 0)) by rw [hw1]; exact heap_alloc_new _ _)
      have CS1 := Lib.hid (CS.out w1 (lt_of_block g1) (by rw [cell_of_row _ _ _ _ _ _ g1]; rfl) k1)
      have K1 := Lib.hid k1
      clear hw1 k1 g1
      go_wp2_with (go_at_call 27; refine stop ?_)
      unfold Stop
      refine CS1.out.mono ?_
      rintro r w2 ⟨v, rfl, ho, hb⟩
      obtain ⟨g2, c2, rfl⟩ := ownsRow_succ ho
      have hcell := ho.cells (g := g2) rfl _ _ HX.out
      simp [Addr.add] at hcell
      have K2 := Lib.hid (K1.out.trans (hb.mono K1.out.size))
      clear ho hb
      go_wp2
      refine bodyPost_ret (results_tmp2 rfl _ _ _) rfl ?_
      exact ⟨rfl, K2.out⟩
    · rw [e7] at hx
      have HX := Lib.hid (show (i64s ss)[3]? = some (.int .i64 y) from i64s_at hx)
      have CE0 := CE.out ((7 : Nat) : Int)
      rw [e7] at CE0
      have CE1 := Lib.hid CE0
      clear CE0 hx e1 e2 e3 e4 e5 e6 e7
      go_enter Try.func17, Try.ntmps17
      go_wp2_with (first
        | (go_at_call 12; refine (CE1.out _).mono ?_; rintro r w9 ⟨rfl, hw9⟩; rw [hw9]; clear hw9 w9)
        | (go_at_call 28; refine stop ?_))
      unfold Stop
      refine (CV.out _).mono ?_
      rintro r w1 ⟨rfl, hw1⟩
      have k1 : Below w.heap.size w w1 := by rw [hw1]; exact (Below.refl _ w).alloc (Nat.le_refl _) _
      have g1 := (show w1.heap[w.heap.size]? = some (.cells #[_] _ (0, 0)) by rw [hw1]; exact heap_alloc_new _ _)
      have CS1 := Lib.hid (CS.out w1 (lt_of_block g1) (by rw [cell_of_row _ _ _ _ _ _ g1]; rfl) k1)
      have K1 := Lib.hid k1
      clear hw1 k1 g1
      go_wp2_with (go_at_call 27; refine stop ?_)
      unfold Stop
      refine CS1.out.mono ?_
      rintro r w2 ⟨v, rfl, ho, hb⟩
      obtain ⟨g2, c2, rfl⟩ := ownsRow_succ ho
      have hcell := ho.cells (g := g2) rfl _ _ HX.out
      simp [Addr.add] at hcell
      have K2 := Lib.hid (K1.out.trans (hb.mono K1.out.size))
      clear ho hb
      go_wp2
      refine bodyPost_ret (results_tmp2 rfl _ _ _) rfl ?_
      exact ⟨rfl, K2.out⟩
  · have hO : agO zs = false := decide_eq_false h
    have hV : agV zs = 0 := by unfold agV; rw [if_neg (by rw [hO]; decide)]
    have he : enN (zs.length : Int) = 0 := by unfold enN; rw [if_pos (by omega)]
    rw [hO, hV]
    have CE := Lib.hid (CE.out (zs.length : Int))
    rw [he] at CE
    clear hs hO hV he h
    go_enter Try.func17, Try.ntmps17
    go_wp2_with (go_at_call 12; refine (CE.out _).mono ?_; rintro r w9 ⟨rfl, hw9⟩; rw [hw9]; clear hw9 w9)
    refine bodyPost_ret (results_tmp2 rfl _ _ _) rfl ?_
    exact ⟨rfl, Below.refl _ _⟩
end Go.Proofs.Ytmkpoodhhpfgpaa
