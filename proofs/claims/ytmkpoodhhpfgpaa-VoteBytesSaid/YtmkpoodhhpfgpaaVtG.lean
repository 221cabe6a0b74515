/- What is agreed, as the document tells it by counting. -/
import Derived.Test.YtmkpoodhhpfgpaaVtF
set_option linter.unusedVariables false
set_option linter.unusedSimpArgs false
namespace Go.Proofs.Ytmkpoodhhpfgpaa
open Go.RowKit
def RI (zs : List Int) (e k : Nat) (best : Int) (fd : Bool) : Prop :=
  (fd = true → best ∈ zs ∧ e ≤ cnt zs best ∧ ∀ x ∈ zs.take k, e ≤ cnt zs x → x ≤ best) ∧ (fd = false → best = 0 ∧ ∀ x ∈ zs.take k, ¬ e ≤ cnt zs x)
theorem RI.start (zs : List Int) (e : Nat) : RI zs e 0 0 false := ⟨fun h => (nomatch h), fun _ => ⟨rfl, fun x hx => by simp at hx⟩⟩
theorem mem_take_succ {zs : List Int} {k : Nat} {y x : Int} (hy : zs[k]? = some y) (hx : x ∈ zs.take (k + 1)) : x ∈ zs.take k ∨ x = y := by
  have hk := (List.getElem?_eq_some_iff.1 hy).1
  rw [List.take_succ_eq_append_getElem hk] at hx
  rw [List.getElem?_eq_getElem hk] at hy
  injection hy with hy
  rcases List.mem_append.1 hx with h | h
  · exact .inl h
  · rw [hy] at h; exact .inr (List.mem_singleton.1 h)
theorem RI.miss {zs : List Int} {e k : Nat} {best y : Int} {fd : Bool} (h : RI zs e k best fd) (hy : zs[k]? = some y) (hc : ¬ e ≤ cnt zs y) : RI zs e (k + 1) best fd :=
  ⟨fun hf => ⟨(h.1 hf).1, (h.1 hf).2.1, fun x hx he => by
      rcases mem_take_succ hy hx with h1 | rfl
      · exact (h.1 hf).2.2 x h1 he
      · exact absurd he hc⟩,
    fun hf => ⟨(h.2 hf).1, fun x hx => by
      rcases mem_take_succ hy hx with h1 | rfl
      · exact (h.2 hf).2 x h1
      · exact hc⟩⟩
theorem RI.less {zs : List Int} {e k : Nat} {best y : Int} (h : RI zs e k best true) (hy : zs[k]? = some y) (hc : ¬ best < y) : RI zs e (k + 1) best true :=
  ⟨fun hf => ⟨(h.1 hf).1, (h.1 hf).2.1, fun x hx he => by
      rcases mem_take_succ hy hx with h1 | rfl
      · exact (h.1 hf).2.2 x h1 he
      · omega⟩,
    fun hf => by cases hf⟩
theorem RI.hit {zs : List Int} {e k : Nat} {best y : Int} {fd : Bool} (h : RI zs e k best fd) (hy : zs[k]? = some y) (hc : e ≤ cnt zs y) (hb : fd = true → best < y) : RI zs e (k + 1) y true :=
  ⟨fun _ => ⟨List.mem_of_getElem? hy, hc, fun x hx he => by
      rcases mem_take_succ hy hx with h1 | rfl
      · cases fd with
        | true => have := (h.1 rfl).2.2 x h1 he; have := hb rfl; omega
        | false => exact absurd he ((h.2 rfl).2 x h1)
      · omega⟩,
    fun hf => by cases hf⟩
theorem RI.done {zs : List Int} {best : Int} {fd : Bool} (hO : agO zs = true) (h : RI zs (enN (zs.length : Int)) zs.length best fd) : fd = true ∧ best = agV zs := by
  obtain ⟨a, b, c⟩ := ag_spec zs hO
  cases fd with
  | true =>
    obtain ⟨h1, h2, h3⟩ := h.1 rfl
    rw [List.take_length] at h3
    exact ⟨rfl, ag_unique zs hO best h1 h2 h3⟩
  | false =>
    have := (h.2 rfl).2
    rw [List.take_length] at this
    exact absurd b (this _ a)
theorem cnt_succ {zs : List Int} {m : Nat} {z : Int} (hz : zs[m]? = some z) (y : Int) : cnt (zs.take (m + 1)) y = cnt (zs.take m) y + (if y ≤ z then 1 else 0) := by
  have hk := (List.getElem?_eq_some_iff.1 hz).1
  rw [List.getElem?_eq_getElem hk] at hz
  injection hz with hz
  rw [List.take_succ_eq_append_getElem hk, cnt_append, hz]
  congr 1
  unfold cnt
  by_cases h : y ≤ z
  · rw [List.filter_cons_of_pos (by simpa using h), if_pos h]; rfl
  · rw [List.filter_cons_of_neg (by simpa using h), if_neg h]; rfl
set_option maxRecDepth 100000 in
set_option maxHeartbeats 8000000 in
theorem ragreed_any (A : Option Addr) (c : Nat) (zs : List Int) (w : World) (hs : Sl w w.heap.size A (i64s zs)) (hm : zs.length ≤ maxLen) :
    Calls Try.prog 18 #[.slice A zs.length c] w fun r w' => r = .returned (.tuple #[.int .i64 (agV zs), .bool (agO zs)]) ∧ Below w.heap.size w w' := by
  unfold maxLen at hm
  have CE0 := renough_any (zs.length : Int)
  by_cases h : 1 ≤ zs.length ∧ zs.length ≤ 7
  · have hO : agO zs = true := decide_eq_true h
    have HEM := Lib.hid (enN_mid _ h)
    have HS0 := fun (w' : World) (k : Below w.heap.size w w') (j : Nat) (y : Int) (hj : zs[j]? = some y) => show ∃ ad, A = some ad ∧ w'.cell? (ad.add j) = some (.int .i64 y) from by
      obtain ⟨ad, e1, hb, hc⟩ := hs j _ (i64s_at hj)
      exact ⟨ad, e1, by rw [k.cell (by rw [add_block]; omega)]; exact hc⟩
    obtain ⟨ad, rfl, -⟩ := HS0 w (Below.refl _ _) 0 _ (List.getElem?_eq_getElem (by omega))
    have HS := Lib.hid (fun (w' : World) (k : Below w.heap.size w w') (j : Nat) (y : Int) (hj : zs[j]? = some y) => show w'.cell? (ad.add j) = some (.int .i64 y) from by
      obtain ⟨ad', e1, hc⟩ := HS0 w' k j y hj
      injection e1 with e1
      rw [e1]; exact hc)
    have HL := Lib.hid (fun (k : Nat) (h : k < zs.length) => show zs[k]? = some (zs[k]'h) from List.getElem?_eq_getElem h)
    have HD := Lib.hid (@RI.done zs · · hO)
    have HT := Lib.hid (fun y => show cnt (zs.take zs.length) y = cnt zs y by rw [List.take_length])
    rw [hO]
    generalize agV zs = best9 at *
    obtain ⟨n, hn⟩ : ∃ n, n = zs.length := ⟨_, rfl⟩
    have HM := Lib.hid (fun (k : Nat) (h : k < n) => show ∃ y, zs[k]? = some y from ⟨_, HL.out k (by omega)⟩)
    rw [← hn] at CE0 HEM HD HT h ⊢
    generalize he : enN (n : Int) = e at *
    have hn7 : n ≤ 7 := h.2
    have he7 : 1 ≤ e ∧ e ≤ 7 := by have := HEM.out; omega
    have d0 : ((e : Int) == 0) = false := by simp; omega
    have CE := Lib.hid CE0
    have HE7 := Lib.hid he7
    clear HL CE0 HS0 hs hm hO hn he h he7
    go_enter Try.func18, Try.ntmps18
    go_wp2_with (go_at_call 13; refine (CE.out _).mono ?_; rintro r w9 ⟨rfl, hw9⟩; rw [hw9]; clear hw9 w9)
    go_loopw [4, 5, 6] (fun b f i wr => ∃ (k : Nat) (best : Int) (fd : Bool), k ≤ n ∧ b = .int .i64 best ∧ f = .bool fd ∧ i = .int .i64 (k : Int) ∧ Hid (RI zs e k best fd) ∧ Below w.heap.size w wr) (fun _ _ i _ => n - (intOf i).toNat)
    case atStart => exact ⟨0, 0, false, Nat.zero_le _, rfl, rfl, rfl, Lib.hid (RI.start zs e), Below.refl _ _⟩
    case round =>
      obtain ⟨k, best, fd, hk, rfl, rfl, rfl, hR, hB⟩ := hrel
      by_cases hlt : k < n
      · obtain ⟨y, hy'⟩ := HM.out k hlt
        have HY := Lib.hid hy'
        clear hy'
        obtain ⟨wo, ewo⟩ : ∃ wo, wo = wr := ⟨_, rfl⟩
        subst ewo
        have HBo := Lib.hid hB
        clear hB
        go_wp2
        go_loopw [7, 8] (fun q j wr => ∃ m : Nat, m ≤ n ∧ q = .int .i64 ((cnt (zs.take m) y : Nat) : Int) ∧ j = .int .i64 (m : Int) ∧ Below w.heap.size w wr) (fun _ j _ => n - (intOf j).toNat)
        case atStart => exact ⟨0, Nat.zero_le _, rfl, rfl, HBo.out⟩
        case round =>
          obtain ⟨m, hm, rfl, rfl, hB⟩ := hrel
          by_cases hlm : m < n
          · obtain ⟨z, hz⟩ := HM.out m hlm
            have c1 := HS.out wr hB k y HY.out
            have c2 := HS.out wr hB m z hz
            have hcs := cnt_succ hz y
            have hcl := cnt_le (zs.take m) y
            have hcl2 : (zs.take m).length ≤ m := by rw [List.length_take]; omega
            generalize cnt (zs.take m) y = cm at *
            have HBr := Lib.hid hB
            clear hB hz
            have HBd := Lib.hid (fun (q : Nat) => show Below w.heap.size w (wr.drewN q) from HBr.out.trans ⟨rfl, rfl, rfl, Nat.le_refl _, fun _ _ => rfl⟩)
            by_cases hyz : y ≤ z
            · rw [if_pos hyz] at hcs
              have q := decide_eq_true hyz
              clear hyz
              have HCS := Lib.hid hcs
              clear hcs
              go_wp2
              go_quiet (fail)
              go_wp2
              go_roundw
              case rel => exact ⟨m + 1, by omega, by rw [HCS.out]; simp, by simp, HBd.out _⟩
              case measure => simp [intOf]; omega
            · rw [if_neg hyz] at hcs
              have q := decide_eq_false hyz
              clear hyz
              have HCS := Lib.hid hcs
              clear hcs
              go_wp2
              go_quiet (fail)
              go_wp2
              go_roundw
              case rel => exact ⟨m + 1, by omega, by rw [HCS.out]; simp, by simp, HBd.out _⟩
              case measure => simp [intOf]; omega
          · obtain rfl : m = n := by omega
            rw [HT.out]
            have c1 := HS.out wr hB k y HY.out
            have HBr := Lib.hid hB
            have HBd := Lib.hid (fun (q : Nat) => show Below w.heap.size w (wr.drewN q) from HBr.out.trans ⟨rfl, rfl, rfl, Nat.le_refl _, fun _ _ => rfl⟩)
            have hcl := cnt_le zs y
            have R1 := Lib.hid (fun (h : ¬ e ≤ cnt zs y) => hR.out.miss HY.out h)
            have R2 := Lib.hid (fun (hf : fd = true) (h : ¬ best < y) => RI.less (hf ▸ hR.out) HY.out h)
            have R3 := Lib.hid (fun (h : e ≤ cnt zs y) (hb : fd = true → best < y) => hR.out.hit HY.out h hb)
            generalize cnt zs y = cy at *
            clear hB hR
            by_cases he : e ≤ cy
            · have q1 : decide ((e : Int) ≤ (cy : Int)) = true := decide_eq_true (by omega)
              have q1' := decide_eq_true he
              have R4 := Lib.hid (R3.out he)
              clear he
              cases fd with
              | false =>
                have R5 := Lib.hid (R4.out (fun h => nomatch h))
                go_wp2_with (go_at_call 13; refine (CE.out _).mono ?_; rintro r w9 ⟨rfl, hw9⟩; rw [hw9]; clear hw9 w9)
                go_roundw
                case rel => exact ⟨k + 1, y, true, by omega, rfl, rfl, by simp, R5, HBr.out⟩
                case measure => simp [intOf]; omega
              | true =>
                by_cases hb : best < y
                · have q2 := decide_eq_true hb
                  have R5 := Lib.hid (R4.out (fun _ => hb))
                  clear hb
                  go_wp2_with (go_at_call 13; refine (CE.out _).mono ?_; rintro r w9 ⟨rfl, hw9⟩; rw [hw9]; clear hw9 w9)
                  go_roundw
                  case rel => exact ⟨k + 1, y, true, by omega, rfl, rfl, by simp, R5, HBr.out⟩
                  case measure => simp [intOf]; omega
                · have q2 := decide_eq_false hb
                  have R5 := Lib.hid (R2.out rfl hb)
                  clear hb
                  go_wp2_with (go_at_call 13; refine (CE.out _).mono ?_; rintro r w9 ⟨rfl, hw9⟩; rw [hw9]; clear hw9 w9)
                  go_roundw
                  case rel => exact ⟨k + 1, best, true, by omega, rfl, rfl, by simp, R5, HBr.out⟩
                  case measure => simp [intOf]; omega
            · have q1 : decide ((e : Int) ≤ (cy : Int)) = false := decide_eq_false (by omega)
              have q1' := decide_eq_false he
              have R5 := Lib.hid (R1.out he)
              clear he
              go_wp2_with (go_at_call 13; refine (CE.out _).mono ?_; rintro r w9 ⟨rfl, hw9⟩; rw [hw9]; clear hw9 w9)
              go_roundw
              case rel => exact ⟨k + 1, best, fd, by omega, rfl, rfl, by simp, R5, HBr.out⟩
              case measure => simp [intOf]; omega
      · obtain rfl : k = n := by omega
        obtain ⟨rfl, rfl⟩ := HD.out _ _ hR.out
        go_wp2
        refine bodyPost_ret (results_tmp2 rfl _ _ _) rfl ?_
        exact ⟨rfl, hB⟩
  · have hO : agO zs = false := decide_eq_false h
    have hV : agV zs = 0 := by unfold agV; rw [if_neg (by rw [hO]; decide)]
    have he : enN (zs.length : Int) = 0 := by unfold enN; rw [if_pos (by omega)]
    rw [hO, hV]
    rw [he] at CE0
    have CE := Lib.hid CE0
    clear hs hO hV he h CE0
    go_enter Try.func18, Try.ntmps18
    go_wp2_with (go_at_call 13; refine (CE.out _).mono ?_; rintro r w9 ⟨rfl, hw9⟩; rw [hw9]; clear hw9 w9)
    refine bodyPost_ret (results_tmp2 rfl _ _ _) rfl ?_
    exact ⟨rfl, Below.refl _ _⟩
end Go.Proofs.Ytmkpoodhhpfgpaa
