/- The contracts of both Splits: each makes a row of its own that holds the parts. -/
import Derived.Test.YtfjhcamklopkmaaSumsWalks
import Derived.LoopTactic
import Derived.Below
import Derived.Maps.AppendAt
import Derived.Deep.AppendLies
import Derived.Deep.QuietTactic
import Derived.BigQuiet
import Derived.OwnWalk
namespace Go.Proofs.Ytfjhcamklopkmaa
open Go.RowKit

theorem info_u64 : (Try.prog.info? 22).map (fun i => (i.zero, i.size, i.bytes)) = some (some (.int .u64 0), 1, 8) := by kernel_rfl

def sv (a n i : Nat) : Nat := a / n + (if i < a % n then 1 else 0)
def spl (a n k : Nat) : List Value := (List.range k).map fun i => .int .u64 (sv a n i)
def row (a n k : Nat) : List Value := spl a n k ++ List.replicate (n - k) (.int .u64 0)
theorem spl_len (a n k : Nat) : (spl a n k).length = k := by simp [spl]
theorem spl_succ (a n k : Nat) : spl a n (k + 1) = spl a n k ++ [.int .u64 (sv a n k)] := by simp [spl, List.range_succ]
theorem row_zero (a n : Nat) : row a n 0 = List.replicate n (.int .u64 0) := by simp [row, spl]
theorem row_end (a n : Nat) : row a n n = spl a n n := by simp [row]
theorem row_set (a n k : Nat) (h : k < n) : (row a n k).set k (.int .u64 (sv a n k)) = row a n (k + 1) := by
  unfold row
  have e : n - k = (n - (k + 1)) + 1 := by omega
  rw [e, List.replicate_succ, spl_succ, List.set_append_right _ _ (by rw [spl_len]; omega), spl_len, Nat.sub_self]
  simp
theorem row_set2 (a n k : Nat) (x : Value) (h : k < n) : ((row a n k).set k x).set k (.int .u64 (sv a n k)) = row a n (k + 1) := by
  rw [List.set_set, row_set _ _ _ h]

theorem sv_hi (a n i q r : Nat) (hq : q = a / n) (hr : r = a % n) (h : i < r) : sv a n i = q + 1 := by unfold sv; rw [if_pos (by omega)]; omega
theorem sv_lo (a n i q r : Nat) (hq : q = a / n) (hr : r = a % n) (h : ¬ i < r) : sv a n i = q := by unfold sv; rw [if_neg (by omega)]; omega

set_option maxHeartbeats 800000 in
theorem split_any (a n : Nat) (w : World) (ha : a ≤ M) (h1 : 1 ≤ n) (h2 : n ≤ 256) :
    Calls Try.prog 14 #[.int .u64 a, .int .i64 n] w fun e w' =>
      e = .returned (.slice (some ⟨w.heap.size, 0, none⟩) n n) ∧ w'.ownsRow w.heap.size 22 1 (.slice (some ⟨w.heap.size, 0, none⟩) n n) n (spl a n n) ∧ Below w.heap.size w w' := by
  obtain ⟨i0, hi, hz0, hz1, hz2⟩ := info_parts info_u64
  have E := Lib.hid (amount_yes a ha)
  obtain ⟨q, hq⟩ : ∃ q : Nat, q = a / n := ⟨_, rfl⟩
  obtain ⟨r, hr⟩ : ∃ r : Nat, r = a % n := ⟨_, rfl⟩
  have hqa : q ≤ M := by rw [hq]; exact Nat.le_trans (Nat.div_le_self _ _) ha
  have HW := Lib.hid (show IntKind.u64.wrap ((a : Int) / (n : Int)) = (q : Int) by rw [hq, ← Int.natCast_ediv, IntWalk.u64_in _ (by unfold M at *; omega)])
  have HR := Lib.hid (show ((a : Int) % (n : Int)) = (r : Int) by rw [hr]; omega)
  have hw1 : IntKind.u64.wrap ((q : Int) + 1) = ((q + 1 : Nat) : Int) := by rw [IntWalk.u64_in _ (by unfold M at *; omega)]; omega
  have HH := Lib.hid (fun k => sv_hi a n k q r hq hr)
  have HL := Lib.hid (fun k => sv_lo a n k q r hq hr)
  clear ha hq hr hqa
  go_enter Try.func14, Try.ntmps14
  go_wp2_with (go_at_call 16; refine (E.out _).mono ?_; rintro e w' ⟨rfl, rfl⟩)
  go_quiet (fail)
  rw [HW.out, HR.out]
  go_wp2_with (at_make; refine wpList_make_full _ rfl _ _ 30 rfl w.heap.size 22 i0 (.int .u64 0) 1 Try.underlying30 hi hz0 hz1 _ _ _ _ n rfl rfl rfl rfl ?b2 ?b3 ?b4 ?_)
  case b2 => rw [hz2]; omega
  case b3 => unfold maxLen; omega
  case b4 => simp
  intro w0 hown0 hgrow0
  have e0 : (madeCells #[.int .u64 0] n).toList = row a n 0 := by
    rw [row_zero]; exact toList_madeCells_one _ _
  rw [e0] at hown0
  clear e0
  go_wp2
  go_loopw [32] (fun i wr => ∃ k : Nat, k ≤ n ∧ i = .int .i64 k ∧ wr.ownsRow w.heap.size 22 1 (.slice (some ⟨w.heap.size, 0, none⟩) n n) n (row a n k) ∧ Below w.heap.size w wr) (fun i _ => n - (intOf i).toNat)
  case atStart => exact ⟨0, Nat.zero_le _, rfl, by simpa using hown0, (Below.grown (a := w) (w := w.drewN nq) ⟨rfl, rfl, rfl, Nat.le_refl _, fun _ _ => rfl⟩ hgrow0 (Nat.le_refl _) (fun k h => by cases h))⟩
  case round =>
    obtain ⟨k, hk, rfl, hown, hb⟩ := hrel
    by_cases hlt : k < n
    · have hc : wr.cell? ⟨w.heap.size, k, none⟩ = some (.int .u64 0) := by
        rw [hown.cellAt k (by omega)]
        unfold row
        rw [List.getElem?_append_right (by rw [spl_len]; omega), spl_len, Nat.sub_self]
        rw [List.getElem?_replicate, if_pos (by omega)]
      have hf := hown.frozenAt k
      by_cases hr : k < r
      · have hv := Lib.hid (HH.out k hr)
        have t1 : decide (k < r) = true := by simp [hr]
        have t2 : decide ((k : Int) < r) = true := by simp [hr]
        clear hr
        go_wp2
        go_roundw
        case rel => exact ⟨k + 1, by omega, by go_num, by
          have h := ((hown.stored k (.int .u64 q)).1.stored k (.int .u64 (sv a n k))).1
          rw [row_set2 a n k _ hlt, hv.out] at h
          simpa using h, (hb.setCell (p := ⟨w.heap.size, k, none⟩) (Nat.le_refl _) _).setCell (p := ⟨w.heap.size, k, none⟩) (Nat.le_refl _) _⟩
        case measure => simp [intOf]; omega
      · have hv := Lib.hid (HL.out k hr)
        have t1 : decide (k < r) = false := by simp [hr]
        have t2 : decide ((k : Int) < r) = false := by simp [hr]
        clear hr
        go_wp2
        go_roundw
        case rel => exact ⟨k + 1, by omega, by go_num, by
          have h := (hown.stored k (.int .u64 (sv a n k))).1
          rw [row_set a n k hlt, hv.out] at h
          exact h, hb.setCell (p := ⟨w.heap.size, k, none⟩) (Nat.le_refl _) _⟩
        case measure => simp [intOf]; omega
    · go_wp2
      go_ret
      have e : k = n := by omega
      subst e
      rw [row_end] at hown
      exact ⟨rfl, hown, hb⟩
theorem split_none (a : Nat) (n : Int) (w : World) (h : ¬ (a ≤ M ∧ 1 ≤ n ∧ n ≤ 256)) :
    Calls Try.prog 14 #[.int .u64 a, .int .i64 n] w fun e w' => e = .returned (.slice none 0 0) ∧ w = w' := by
  by_cases ha : a ≤ M
  · have E := Lib.hid (amount_yes a ha)
    by_cases h1 : 1 ≤ n
    · have h2 : 256 < n := by omega
      clear ha h
      go_enter Try.func14, Try.ntmps14
      go_wp2_with (go_at_call 16; refine (E.out _).mono ?_; rintro e w' ⟨rfl, rfl⟩)
      go_ret
      exact ⟨rfl, rfl⟩
    · clear ha h
      go_enter Try.func14, Try.ntmps14
      go_wp2_with (go_at_call 16; refine (E.out _).mono ?_; rintro e w' ⟨rfl, rfl⟩)
      go_ret
      exact ⟨rfl, rfl⟩
  · have E := Lib.hid (amount_no a ha)
    clear ha h
    go_enter Try.func14, Try.ntmps14
    go_wp2_with (go_at_call 16; refine (E.out _).mono ?_; rintro e w' ⟨rfl, rfl⟩)
    go_ret
    exact ⟨rfl, rfl⟩

theorem rsplit_none (a : Nat) (n : Int) (w : World) (h : ¬ (a ≤ M ∧ 1 ≤ n ∧ n ≤ 256)) :
    Calls Try.prog 15 #[.int .u64 a, .int .i64 n] w fun e w' => e = .returned (.slice none 0 0) ∧ w = w' := by
  by_cases h1 : 1 ≤ n
  · by_cases h2 : n ≤ 256
    · have T : decide ((4611686018427387904 : Int) < a) = true := by unfold M at *; simp; omega
      clear h
      go_enter Try.func15, Try.ntmps15
      go_wp2
      go_ret
      exact ⟨rfl, rfl⟩
    · clear h
      go_enter Try.func15, Try.ntmps15
      go_wp2
      go_ret
      exact ⟨rfl, rfl⟩
  · clear h
    go_enter Try.func15, Try.ntmps15
    go_wp2
    go_ret
    exact ⟨rfl, rfl⟩

theorem cell_one_new (w : World) (x : Value) (t : TypeId) : ∀ j u, [x][j]? = some u → (w.alloc (.cells #[x] t)).cell? ((⟨w.heap.size, 0, none⟩ : Addr).add j) = some u := by
  intro j u h
  match j, h with
  | 0, h =>
    simp at h; subst h
    rw [show ((⟨w.heap.size, 0, none⟩ : Addr).add 0) = ⟨w.heap.size, 0, none⟩ from rfl, World.cell?_alloc_at _ _ _ _ rfl]; rfl
theorem hgrow_of {B : Nat} {w wr w1 : World} {o : Obj} {e : TypeId} {s n : Nat} {v : Value} {xs : List Value} (hown : wr.ownsRow B e s v n xs) (hb : Below B w wr) (hB : B ≤ w.heap.size := by exact Nat.le_refl _) (hg : (wr.alloc o).grownBy w1 v.ownBlock) : Below B w w1 :=
  (hb.alloc (Nat.le_trans hB hb.size) o).grown hg (Nat.le_trans (Nat.le_trans hB hb.size) (by simp)) (fun k hk => (hown.lt k hk).1)

set_option maxHeartbeats 800000 in
theorem rsplit_any (a n : Nat) (w : World) (ha : a ≤ M) (h1 : 1 ≤ n) (h2 : n ≤ 256) :
    Calls Try.prog 15 #[.int .u64 a, .int .i64 n] w fun e w' =>
      ∃ v, e = .returned v ∧ w'.ownsRow w.heap.size 22 1 v n (spl a n n) ∧ Below w.heap.size w w' := by
  obtain ⟨i0, hi, hz0, hz1, hz2⟩ := info_parts info_u64
  obtain ⟨q, hq⟩ : ∃ q : Nat, q = a / n := ⟨_, rfl⟩
  obtain ⟨r, hr⟩ : ∃ r : Nat, r = a % n := ⟨_, rfl⟩
  have hqa : q ≤ M := by rw [hq]; exact Nat.le_trans (Nat.div_le_self _ _) ha
  have HW := Lib.hid (show IntKind.u64.wrap ((a : Int) / (n : Int)) = (q : Int) by rw [hq, ← Int.natCast_ediv, IntWalk.u64_in _ (by unfold M at *; omega)])
  have HR := Lib.hid (show ((a : Int) % (n : Int)) = (r : Int) by rw [hr]; omega)
  have hw1 := Lib.hid (show IntKind.u64.wrap ((q : Int) + 1) = ((q + 1 : Nat) : Int) by rw [IntWalk.u64_in _ (by unfold M at *; omega)]; omega)
  have HH := Lib.hid (fun k => sv_hi a n k q r hq hr)
  have HL := Lib.hid (fun k => sv_lo a n k q r hq hr)
  have T : decide ((4611686018427387904 : Int) < a) = false := by unfold M at *; simp; omega
  clear ha hq hr hqa
  go_enter Try.func15, Try.ntmps15
  go_wp2
  go_loopw [5, 6, 7] (fun v i x wr => ∃ k : Nat, k ≤ n ∧ i = .int .i64 k ∧ wr.ownsRow w.heap.size 22 1 v k (spl a n k) ∧ Below w.heap.size w wr) (fun _ i _ _ => n - (intOf i).toNat)
  case atStart => exact ⟨0, Nat.zero_le _, rfl, World.ownsRow_nil _ _ _ _, Below.refl _ _⟩
  case round =>
    obtain ⟨k, hk, rfl, hown, hb⟩ := hrel
    by_cases hlt : k < n
    · by_cases hr : k < r
      · have hv := Lib.hid (HH.out k hr)
        have W2 := HW.out
        have R2 := HR.out
        have t1 : decide (k < r) = true := by simp [hr]
        have t2 : decide ((k : Int) < r) = true := by simp [hr]
        clear hr
        have W1 := hw1.out
        go_wp2_with (at_builtin; refine wpList_append_own _ rfl _ _ 30 rfl w.heap.size 22 i0 (.int .u64 0) 1 8 Try.underlying30 hi hz0 hz1 hz2 rfl (by decide) _ _ _ rfl (hown.alloc _) ⟨wr.heap.size, 0, none⟩ 1 1 [.int .u64 ((q : Int) + 1)] rfl rfl ?c1 ?c2 ?c3 ?c4 ?c5 ?_)
        case c1 => exact cell_one_new wr _ _
        case c2 => intro u hu; simp at hu; subst hu; rfl
        case c3 => unfold maxLen; omega
        case c4 => omega
        case c5 => exact Nat.le_trans hb.size (by simp)
        intro v' w1 hown' hgrow _
        have hg2 := hgrow_of hown hb (Nat.le_refl _) hgrow
        have ho2 : w1.ownsRow w.heap.size 22 1 v' (k + 1) (spl a n (k + 1)) := by
          rw [spl_succ, hv.out]; exact hown'
        clear hown' hgrow
        go_wp2
        go_roundw
        case rel => exact ⟨k + 1, by omega, by go_num, ho2, hg2⟩
        case measure => simp [intOf]; omega
      · have hv := Lib.hid (HL.out k hr)
        have W2 := HW.out
        have R2 := HR.out
        have t1 : decide (k < r) = false := by simp [hr]
        have t2 : decide ((k : Int) < r) = false := by simp [hr]
        clear hr
        go_wp2_with (at_builtin; refine wpList_append_own _ rfl _ _ 30 rfl w.heap.size 22 i0 (.int .u64 0) 1 8 Try.underlying30 hi hz0 hz1 hz2 rfl (by decide) _ _ _ rfl (hown.alloc _) ⟨wr.heap.size, 0, none⟩ 1 1 [.int .u64 (q : Int)] rfl rfl ?c1 ?c2 ?c3 ?c4 ?c5 ?_)
        case c1 => exact cell_one_new wr _ _
        case c2 => intro u hu; simp at hu; subst hu; rfl
        case c3 => unfold maxLen; omega
        case c4 => omega
        case c5 => exact Nat.le_trans hb.size (by simp)
        intro v' w1 hown' hgrow _
        have hg2 := hgrow_of hown hb (Nat.le_refl _) hgrow
        have ho2 : w1.ownsRow w.heap.size 22 1 v' (k + 1) (spl a n (k + 1)) := by
          rw [spl_succ, hv.out]; exact hown'
        clear hown' hgrow
        go_wp2
        go_roundw
        case rel => exact ⟨k + 1, by omega, by go_num, ho2, hg2⟩
        case measure => simp [intOf]; omega
    · go_wp2
      go_ret
      have e : k = n := by omega
      subst e
      exact ⟨_, rfl, hown, hb⟩
end Go.Proofs.Ytfjhcamklopkmaa
