/- The document's times. -/
import Derived.Test.YtoafgpoiikpcfaaDoorShaC3
set_option linter.unusedVariables false
namespace Go.Proofs.YtoafgpoiikpcfaaDoor
open Go.RowKit
theorem made_zeros (n : Nat) : (madeCells (Value.int .u64 0).cells (n * 1)).toList = (List.replicate n 0).map uv64 := by
  have e : (Value.int .u64 0).cells = #[.int .u64 0] := rfl
  rw [e, Nat.mul_one]
  unfold madeCells
  apply List.ext_getElem?
  intro i
  by_cases h : i < n
  · simp [h, uv64, Nat.mod_one]
  · simp [h]
set_option maxRecDepth 100000 in
set_option maxHeartbeats 2000000 in
theorem times_any (A B : Option Addr) (ca cb : Nat) (a b : List Nat) (w : World) (ha : Nms w A a) (hb : Nms w B b) (hal : a.length ≤ 100) (hbl : b.length ≤ 100) (ha1 : 1 ≤ a.length) (had : ∀ d ∈ a, d < 65536) (hbd : ∀ d ∈ b, d < 65536) :
    Calls Tryd.prog 22 #[.slice A a.length ca, .slice B b.length cb] w fun e w' => ∃ v o, e = .returned v ∧ w'.ownsRow w.heap.size 37 1 v (a.length + b.length) (o.map uv64) ∧ valL o = valL a * valL b ∧ (∀ d ∈ o, d < 65536) ∧ o.length = a.length + b.length ∧ Below w.heap.size w w' := by
  obtain ⟨i0, hi, hz0, hz1, hz2⟩ := info_parts info_u64
  have HA := Lib.hid ha
  have HB := Lib.hid hb
  have HAD := Lib.hid had
  have HBD := Lib.hid hbd
  clear ha hb had hbd
  go_enter Tryd.func22, Tryd.ntmps22
  go_upto_region 1 with fail
  go_step
  iterate 15 go_step
  refine wpList_make_full (o := ⟨some 15, _, _, _, _, _⟩) w rfl _ _ 55 rfl w.heap.size 37 i0 (.int .u64 0) 1 Tryd.underlying55 hi hz0 hz1 .i64 .i64 _ _ (a.length + b.length) rfl rfl (by omega) (by omega) (by rw [hz2]; omega) (by unfold maxLen; omega) (Nat.le_refl _) ?_
  rw [made_zeros]
  intro w1 ho1 hg1
  have hb1 : Below w.heap.size w w1 := (Below.refl w.heap.size w).grown hg1 (Nat.le_refl _) (fun k hk => by cases hk)
  have HO1 := Lib.hid ho1
  have HB1 := Lib.hid hb1
  clear ho1 hg1 hb1
  obtain ⟨n, hn⟩ : ∃ n, n = a.length + b.length := ⟨_, rfl⟩
  rw [← hn] at HO1 ⊢
  go_wp2_with fail
  go_loopw [6, 7, 8, 9] (fun iv cv kv tv wr => ∃ (i : Nat) (o : List Nat), i ≤ a.length ∧ iv = .int .i64 (i : Int) ∧ Mul a b o i 0 0 ∧ wr.ownsRow w.heap.size 37 1 (.slice (some ⟨w.heap.size, 0, none⟩) n n) n (o.map uv64) ∧ Below w.heap.size w wr) (fun iv _ _ _ _ => a.length - (intOf iv).toNat)
  case atStart => exact ⟨0, _, by omega, rfl, by rw [hn]; exact Mul.start a b, HO1.out, HB1.out⟩
  case round =>
    obtain ⟨i, o, hi', rfl, hmul, ho, hb⟩ := hrel
    have HM := Lib.hid hmul
    have HO := Lib.hid ho
    have HBW := Lib.hid hb
    clear hmul ho hb HO1 HB1
    by_cases hlt : i < a.length
    · have t0 : decide ((i : Int) < (a.length : Int)) = true := by rw [decide_eq_true_eq]; omega
      obtain ⟨ai, hai⟩ : ∃ x, x = a.getD i 0 := ⟨_, rfl⟩
      have hA1 : a[i]? = some ai := by rw [hai, List.getD_eq_getElem?_getD, List.getElem?_eq_getElem hlt]; rfl
      obtain ⟨ad, eA, hcA⟩ := HA.out i (uv64 ai) (by rw [List.getElem?_map, hA1]; rfl)
      have hai16 := HAD.out ai (List.mem_of_getElem? hA1)
      subst eA
      have HCA := Lib.hid hcA
      have HAI := Lib.hid hai
      clear hA1 hcA hai
      go_wp2_with fail
      go_loopw [7, 8, 9] (fun cv kv tv wq => ∃ (k c : Nat) (o : List Nat), k ≤ b.length ∧ kv = .int .i64 (k : Int) ∧ cv = .int .u64 (c : Int) ∧ Mul a b o i k c ∧ wq.ownsRow w.heap.size 37 1 (.slice (some ⟨w.heap.size, 0, none⟩) n n) n (o.map uv64) ∧ Below w.heap.size w wq) (fun _ kv _ _ => b.length - (intOf kv).toNat)
      case atStart => exact ⟨0, 0, o, by omega, rfl, rfl, HM.out, HO.out, HBW.out⟩
      case round =>
        obtain ⟨k, c, o2, hk', rfl, rfl, hmul, ho, hb⟩ := hrel
        clear HM HO HBW
        have HM := Lib.hid hmul
        have HO := Lib.hid ho
        have HBW := Lib.hid hb
        have hc16 := hmul.car
        have hol := hmul.len
        by_cases hkl : k < b.length
        · have t1 : decide ((k : Int) < (b.length : Int)) = true := by rw [decide_eq_true_eq]; omega
          have HS := Lib.hid (hmul.step HBD.out HAD.out hlt hkl)
          obtain ⟨bk, hbk⟩ : ∃ x, x = b.getD k 0 := ⟨_, rfl⟩
          have hB1 : b[k]? = some bk := by rw [hbk, List.getD_eq_getElem?_getD, List.getElem?_eq_getElem hkl]; rfl
          obtain ⟨bd, eB, hcB⟩ := HB.out k (uv64 bk) (by rw [List.getElem?_map, hB1]; rfl)
          have hbk16 := HBD.out bk (List.mem_of_getElem? hB1)
          subst eB
          have hx : o2[i + k]? = some (o2.getD (i + k) 0) := by rw [List.getD_eq_getElem?_getD, List.getElem?_eq_getElem (by omega)]; rfl
          have hx16 := getD_lt16 hmul.dig (i + k)
          have c0' : wr.cell? ⟨w.heap.size, i + k, none⟩ = some (.int .u64 ((o2.getD (i + k) 0 : Nat) : Int)) := by
            rw [ho.cellAt (i + k) (by omega), List.getElem?_map, hx]; rfl
          have z0' := ho.frozenAt (i + k)
          have c1' : wr.cell? (ad.add i) = some (.int .u64 (ai : Int)) := (hb.cell (World.block_lt_of_cell? w _ HCA.out)).trans HCA.out
          have c2' : wr.cell? (bd.add k) = some (.int .u64 (bk : Int)) := (hb.cell (World.block_lt_of_cell? w _ hcB)).trans hcB
          have hmb := prod_lt hai16 hbk16
          rw [← HAI.out, ← hbk] at HS
          generalize o2.getD (i + k) 0 = x0 at *
          obtain ⟨m, hm⟩ : ∃ m, m = ai * bk := ⟨_, rfl⟩
          rw [← hm] at HS hmb
          have hmI : (ai : Int) * (bk : Int) = (m : Int) := by rw [hm, Int.natCast_mul]
          have hil : ((i : Int) + (k : Int)).toNat = i + k := by omega
          have hik0 : (0 : Int) ≤ (i : Int) + (k : Int) := by omega
          have hikn : (i : Int) + (k : Int) < (n : Int) := by omega
          clear hmul ho hb hx hbk hB1 hcB hm
          go_wp2_with fail
          go_quiet (fail)
          go_wp2_with fail
          go_roundw
          case rel =>
            have st := (show (wr.drewN nq).ownsRow w.heap.size 37 1 (.slice (some ⟨w.heap.size, 0, none⟩) n n) n (o2.map uv64) from HO.out).stored (i + k) (uv64 ((x0 + m + c) % 65536))
            have e : uv64 ((x0 + m + c) % 65536) = .int .u64 (((x0 : Int) + (m : Int) + (c : Int)) % 65536) := by
              unfold uv64
              have : (((x0 + m + c) % 65536 : Nat) : Int) = ((x0 : Int) + (m : Int) + (c : Int)) % 65536 := by omega
              rw [this]
            rw [← List.map_set, e] at st
            refine ⟨k + 1, (x0 + m + c) / 65536, o2.set (i + k) ((x0 + m + c) % 65536), by omega, by go_num, by go_num, HS.out, st.1, ?_⟩
            exact (below_drewN HBW.out).grown st.2 HBW.out.size (fun k hk => (HO.out.lt k hk).1)
          case measure => simp [intOf]; omega
        · obtain rfl : k = b.length := by omega
          have t1 : decide ((b.length : Int) < (b.length : Int)) = false := by rw [decide_eq_false_iff_not]; omega
          have hx : o2[i + b.length]? = some (o2.getD (i + b.length) 0) := by rw [List.getD_eq_getElem?_getD, List.getElem?_eq_getElem (by omega)]; rfl
          have c0' : wr.cell? ⟨w.heap.size, i + b.length, none⟩ = some (.int .u64 ((o2.getD (i + b.length) 0 : Nat) : Int)) := by
            rw [ho.cellAt (i + b.length) (by omega), List.getElem?_map, hx]; rfl
          have z0' := ho.frozenAt (i + b.length)
          have hil : ((i : Int) + (b.length : Int)).toNat = i + b.length := by omega
          generalize o2.getD (i + b.length) 0 = x0 at *
          clear hmul ho hb hx
          go_wp2_with fail
          have st := HO.out.stored (i + b.length) (uv64 c)
          refine ⟨⟨i + 1, o2.set (i + b.length) c, by omega, by go_num, HM.out.row hlt, ?_, ?_⟩, by simp [intOf]; omega⟩
          · rw [List.map_set]; exact st.1
          · exact HBW.out.grown st.2 HBW.out.size (fun k hk => (HO.out.lt k hk).1)
    · obtain rfl : i = a.length := by omega
      have t0 : decide ((a.length : Int) < (a.length : Int)) = false := by rw [decide_eq_false_iff_not]; omega
      go_wp2_with fail
      go_ret
      exact ⟨_, o, rfl, by rw [← hn]; exact HO.out, HM.out.done, HM.out.dig, HM.out.len, HBW.out⟩
end Go.Proofs.YtoafgpoiikpcfaaDoor
