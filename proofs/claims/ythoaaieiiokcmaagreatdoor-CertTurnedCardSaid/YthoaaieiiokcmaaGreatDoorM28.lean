/- Merged: Reading an entry, as plain functions; 'readFields': its contract. The contract of 'Read'. The document's 'Read', field by field, as plain functions. -/
import Derived.Test.YthoaaieiiokcmaaGreatDoorM19
import Derived.Test.YthoaaieiiokcmaaGreatDoorM15
namespace Go.Proofs.YthoaaieiiokcmaaGreatDoor
section
set_option linter.unusedVariables false
set_option linter.unusedSimpArgs false
open Go.RowKit
section
variable {w w' : World}
end
set_option maxRecDepth 100000 in
theorem set_turn (w : World) (x o : Nat) (v : Value) : Turn (fun i => i = x) w (w.setCell ⟨x, o, none⟩ v) := (Turn.refl _ _).setCell _ _ (fun _ => rfl)
set_option maxRecDepth 100000 in
theorem EAt.setD {w : World} {b : Nat} {e : Ent} (h : EAt w b e) (hd : e.d.length = 32) (d : List B8) (hd' : d.length = 32) : EAt (w.setCells b 2 (d.map bv)) b { e with d := d } ∧ Turn (fun i => i = b) w (w.setCells b 2 (d.map bv)) := by
  refine ⟨?_, Turn.setCells (S := fun i => i = b) b (fun _ => rfl) _ _ _ (Turn.refl _ _)⟩
  exact setCells_block b _ _ (d.map bv) (e.d.map bv) [.int .i64 e.k, .int .i64 e.s] w (by simp [hd, hd']) h
/-- The rests, behind each field. -/
def l1 (b : List B8) : List B8 := numR b
def l2 (b : List B8) : List B8 := numR (l1 b)
def l3 (b : List B8) : List B8 := (l2 b).drop 32
def l4 (b : List B8) : List B8 := numR (l3 b)
def l5 (b : List B8) : List B8 := numR (l4 b)
def l6 (b : List B8) : List B8 := numR (l5 b)
/-- The first error of the first fields. -/
def f1 (b : List B8) : Nat := eNum 3 b
def f2 (b : List B8) : Nat := if f1 b ≠ 0 then f1 b else eNum 63 (l1 b)
def f3 (b : List B8) : Nat := if f2 b ≠ 0 then f2 b else if (l2 b).length < 32 then 2 else 0
def f4 (b : List B8) : Nat := if f3 b ≠ 0 then f3 b else eNum 4611686018427387904 (l3 b)
def f5 (b : List B8) : Nat := if f4 b ≠ 0 then f4 b else eNum 63 (l4 b)
def f6 (b : List B8) : Nat := if f5 b ≠ 0 then f5 b else eNum 1099511627776 (l5 b)
def bodV (b : List B8) : Ent := eN (numV b) (numV (l1 b)) ((l2 b).take 32) (numV (l3 b)) (numV (l4 b)) (numV (l5 b))
def xE (b : List B8) : Nat := if f6 b ≠ 0 then f6 b else if okB (bodV b) then 0 else 3
theorem f_bounds {b : List B8} (h : f6 b = 0) : numV b ≤ 3 ∧ numV (l1 b) ≤ 63 ∧ ((l2 b).take 32).length = 32 ∧ numV (l3 b) ≤ 4611686018427387904 ∧ numV (l4 b) ≤ 63 ∧ numV (l5 b) ≤ 1099511627776 ∧ f1 b = 0 ∧ f2 b = 0 ∧ f3 b = 0 ∧ f4 b = 0 ∧ f5 b = 0 ∧ eNum 3 b = 0 ∧ eNum 63 (l1 b) = 0 ∧ 32 ≤ (l2 b).length ∧ eNum 4611686018427387904 (l3 b) = 0 ∧ eNum 63 (l4 b) = 0 ∧ eNum 1099511627776 (l5 b) = 0 := by
  have h5 : f5 b = 0 := by
    unfold f6 at h; split at h <;> omega
  have h4 : f4 b = 0 := by
    unfold f5 at h5; split at h5 <;> omega
  have h3 : f3 b = 0 := by
    unfold f4 at h4; split at h4 <;> omega
  have h2 : f2 b = 0 := by
    unfold f3 at h3; split at h3 <;> omega
  have h1 : f1 b = 0 := by
    unfold f2 at h2; split at h2 <;> omega
  have n1 : eNum 3 b = 0 := h1
  have n2 : eNum 63 (l1 b) = 0 := by unfold f2 at h2; rw [if_neg (by omega)] at h2; exact h2
  have n3 : 32 ≤ (l2 b).length := by
    unfold f3 at h3; rw [if_neg (by omega)] at h3; split at h3 <;> omega
  have n4 : eNum 4611686018427387904 (l3 b) = 0 := by unfold f4 at h4; rw [if_neg (by omega)] at h4; exact h4
  have n5 : eNum 63 (l4 b) = 0 := by unfold f5 at h5; rw [if_neg (by omega)] at h5; exact h5
  have n6 : eNum 1099511627776 (l5 b) = 0 := by unfold f6 at h; rw [if_neg (by omega)] at h; exact h
  have b1 := eNum_le n1
  have b2 := eNum_le n2
  have b4 := eNum_le n4
  have b5 := eNum_le n5
  have b6 := eNum_le n6
  have b3 : ((l2 b).take 32).length = 32 := by rw [List.length_take]; omega
  exact ⟨b1.1, b2.1, b3, b4.1, b5.1, b6.1, h1, h2, h3, h4, h5, n1, n2, n3, n4, n5, n6⟩
/-- What reading the fields comes to. -/
def FPost (e E : Nat) (N : Nat → Prop) (b : List B8) (w : World) (r : Ending) (w' : World) : Prop :=
  (xE b = 0 ∧ r = .returned (.agg (bodV b).cells.toArray) ∧ Eye0 w' e E N (l6 b) ∧ Turn (fun i => i = e) w w') ∨
  (xE b ≠ 0 ∧ r = pan E ∧ EyeX w' e E (xE b) ∧ Turn (fun i => i = e ∨ i = E) w w')
theorem f_no {e E : Nat} {N : Nat → Prop} {b : List B8} {w w1 w' : World} {k : Nat} (hk : k ≠ 0) (hx : xE b = k) (he : EyeX w' e E k) (t1 : Turn (fun i => i = e) w w1) (t2 : Turn (fun i => i = e ∨ i = E) w1 w') : FPost e E N b w (pan E) w' :=
  .inr ⟨by rw [hx]; exact hk, rfl, by rw [hx]; exact he, (t1.mono (fun _ _ h => .inl h)).trans t2 (fun _ _ h => h)⟩
attribute [local go_sem ↓] loadAt_en loadAt_id
attribute [local go_sem] run_enLoad run_idLoad rowOf_drew rowOf_drewN
set_option maxRecDepth 100000 in
set_option maxHeartbeats 4000000 in
theorem readFields_any (e E : Nat) (N : Nat → Prop) (b : List B8) (w : World) (h : Eye0 w e E N b) (hN : ∀ i, w.heap.size ≤ i → N i) :
    Calls Tryz.prog 98 #[.pointer (some ⟨e, 0, none⟩)] w (FPost e E N b w) := by
  have hlt := h.lt
  have hle : e < w.heap.size := hlt.1
  have hlE : E < w.heap.size := hlt.2.1
  have hzd := en_zero
  obtain ⟨x, hx⟩ : ∃ x, x = w.heap.size + 1 := ⟨_, rfl⟩
  obtain ⟨w2, hw2⟩ : ∃ w2, w2 = (w.alloc (.cells Z37E 27)).alloc (.cells Z37E 27) := ⟨_, rfl⟩
  have t2 : Turn (fun _ => False) w w2 := by rw [hw2]; exact ((Turn.refl _ _).alloc _).alloc _
  have R0 := Lib.hid (show w2.heap[w.heap.size]? = some (.cells Z37E 27 (0, 0)) by rw [hw2]; exact heap_alloc2_old _ _ _)
  have E0 := Lib.hid (show EAt w2 (w.heap.size + 1) EZ by rw [hw2]; exact heap_alloc2_new _ _ _)
  have HE0 := Lib.hid (h.turn t2 (fun h => h) (fun h => h) (fun _ h => h.elim))
  have T0 := Lib.hid (show Turn (fun i => i = e) w w2 from t2.mono (fun _ _ h => h.elim))
  have HNX := Lib.hid (show N (w.heap.size + 1) from hN _ (by omega))
  have HNW := Lib.hid (show N w.heap.size from hN _ (Nat.le_refl _))
  have HS0 := Lib.hid (show w2.heap.size = w.heap.size + 2 by rw [hw2]; simp)
  clear h hN t2 hlt hx x
  go_enter Tryz.func98, Tryz.ntmps98
  go_upto_region 2 with fail
  change Code.wp _ _ _ _ ((w.alloc (.cells Z37E 27)).alloc (.cells Z37E 27))
  rw [← hw2]
  clear hw2
  by_cases hx : eNum 3 b = 0
  · have TF := Lib.hid (num_yes e E N 3 b w2 HE0.out hx)
    have hbd := (eNum_le hx).1
    have hbd6 := (eNum_le hx).2
    obtain ⟨K, hK⟩ : ∃ V, V = numV b := ⟨_, rfl⟩
    rw [← hK] at TF hbd hbd6
    have HK := Lib.hid hK
    have HX1 := Lib.hid hx
    clear hK hx
    go_upto_region 3 with (go_at_call 96; refine TF.out.mono ?_; rintro r u1 ⟨rfl, he1, ht1⟩; have HEa := Lib.hid he1; have HTa := Lib.hid ht1; clear he1 ht1 TF; have z0 := (E0.out.turn HTa.out (by omega)).f 0; obtain ⟨c0, c1, c2, c3, c4⟩ := (E0.out.turn HTa.out (by omega)).c rfl)
    obtain ⟨e1, t1⟩ := (E0.out.turn HTa.out (by omega)).set0 (K : Int)
    obtain ⟨v1, hv1⟩ : ∃ v, v = u1.setCell ⟨w.heap.size + 1, 0, none⟩ (.int .i64 (K : Int)) := ⟨_, rfl⟩
    change Code.wp _ _ _ _ (u1.setCell ⟨w.heap.size + 1, 0, none⟩ (.int .i64 (K : Int)))
    rw [← hv1] at e1 t1 ⊢
    have E1 := Lib.hid e1
    have HE1 := Lib.hid (HEa.out.turn t1 (by omega) (by omega) (fun i h => by rw [h]; exact HNX.out))
    have R1 := Lib.hid (t1.heap (HTa.out.heap R0.out (by omega)) (by omega))
    have T1 := Lib.hid (show Turn (fun i => i = e) w v1 from (T0.out.trans HTa.out (fun _ _ h => h)).trans t1 (fun i hi h => by omega))
    have HS1 := Lib.hid (show w.heap.size + 2 ≤ v1.heap.size from by have := HS0.out; have := HTa.out.size; have := t1.size; omega)
    clear hv1 e1 t1 HEa HTa c0 c1 c2 c3 c4 z0 E0 HE0 R0 T0 HS0
    have F1 := Lib.hid (show f1 b = 0 by exact HX1.out)
    by_cases hx : eNum 63 (l1 b) = 0
    · have TF := Lib.hid (num_yes e E N 63 (l1 b) v1 HE1.out hx)
      have hbd := (eNum_le hx).1
      have hbd6 := (eNum_le hx).2
      obtain ⟨S, hS⟩ : ∃ V, V = numV (l1 b) := ⟨_, rfl⟩
      rw [← hS] at TF hbd hbd6
      have HS := Lib.hid hS
      have HX2 := Lib.hid hx
      clear hS hx
      go_upto_region 4 with (go_at_call 96; refine TF.out.mono ?_; rintro r u2 ⟨rfl, he2, ht2⟩; have HEa := Lib.hid he2; have HTa := Lib.hid ht2; clear he2 ht2 TF; have z0 := (E1.out.turn HTa.out (by omega)).f 1; obtain ⟨c0, c1, c2, c3, c4⟩ := (E1.out.turn HTa.out (by omega)).c rfl)
      obtain ⟨e2, t2⟩ := (E1.out.turn HTa.out (by omega)).set1 (S : Int)
      obtain ⟨v2, hv2⟩ : ∃ v, v = u2.setCell ⟨w.heap.size + 1, 1, none⟩ (.int .i64 (S : Int)) := ⟨_, rfl⟩
      change Code.wp _ _ _ _ (u2.setCell ⟨w.heap.size + 1, 1, none⟩ (.int .i64 (S : Int)))
      rw [← hv2] at e2 t2 ⊢
      have E2 := Lib.hid e2
      have HE2 := Lib.hid (HEa.out.turn t2 (by omega) (by omega) (fun i h => by rw [h]; exact HNX.out))
      have R2 := Lib.hid (t2.heap (HTa.out.heap R1.out (by omega)) (by omega))
      have T2 := Lib.hid (show Turn (fun i => i = e) w v2 from (T1.out.trans HTa.out (fun _ _ h => h)).trans t2 (fun i hi h => by omega))
      have HS2 := Lib.hid (show w.heap.size + 2 ≤ v2.heap.size from by have := HS1.out; have := HTa.out.size; have := t2.size; omega)
      clear hv2 e2 t2 HEa HTa c0 c1 c2 c3 c4 z0 E1 HE1 R1 T1 HS1
      have F2 := Lib.hid (show f2 b = 0 by unfold f2; rw [if_neg (by rw [F1.out]; omega)]; exact HX2.out)
      by_cases hx : 32 ≤ (l2 b).length
      · have TF := Lib.hid (id_yes e E N (l2 b) v2 HE2.out hx)
        obtain ⟨D, hD⟩ : ∃ V, V = (l2 b).take 32 := ⟨_, rfl⟩
        have HDL := Lib.hid (show D.length = 32 by rw [hD, List.length_take]; omega)
        rw [← hD] at TF
        obtain ⟨DA, hDA⟩ : ∃ DA, DA = (D.map bv).toArray := ⟨_, rfl⟩
        rw [← hDA] at TF
        have HDA := Lib.hid hDA
        have HD := Lib.hid hD
        have HX3 := Lib.hid hx
        have sD : DA.size = 32 := by rw [hDA]; simpa using HDL.out
        have Q1 := Lib.hid (show (Tryz.prog.info? 24).map (·.size) = some DA.size by rw [sD]; kernel_rfl)
        have Q2 := Lib.hid (show DA.all (·.oneCell') = true by rw [hDA]; exact all_oneCell_toArray (bv_one _))
        have Q3 := Lib.hid sD
        clear hD hDA hx sD
        go_wp2_with fail
        refine TF.out.mono ?_
        rintro r u3 ⟨rfl, he3, ht3⟩
        have HEa := Lib.hid he3
        have HTa := Lib.hid ht3
        clear he3 ht3 TF
        have TH := Lib.hid (show u3.there (w.heap.size + 1) 2 DA.size by rw [Q3.out]; exact there_sub (there_lay (E2.out.turn HTa.out (by omega)) 37 (by rw [List.size_toArray, Ent.len _ rfl]; omega)) 2 32 (by omega))
        go_upto_region 5 with (refine wpList_store_mid rfl _ _ _ rfl (w.heap.size + 1) 2 DA rfl rfl TH.out Q1.out Q2.out ?_)
        obtain ⟨e3, t3⟩ := (E2.out.turn HTa.out (by omega)).setD rfl D HDL.out
        rw [show D.map bv = DA.toList by rw [HDA.out]] at e3 t3
        obtain ⟨v3, hv3⟩ : ∃ v, v = u3.setCells (w.heap.size + 1) 2 DA.toList := ⟨_, rfl⟩
        change Code.wp _ _ _ _ (u3.setCells (w.heap.size + 1) 2 DA.toList)
        rw [← hv3] at e3 t3 ⊢
        have E3 := Lib.hid e3
        have HE3 := Lib.hid (HEa.out.turn t3 (by omega) (by omega) (fun i h => by rw [h]; exact HNX.out))
        have R3 := Lib.hid (t3.heap (HTa.out.heap R2.out (by omega)) (by omega))
        have T3 := Lib.hid (show Turn (fun i => i = e) w v3 from (T2.out.trans HTa.out (fun _ _ h => h)).trans t3 (fun i hi h => by omega))
        have HS3 := Lib.hid (show w.heap.size + 2 ≤ v3.heap.size from by have := HS2.out; have := HTa.out.size; have := t3.size; omega)
        clear hv3 e3 t3 HEa HTa TH E2 HE2 R2 T2 HS2
        have F3 := Lib.hid (show f3 b = 0 by unfold f3; rw [if_neg (by rw [F2.out]; omega)]; rw [if_neg (by have := HX3.out; omega)])
        by_cases hx : eNum 4611686018427387904 (l3 b) = 0
        · have TF := Lib.hid (num_yes e E N 4611686018427387904 (l3 b) v3 HE3.out hx)
          have hbd := (eNum_le hx).1
          have hbd6 := (eNum_le hx).2
          obtain ⟨A, hA⟩ : ∃ V, V = numV (l3 b) := ⟨_, rfl⟩
          rw [← hA] at TF hbd hbd6
          have HA := Lib.hid hA
          have HX4 := Lib.hid hx
          clear hA hx
          go_upto_region 6 with (go_at_call 96; refine TF.out.mono ?_; rintro r u4 ⟨rfl, he4, ht4⟩; have HEa := Lib.hid he4; have HTa := Lib.hid ht4; clear he4 ht4 TF; have z0 := (E3.out.turn HTa.out (by omega)).f 34; obtain ⟨c0, c1, c2, c3, c4⟩ := (E3.out.turn HTa.out (by omega)).c HDL.out)
          obtain ⟨e4, t4⟩ := (E3.out.turn HTa.out (by omega)).set34 HDL.out A
          obtain ⟨v4, hv4⟩ : ∃ v, v = u4.setCell ⟨w.heap.size + 1, 34, none⟩ (.int .u64 (A : Int)) := ⟨_, rfl⟩
          change Code.wp _ _ _ _ (u4.setCell ⟨w.heap.size + 1, 34, none⟩ (.int .u64 (A : Int)))
          rw [← hv4] at e4 t4 ⊢
          have E4 := Lib.hid e4
          have HE4 := Lib.hid (HEa.out.turn t4 (by omega) (by omega) (fun i h => by rw [h]; exact HNX.out))
          have R4 := Lib.hid (t4.heap (HTa.out.heap R3.out (by omega)) (by omega))
          have T4 := Lib.hid (show Turn (fun i => i = e) w v4 from (T3.out.trans HTa.out (fun _ _ h => h)).trans t4 (fun i hi h => by omega))
          have HS4 := Lib.hid (show w.heap.size + 2 ≤ v4.heap.size from by have := HS3.out; have := HTa.out.size; have := t4.size; omega)
          clear hv4 e4 t4 HEa HTa c0 c1 c2 c3 c4 z0 E3 HE3 R3 T3 HS3
          have F4 := Lib.hid (show f4 b = 0 by unfold f4; rw [if_neg (by rw [F3.out]; omega)]; exact HX4.out)
          by_cases hx : eNum 63 (l4 b) = 0
          · have TF := Lib.hid (num_yes e E N 63 (l4 b) v4 HE4.out hx)
            have hbd := (eNum_le hx).1
            have hbd6 := (eNum_le hx).2
            obtain ⟨Y, hY⟩ : ∃ V, V = numV (l4 b) := ⟨_, rfl⟩
            rw [← hY] at TF hbd hbd6
            have HY := Lib.hid hY
            have HX5 := Lib.hid hx
            clear hY hx
            go_upto_region 7 with (go_at_call 96; refine TF.out.mono ?_; rintro r u5 ⟨rfl, he5, ht5⟩; have HEa := Lib.hid he5; have HTa := Lib.hid ht5; clear he5 ht5 TF; have z0 := (E4.out.turn HTa.out (by omega)).f 35; obtain ⟨c0, c1, c2, c3, c4⟩ := (E4.out.turn HTa.out (by omega)).c HDL.out)
            obtain ⟨e5, t5⟩ := (E4.out.turn HTa.out (by omega)).set35 HDL.out (Y : Int)
            obtain ⟨v5, hv5⟩ : ∃ v, v = u5.setCell ⟨w.heap.size + 1, 35, none⟩ (.int .i64 (Y : Int)) := ⟨_, rfl⟩
            change Code.wp _ _ _ _ (u5.setCell ⟨w.heap.size + 1, 35, none⟩ (.int .i64 (Y : Int)))
            rw [← hv5] at e5 t5 ⊢
            have E5 := Lib.hid e5
            have HE5 := Lib.hid (HEa.out.turn t5 (by omega) (by omega) (fun i h => by rw [h]; exact HNX.out))
            have R5 := Lib.hid (t5.heap (HTa.out.heap R4.out (by omega)) (by omega))
            have T5 := Lib.hid (show Turn (fun i => i = e) w v5 from (T4.out.trans HTa.out (fun _ _ h => h)).trans t5 (fun i hi h => by omega))
            have HS5 := Lib.hid (show w.heap.size + 2 ≤ v5.heap.size from by have := HS4.out; have := HTa.out.size; have := t5.size; omega)
            clear hv5 e5 t5 HEa HTa c0 c1 c2 c3 c4 z0 E4 HE4 R4 T4 HS4
            have F5 := Lib.hid (show f5 b = 0 by unfold f5; rw [if_neg (by rw [F4.out]; omega)]; exact HX5.out)
            by_cases hx : eNum 1099511627776 (l5 b) = 0
            · have TF := Lib.hid (num_yes e E N 1099511627776 (l5 b) v5 HE5.out hx)
              have hbd := (eNum_le hx).1
              have hbd6 := (eNum_le hx).2
              obtain ⟨P, hP⟩ : ∃ V, V = numV (l5 b) := ⟨_, rfl⟩
              rw [← hP] at TF hbd hbd6
              have HP := Lib.hid hP
              have HX6 := Lib.hid hx
              clear hP hx
              go_upto_region 8 with (go_at_call 96; refine TF.out.mono ?_; rintro r u6 ⟨rfl, he6, ht6⟩; have HEa := Lib.hid he6; have HTa := Lib.hid ht6; clear he6 ht6 TF; have z0 := (E5.out.turn HTa.out (by omega)).f 36; obtain ⟨c0, c1, c2, c3, c4⟩ := (E5.out.turn HTa.out (by omega)).c HDL.out)
              obtain ⟨e6, t6⟩ := (E5.out.turn HTa.out (by omega)).set36 HDL.out (P : Int)
              obtain ⟨v6, hv6⟩ : ∃ v, v = u6.setCell ⟨w.heap.size + 1, 36, none⟩ (.int .i64 (P : Int)) := ⟨_, rfl⟩
              change Code.wp _ _ _ _ (u6.setCell ⟨w.heap.size + 1, 36, none⟩ (.int .i64 (P : Int)))
              rw [← hv6] at e6 t6 ⊢
              have E6 := Lib.hid e6
              have HE6 := Lib.hid (HEa.out.turn t6 (by omega) (by omega) (fun i h => by rw [h]; exact HNX.out))
              have R6 := Lib.hid (t6.heap (HTa.out.heap R5.out (by omega)) (by omega))
              have T6 := Lib.hid (show Turn (fun i => i = e) w v6 from (T5.out.trans HTa.out (fun _ _ h => h)).trans t6 (fun i hi h => by omega))
              have HS6 := Lib.hid (show w.heap.size + 2 ≤ v6.heap.size from by have := HS5.out; have := HTa.out.size; have := t6.size; omega)
              clear hv6 e6 t6 HEa HTa c0 c1 c2 c3 c4 z0 E5 HE5 R5 T5 HS5
              have F6 := Lib.hid (show f6 b = 0 by unfold f6; rw [if_neg (by rw [F5.out]; omega)]; exact HX6.out)
              have hrow := E6.out.row HDL.out
              obtain ⟨CB, hCB⟩ : ∃ CB, CB = (Ent.cells ⟨(K : Int), (S : Int), D, A, (Y : Int), (P : Int)⟩).toArray := ⟨_, rfl⟩
              have hbv : bodV b = ⟨(K : Int), (S : Int), D, A, (Y : Int), (P : Int)⟩ := by unfold bodV eN; rw [HK.out, HS.out, HD.out, HA.out, HY.out, HP.out]
              have TR := eright_any ⟨(K : Int), (S : Int), D, A, (Y : Int), (P : Int)⟩ v6 HDL.out
              change rowOf v6 (w.heap.size + 1) 0 37 = some (Ent.cells ⟨(K : Int), (S : Int), D, A, (Y : Int), (P : Int)⟩).toArray at hrow
              rw [← hCB] at hrow TR
              rw [← hbv] at hCB TR
              have sC : CB.size = 37 := by rw [hCB, List.size_toArray, Ent.len]; rw [hbv]; exact HDL.out
              have TR := Lib.hid TR
              have K1 := Lib.hid (show (Tryz.prog.info? 27).map (·.size) = some CB.size by rw [sC]; exact en_info)
              have K2 := Lib.hid (show Z37E.size = CB.size by rw [sC]; rfl)
              have K3 := Lib.hid (show CB.all (·.oneCell') = true by rw [hCB]; exact Ent.one _)
              have HCB := Lib.hid hCB
              have HROW := Lib.hid hrow
              clear hCB sC hbv
              by_cases hok : okB (bodV b)
              · rw [decide_eq_true hok] at TR
                have HX := Lib.hid (show xE b = 0 by unfold xE; rw [if_neg (by rw [F6.out]; omega), if_pos hok])
                clear hok
                go_wp2_with (go_at_call 58; refine stop ?_)
                unfold Stop
                refine TR.out.mono ?_
                rintro r v7 ⟨rfl, t7⟩
                have R7 := Lib.hid (t7.heap R6.out (fun h => h))
                have hrow := rowOf_turn t7 HROW.out (fun h => h)
                have HE7 := Lib.hid (HE6.out.turn t7 (fun h => h) (fun h => h) (fun _ h => h.elim))
                have T7 := Lib.hid (T6.out.trans t7 (fun _ _ h => h.elim))
                clear t7 TR HE6
                go_wp2_with (refine wpList_store_row rfl _ _ _ rfl w.heap.size CB rfl rfl 27 Z37E R7.out K1.out K2.out K3.out ?_)
                have h3 := setRow_heap v7 w.heap.size Z37E CB 27 (0, 0) R7.out
                have t8 : Turn (fun i => i = w.heap.size) v7 (v7.setRow w.heap.size CB) := (Turn.refl _ _).setRow _ _ (fun _ => rfl)
                refine bodyPost_ret (v := .agg CB) ?_ rfl (.inl ⟨HX.out, by rw [HCB.out], HE7.out.turn t8 (by omega) (by omega) (fun i h => by rw [h]; exact HNW.out), T7.out.trans t8 (fun i hi h => by omega)⟩)
                exact results_cell_row Tryz.results98 _ _ w.heap.size _ CB (0, 0) _ rfl h3 Tryz.underlying27 rfl K1.out
              · rw [decide_eq_false hok] at TR
                have HX := Lib.hid (show xE b = 3 by unfold xE; rw [if_neg (by rw [F6.out]; omega), if_neg hok])
                clear hok
                go_wp2_with (go_at_call 58; refine stop ?_)
                unfold Stop
                refine TR.out.mono ?_
                rintro r v7 ⟨rfl, t7⟩
                have HE7 := HE6.out.turn t7 (fun h => h) (fun h => h) (fun _ h => h.elim)
                have TF := Lib.hid (fail0 e E N 3 _ v7 HE7 (by decide))
                have T7 := Lib.hid (T6.out.trans t7 (fun _ _ h => h.elim))
                clear t7 TR HE6 HE7 hrow
                go_wp2_with (go_at_call 72; refine TF.out.mono ?_; rintro r u9 ⟨rfl, he9, ht9⟩; dsimp only [pan]; have HE9 := Lib.hid he9; have HT9 := Lib.hid ht9; clear he9 ht9)
                exact ⟨rfl, f_no (by decide) HX.out HE9.out T7.out (HT9.out.mono (fun _ _ h => .inr h))⟩
            · have TF := Lib.hid (num_no e E N 1099511627776 (l5 b) v5 HE5.out hx)
              have hz : f6 b = eNum 1099511627776 (l5 b) := by
                unfold f6; rw [if_neg (by rw [F5.out]; omega)]
              have hk : eNum 1099511627776 (l5 b) ≠ 0 := by omega
              have hX : xE b = eNum 1099511627776 (l5 b) := by
                unfold xE
                rw [if_pos (by rw [hz]; exact hk), hz]
              have HX0 := Lib.hid hX
              have HK0 := Lib.hid hk
              clear hX hk hz hx
              go_wp2_with (go_at_call 96; refine TF.out.mono ?_; rintro r u9 ⟨rfl, he9, ht9⟩; dsimp only [pan]; have HE9 := Lib.hid he9; have HT9 := Lib.hid ht9; clear he9 ht9)
              exact ⟨rfl, f_no HK0.out HX0.out HE9.out T5.out HT9.out⟩
          · have TF := Lib.hid (num_no e E N 63 (l4 b) v4 HE4.out hx)
            have hz : f5 b = eNum 63 (l4 b) := by
              unfold f5; rw [if_neg (by rw [F4.out]; omega)]
            have hk : eNum 63 (l4 b) ≠ 0 := by omega
            have hX : xE b = eNum 63 (l4 b) := by
              unfold xE
              have hz : f6 b = eNum 63 (l4 b) := by unfold f6; rw [if_pos (by rw [hz]; exact hk), hz]
              rw [if_pos (by rw [hz]; exact hk), hz]
            have HX0 := Lib.hid hX
            have HK0 := Lib.hid hk
            clear hX hk hz hx
            go_wp2_with (go_at_call 96; refine TF.out.mono ?_; rintro r u9 ⟨rfl, he9, ht9⟩; dsimp only [pan]; have HE9 := Lib.hid he9; have HT9 := Lib.hid ht9; clear he9 ht9)
            exact ⟨rfl, f_no HK0.out HX0.out HE9.out T4.out HT9.out⟩
        · have TF := Lib.hid (num_no e E N 4611686018427387904 (l3 b) v3 HE3.out hx)
          have hz : f4 b = eNum 4611686018427387904 (l3 b) := by
            unfold f4; rw [if_neg (by rw [F3.out]; omega)]
          have hk : eNum 4611686018427387904 (l3 b) ≠ 0 := by omega
          have hX : xE b = eNum 4611686018427387904 (l3 b) := by
            unfold xE
            have hz : f5 b = eNum 4611686018427387904 (l3 b) := by unfold f5; rw [if_pos (by rw [hz]; exact hk), hz]
            have hz : f6 b = eNum 4611686018427387904 (l3 b) := by unfold f6; rw [if_pos (by rw [hz]; exact hk), hz]
            rw [if_pos (by rw [hz]; exact hk), hz]
          have HX0 := Lib.hid hX
          have HK0 := Lib.hid hk
          clear hX hk hz hx
          go_wp2_with (go_at_call 96; refine TF.out.mono ?_; rintro r u9 ⟨rfl, he9, ht9⟩; dsimp only [pan]; have HE9 := Lib.hid he9; have HT9 := Lib.hid ht9; clear he9 ht9)
          exact ⟨rfl, f_no HK0.out HX0.out HE9.out T3.out HT9.out⟩
      · have TF := Lib.hid (id_no e E N (l2 b) v2 HE2.out (by omega))
        have hz : f3 b = 2 := by
          unfold f3; rw [if_neg (by rw [F2.out]; omega)]; rw [if_pos (by omega)]
        have hk : 2 ≠ 0 := by decide
        have hX : xE b = 2 := by
          unfold xE
          have hz : f4 b = 2 := by unfold f4; rw [if_pos (by rw [hz]; exact hk), hz]
          have hz : f5 b = 2 := by unfold f5; rw [if_pos (by rw [hz]; exact hk), hz]
          have hz : f6 b = 2 := by unfold f6; rw [if_pos (by rw [hz]; exact hk), hz]
          rw [if_pos (by rw [hz]; exact hk), hz]
        have HX0 := Lib.hid hX
        have HK0 := Lib.hid hk
        clear hX hk hz hx
        go_wp2_with (go_at_call 71; refine TF.out.mono ?_; rintro r u9 ⟨rfl, he9, ht9⟩; dsimp only [pan]; have HE9 := Lib.hid he9; have HT9 := Lib.hid ht9; clear he9 ht9)
        exact ⟨rfl, f_no HK0.out HX0.out HE9.out T2.out HT9.out⟩
    · have TF := Lib.hid (num_no e E N 63 (l1 b) v1 HE1.out hx)
      have hz : f2 b = eNum 63 (l1 b) := by
        unfold f2; rw [if_neg (by rw [F1.out]; omega)]
      have hk : eNum 63 (l1 b) ≠ 0 := by omega
      have hX : xE b = eNum 63 (l1 b) := by
        unfold xE
        have hz : f3 b = eNum 63 (l1 b) := by unfold f3; rw [if_pos (by rw [hz]; exact hk), hz]
        have hz : f4 b = eNum 63 (l1 b) := by unfold f4; rw [if_pos (by rw [hz]; exact hk), hz]
        have hz : f5 b = eNum 63 (l1 b) := by unfold f5; rw [if_pos (by rw [hz]; exact hk), hz]
        have hz : f6 b = eNum 63 (l1 b) := by unfold f6; rw [if_pos (by rw [hz]; exact hk), hz]
        rw [if_pos (by rw [hz]; exact hk), hz]
      have HX0 := Lib.hid hX
      have HK0 := Lib.hid hk
      clear hX hk hz hx
      go_wp2_with (go_at_call 96; refine TF.out.mono ?_; rintro r u9 ⟨rfl, he9, ht9⟩; dsimp only [pan]; have HE9 := Lib.hid he9; have HT9 := Lib.hid ht9; clear he9 ht9)
      exact ⟨rfl, f_no HK0.out HX0.out HE9.out T1.out HT9.out⟩
  · have TF := Lib.hid (num_no e E N 3 b w2 HE0.out hx)
    have hz : f1 b = eNum 3 b := by
      rfl
    have hk : eNum 3 b ≠ 0 := by omega
    have hX : xE b = eNum 3 b := by
      unfold xE
      have hz : f2 b = eNum 3 b := by unfold f2; rw [if_pos (by rw [hz]; exact hk), hz]
      have hz : f3 b = eNum 3 b := by unfold f3; rw [if_pos (by rw [hz]; exact hk), hz]
      have hz : f4 b = eNum 3 b := by unfold f4; rw [if_pos (by rw [hz]; exact hk), hz]
      have hz : f5 b = eNum 3 b := by unfold f5; rw [if_pos (by rw [hz]; exact hk), hz]
      have hz : f6 b = eNum 3 b := by unfold f6; rw [if_pos (by rw [hz]; exact hk), hz]
      rw [if_pos (by rw [hz]; exact hk), hz]
    have HX0 := Lib.hid hX
    have HK0 := Lib.hid hk
    clear hX hk hz hx
    go_wp2_with (go_at_call 96; refine TF.out.mono ?_; rintro r u9 ⟨rfl, he9, ht9⟩; dsimp only [pan]; have HE9 := Lib.hid he9; have HT9 := Lib.hid ht9; clear he9 ht9)
    exact ⟨rfl, f_no HK0.out HX0.out HE9.out T0.out HT9.out⟩
end
section
set_option linter.unusedVariables false
set_option linter.unusedSimpArgs false
open Go.RowKit
attribute [local go_sem ↓] loadAt_en loadAt_id
attribute [local go_sem] run_enLoad run_idLoad rowOf_drew rowOf_drewN
/-- What the reader of an entry comes to. -/
def RPost (e E x : Nat) (N : Nat → Prop) (b : List B8) (w : World) (r : Ending) (w' : World) : Prop :=
  (xE b = 0 ∧ r = .returned (.tuple #[]) ∧ EAt w' x (bodV b) ∧ Eye0 w' e E N (l6 b) ∧ Turn (fun i => i = e ∨ i = x) w w') ∨
  (xE b ≠ 0 ∧ r = pan E ∧ EyeX w' e E (xE b) ∧ Turn (fun i => i = e ∨ i = E ∨ i = x) w w')
set_option maxRecDepth 100000 in
theorem xE_zero {b : List B8} (h : xE b = 0) : f6 b = 0 ∧ okB (bodV b) := by
  unfold xE at h
  split at h
  · omega
  · split at h
    · rename_i h1 h2; exact ⟨by omega, h2⟩
    · omega
theorem bodV_len {b : List B8} (h : f6 b = 0) : (bodV b).d.length = 32 := (f_bounds h).2.2.1
set_option maxRecDepth 100000 in
set_option maxHeartbeats 4000000 in
theorem read1_any (e E x : Nat) (N : Nat → Prop) (b : List B8) (w : World) (h : Eye0 w e E N b) (hN : ∀ i, w.heap.size ≤ i → N i) (hx : w.heap[x]? = some (.cells Z37E 27 (0, 0))) (hxe : x ≠ e) (hxE : x ≠ E) (hNx : N x) :
    Calls Tryz.prog 97 #[.pointer (some ⟨e, 0, none⟩), .pointer (some ⟨x, 0, none⟩)] w (RPost e E x N b w) := by
  have T := Lib.hid (readFields_any e E N b w h hN)
  have HX := Lib.hid hx
  have HN := Lib.hid hNx
  clear h hN hx hNx
  obtain ⟨C, hC⟩ : ∃ C, C = (bodV b).cells.toArray := ⟨_, rfl⟩
  have K := Lib.hid (fun (h : f6 b = 0) => show (Tryz.prog.info? 27).map (·.size) = some C.size ∧ Z37E.size = C.size from by
    have s : C.size = 37 := by rw [hC, List.size_toArray, Ent.len _ (bodV_len h)]
    rw [s]; exact ⟨en_info, rfl⟩)
  have K3 := Lib.hid (show C.all (·.oneCell') = true by rw [hC]; exact Ent.one _)
  unfold FPost at T
  rw [← hC] at T
  have HC := Lib.hid hC
  clear hC
  go_enter Tryz.func97, Tryz.ntmps97
  go_wp2_with fail
  refine T.out.mono ?_
  rintro r w1 (⟨hz, rfl, he1, ht1⟩ | ⟨hz, rfl, he1, ht1⟩)
  · have HE1 := Lib.hid he1
    have HT1 := Lib.hid ht1
    have HZ := Lib.hid hz
    have X1 := Lib.hid (ht1.heap HX.out hxe)
    have KK := Lib.hid (K.out (xE_zero hz).1)
    clear he1 ht1 hz T
    go_wp2_with (refine wpList_store_row rfl _ _ _ rfl x C rfl rfl 27 Z37E X1.out KK.out.1 KK.out.2 K3.out ?_)
    have h3 := setRow_heap w1 x Z37E C 27 (0, 0) X1.out
    have t4 : Turn (fun i => i = x) w1 (w1.setRow x C) := (Turn.refl _ _).setRow _ _ (fun _ => rfl)
    refine bodyPost_ret (results_none rfl _ _ _) rfl (.inl ⟨HZ.out, rfl, ?_, HE1.out.turn t4 (fun h => hxe h.symm) (fun h => hxE h.symm) (fun i h => by rw [h]; exact HN.out), (HT1.out.mono (fun _ _ h => .inl h)).trans t4 (fun _ _ h => .inr h)⟩)
    unfold EAt
    rw [h3, HC.out]
  · have HE1 := Lib.hid he1
    have HT1 := Lib.hid ht1
    have HZ := Lib.hid hz
    clear he1 ht1 hz T
    dsimp only [pan]
    go_wp2_with fail
    exact ⟨rfl, .inr ⟨HZ.out, rfl, HE1.out, HT1.out.mono (fun _ _ h => h.elim .inl (fun h => .inr (.inl h)))⟩⟩
def readE (b : List B8) : Nat := if xE b ≠ 0 then xE b else if l6 b = [] then 0 else 3
def readV (b : List B8) : Ent := if readE b ≠ 0 then EZ else bodV b
set_option maxRecDepth 100000 in
theorem results_en {fn : Func} {p u : Tmp} (h : fn.results = #[.cell p 27, .tmp u]) (tmps : Array Value) (w : World) (g : Nat) (cs : Array Value) (v : Value)
    (hp : tmps.getD p undef = .pointer (some ⟨g, 0, none⟩)) (hv : tmps.getD u undef = v) (hg : w.heap[g]? = some (.cells cs 27 (0, 0))) (hc : cs.size = 37) :
    (results fn tmps).run Tryz.prog w = .ok (.tuple #[.agg cs, v]) w := by
  rw [results_cell_tmp h, hp, hv]
  simp [asAddr, run_loadVar_row w g 27 27 cs (0, 0) _ hg Tryz.underlying27 rfl (by rw [hc]; kernel_rfl), Result.andThen]
set_option maxRecDepth 100000 in
set_option maxHeartbeats 4000000 in
theorem read_any' (A : Option Addr) (c : Nat) (b : List B8) (w : World) (hs : Sl w w.heap.size A (b.map bv)) (hA : A = none → c = 0) (hc : b.length ≤ c) (hlen : b.length ≤ 1099511627776) :
    Calls Tryz.prog 74 #[.slice A b.length c] w fun r w' => r = .returned (.tuple #[.agg (readV b).cells.toArray, .int .i64 ((readE b : Nat) : Int)]) ∧ Turn (fun _ => False) w w' := by
  have hmf : ∀ (fn : Fn) (first cap : Array Value) (w : World), (Instr.makeFunc fn first cap).run Tryz.prog w = .ok (.func fn first cap) w := fun _ _ _ _ => rfl
  have hzd := en_zero
  obtain ⟨w2, hw2⟩ : ∃ w2, w2 = (w.alloc (.cells Z37E 27)).alloc (.cells Z37E 27) := ⟨_, rfl⟩
  have s2 : w2.heap.size = w.heap.size + 2 := by rw [hw2]; simp
  have t2 : Turn (fun _ => False) w w2 := by rw [hw2]; exact ((Turn.refl _ _).alloc _).alloc _
  have gr : w2.heap[w.heap.size]? = some (.cells Z37E 27 (0, 0)) := by rw [hw2]; exact heap_alloc2_old _ _ _
  have gx : w2.heap[w.heap.size + 1]? = some (.cells Z37E 27 (0, 0)) := by rw [hw2]; exact heap_alloc2_new _ _ _
  have T := Lib.hid (read_cap 97 (.pointer (some ⟨w.heap.size + 1, 0, none⟩)) A c b w2 (fun i => i = w2.heap.size + 1 ∨ i = w2.heap.size ∨ i = w.heap.size + 1) (fun i => w.heap.size ≤ i)
    (fun l w3 => xE b = 0 ∧ l = l6 b ∧ EAt w3 (w.heap.size + 1) (bodV b) ∧ Turn (fun i => i = w.heap.size + 1) w2 w3)
    (fun k w3 => xE b = k ∧ Turn (fun i => i = w.heap.size + 1) w2 w3) (fun _ _ => by kernel_rfl)
    ((SlN.of hs (N := fun i => w.heap.size ≤ i) (fun i hi => by omega)).turn t2 (fun _ h => h.elim) (fun _ _ h => h)) hA hc hlen (by omega)
    (by
      intro w1 t1 s1 e1
      refine (read1_any (w2.heap.size + 1) w2.heap.size (w.heap.size + 1) _ b w1 e1 (fun i hi => .inr (by omega)) (t1.heap gx (fun h => h)) (by omega) (by omega) (.inl (by omega))).mono ?_
      rintro r w3 (⟨hz, rfl, hx, he, ht⟩ | ⟨hz, rfl, he, ht⟩)
      · exact ⟨ht.mono (fun i _ h => by omega), .inl ⟨rfl, _, he, hz, rfl, hx, (t1.mono (fun _ _ h => h.elim)).trans ht (fun i hi h => by omega)⟩⟩
      · exact ⟨ht.mono (fun i _ h => by omega), .inr ⟨rfl, _, hz, he, rfl, (t1.mono (fun _ _ h => h.elim)).trans ht (fun i hi h => by omega)⟩⟩))
  have GR := Lib.hid gr
  have T2 := Lib.hid t2
  have HS2 := Lib.hid s2
  clear hs hlen gr gx t2 s2
  go_enter Tryz.func74, Tryz.ntmps74
  go_upto_region 2 with fail
  change Code.wp _ _ _ _ ((w.alloc (.cells Z37E 27)).alloc (.cells Z37E 27))
  rw [← hw2]
  clear hw2
  go_wp2_with fail
  refine T.out.mono ?_
  rintro r w4 ⟨w3, ht4, (⟨l, ⟨hz, rfl, hx, ht3⟩, rfl⟩ | ⟨k, hk, ⟨hz, ht3⟩, rfl⟩)⟩
  · have G4 := Lib.hid (ht4.heap (ht3.heap GR.out (by omega)) (by have := HS2.out; omega))
    have X4 := Lib.hid (hx.turn ht4 (by have := HS2.out; omega))
    have T4 := Lib.hid (show Turn (fun _ => False) w w4 from (T2.out.trans ht3 (fun i hi h => by omega)).trans ht4 (fun i hi h => by have := HS2.out; omega))
    have HD := Lib.hid (bodV_len (xE_zero hz).1)
    have HZ := Lib.hid hz
    clear hx ht3 ht4 hz T
    by_cases hl : l6 b = []
    · have HIF := Lib.hid (show (if l6 b = [] then (0 : Int) else 3) = 0 by rw [if_pos hl])
      have HRE := Lib.hid (show readE b = 0 by unfold readE; rw [if_neg (by rw [HZ.out]; omega), if_pos hl])
      have HRV := Lib.hid (show readV b = bodV b by unfold readV; rw [if_neg (by rw [HRE.out]; omega)])
      rw [HIF.out]
      clear HIF hl
      have hrow := X4.out.row HD.out
      obtain ⟨C, hC⟩ : ∃ C, C = (bodV b).cells.toArray := ⟨_, rfl⟩
      rw [← hC] at hrow
      have sC : C.size = 37 := by rw [hC, List.size_toArray, Ent.len _ HD.out]
      have K1 := Lib.hid (show (Tryz.prog.info? 27).map (·.size) = some C.size by rw [sC]; exact en_info)
      have K2 := Lib.hid (show Z37E.size = C.size by rw [sC]; rfl)
      have K3 := Lib.hid (show C.all (·.oneCell') = true by rw [hC]; exact Ent.one _)
      have HC := Lib.hid hC
      have HSC := Lib.hid sC
      clear hC sC
      go_wp2_with (refine wpList_store_row rfl _ _ _ rfl w.heap.size C rfl rfl 27 Z37E G4.out K1.out K2.out K3.out ?_)
      have h3 := setRow_heap w4 w.heap.size Z37E C 27 (0, 0) G4.out
      have t5 : Turn (fun i => i = w.heap.size) w4 (w4.setRow w.heap.size C) := (Turn.refl _ _).setRow _ _ (fun _ => rfl)
      refine bodyPost_ret (v := .tuple #[.agg C, .int .i64 0]) ?_ rfl ⟨by rw [HRE.out, HRV.out, HC.out]; rfl, T4.out.trans t5 (fun i hi h => by omega)⟩
      exact results_en Tryz.results74 _ _ w.heap.size _ _ rfl rfl h3 HSC.out
    · have HIF := Lib.hid (show (if l6 b = [] then (0 : Int) else 3) = 3 by rw [if_neg hl])
      have HRE := Lib.hid (show readE b = 3 by unfold readE; rw [if_neg (by rw [HZ.out]; omega), if_neg hl])
      have HRV := Lib.hid (show readV b = EZ by unfold readV; rw [if_pos (by rw [HRE.out]; omega)])
      rw [HIF.out]
      clear HIF hl
      obtain ⟨CZ, hCZ⟩ : ∃ CZ, CZ = Z37E := ⟨_, rfl⟩
      have sZ : CZ.size = 37 := by rw [hCZ]; rfl
      have K1 := Lib.hid (show (Tryz.prog.info? 27).map (·.size) = some CZ.size by rw [sZ]; exact en_info)
      have K2 := Lib.hid (show Z37E.size = CZ.size by rw [sZ]; rfl)
      have K3 := Lib.hid (show CZ.all (·.oneCell') = true by rw [hCZ, ← EZ_eq]; exact Ent.one _)
      have HCZ := Lib.hid hCZ
      have HSZ := Lib.hid sZ
      clear hCZ sZ
      go_wp2_with (refine wpList_store_row rfl _ _ _ rfl w.heap.size CZ rfl (by rw [HCZ.out]; rfl) 27 Z37E G4.out K1.out K2.out K3.out ?_)
      have h3 := setRow_heap w4 w.heap.size Z37E CZ 27 (0, 0) G4.out
      have t5 : Turn (fun i => i = w.heap.size) w4 (w4.setRow w.heap.size CZ) := (Turn.refl _ _).setRow _ _ (fun _ => rfl)
      refine bodyPost_ret (v := .tuple #[.agg CZ, .int .i64 3]) ?_ rfl ⟨by rw [HRE.out, HRV.out, HCZ.out]; rfl, T4.out.trans t5 (fun i hi h => by omega)⟩
      exact results_en Tryz.results74 _ _ w.heap.size _ _ rfl rfl h3 HSZ.out
  · have hRE : readE b = k := by unfold readE; rw [if_pos (by rw [hz]; exact hk), hz]
    have hRV : readV b = EZ := by unfold readV; rw [if_pos (by rw [hRE]; exact hk)]
    have G4 := Lib.hid (ht4.heap (ht3.heap GR.out (by omega)) (by have := HS2.out; omega))
    have T4 := Lib.hid (show Turn (fun _ => False) w w4 from (T2.out.trans ht3 (fun i hi h => by omega)).trans ht4 (fun i hi h => by have := HS2.out; omega))
    have HRE := Lib.hid hRE
    have HRV := Lib.hid hRV
    have hk1 : ((k : Int) == 0) = false := by simp; omega
    have hk2 : ((k : Int) != 0) = true := by simp; omega
    clear T hz ht3 ht4 hRE hRV hk
    obtain ⟨CZ, hCZ⟩ : ∃ CZ, CZ = Z37E := ⟨_, rfl⟩
    have sZ : CZ.size = 37 := by rw [hCZ]; rfl
    have K1 := Lib.hid (show (Tryz.prog.info? 27).map (·.size) = some CZ.size by rw [sZ]; exact en_info)
    have K2 := Lib.hid (show Z37E.size = CZ.size by rw [sZ]; rfl)
    have K3 := Lib.hid (show CZ.all (·.oneCell') = true by rw [hCZ, ← EZ_eq]; exact Ent.one _)
    have HCZ := Lib.hid hCZ
    have HSZ := Lib.hid sZ
    clear hCZ sZ
    go_wp2_with (refine wpList_store_row rfl _ _ _ rfl w.heap.size CZ rfl (by rw [HCZ.out]; rfl) 27 Z37E G4.out K1.out K2.out K3.out ?_)
    have h3 := setRow_heap w4 w.heap.size Z37E CZ 27 (0, 0) G4.out
    have t5 : Turn (fun i => i = w.heap.size) w4 (w4.setRow w.heap.size CZ) := (Turn.refl _ _).setRow _ _ (fun _ => rfl)
    refine bodyPost_ret (v := .tuple #[.agg CZ, .int .i64 (k : Int)]) ?_ rfl ⟨by rw [HRE.out, HRV.out, HCZ.out]; rfl, T4.out.trans t5 (fun i hi h => by omega)⟩
    exact results_en Tryz.results74 _ _ w.heap.size _ _ rfl rfl h3 HSZ.out
end
section
set_option linter.unusedVariables false
set_option linter.unusedSimpArgs false
open Go.RowKit
def fM : Nat → Nat | 0 => 3 | 1 => 63 | 2 => 0 | 3 => 4611686018427387904 | 4 => 63 | _ => 1099511627776
def fk (k : Nat) : Fd := ⟨if k = 2 then 2 else 0, fM k, none, 0, [], zeros 32⟩
def rr : Nat → List B8 → List B8 | 0, b => b | k + 1, b => sL (fk k) (rr k b)
def er (k : Nat) (b : List B8) : Nat := sE (fk k) (rr k b)
def nv (k : Nat) (b : List B8) : Nat := sN (fk k) (rr k b)
def vs : Nat → List B8 → List Nat | 0, _ => [] | k + 1, b => vs k b ++ [nv k b]
def dd (k : Nat) (b : List B8) : List B8 := if k ≤ 2 then zeros 32 else sD (fk 2) (rr 2 b)
theorem fM_lt (k : Nat) : fM k < 18446744073709551616 := by
  match k with
  | 0 => decide
  | 1 => decide
  | 2 => decide
  | 3 => decide
  | 4 => decide
  | n + 5 => show 1099511627776 < _; decide
theorem rr_le (k : Nat) (b : List B8) : (rr k b).length ≤ b.length := by
  induction k with
  | zero => exact Nat.le_refl _
  | succ k ih => exact Nat.le_trans (sL_le _ _) ih
theorem er_0 (b : List B8) : er 0 b = eNum 3 b := rfl
theorem er_1 (b : List B8) : er 1 b = eNum 63 (l1 b) := rfl
theorem er_2 (b : List B8) : er 2 b = if (l2 b).length < 32 then 2 else 0 := rfl
theorem er_3 (b : List B8) : er 3 b = eNum 4611686018427387904 (l3 b) := rfl
theorem er_4 (b : List B8) : er 4 b = eNum 63 (l4 b) := rfl
theorem er_5 (b : List B8) : er 5 b = eNum 1099511627776 (l5 b) := rfl
/-- The first error is the answer's. -/
theorem f6_first {k : Nat} {b : List B8} (hk : k < 6) (h0 : ∀ j, j < k → er j b = 0) (h : er k b ≠ 0) : f6 b = er k b := by
  have e0 := er_0 b
  have e1 := er_1 b
  have e2 := er_2 b
  have e3 := er_3 b
  have e4 := er_4 b
  have e5 := er_5 b
  have a0 : 0 < k → er 0 b = 0 := fun h => h0 0 h
  have a1 : 1 < k → er 1 b = 0 := fun h => h0 1 h
  have a2 : 2 < k → er 2 b = 0 := fun h => h0 2 h
  have a3 : 3 < k → er 3 b = 0 := fun h => h0 3 h
  have a4 : 4 < k → er 4 b = 0 := fun h => h0 4 h
  unfold f6 f5 f4 f3 f2 f1
  rw [← e0, ← e1, ← e2, ← e3, ← e4, ← e5]
  simp only [f_next]
  rcases (show k = 0 ∨ k = 1 ∨ k = 2 ∨ k = 3 ∨ k = 4 ∨ k = 5 by omega) with rfl | rfl | rfl | rfl | rfl | rfl <;> simp [a0, a1, a2, a3, a4, h]
theorem f6_none {b : List B8} (h0 : ∀ j, j < 6 → er j b = 0) : f6 b = 0 := by
  unfold f6 f5 f4 f3 f2 f1
  rw [← er_0, ← er_1, ← er_2, ← er_3, ← er_4, ← er_5]
  simp [h0 0 (by omega), h0 1 (by omega), h0 2 (by omega), h0 3 (by omega), h0 4 (by omega), h0 5 (by omega)]
theorem readE_first {k : Nat} {b : List B8} (hk : k < 6) (h0 : ∀ j, j < k → er j b = 0) (h : er k b ≠ 0) : readE b = er k b ∧ readV b = EZ := by
  have hf := f6_first hk h0 h
  have hx : xE b = er k b := by unfold xE; rw [if_pos (by rw [hf]; exact h), hf]
  have hr : readE b = er k b := by unfold readE; rw [if_pos (by rw [hx]; exact h), hx]
  exact ⟨hr, by unfold readV; rw [if_pos (by rw [hr]; exact h)]⟩
/-- Behind all fields: too many bytes, or a kind of 0, or an entry. -/
theorem readE_end {b : List B8} (h0 : ∀ j, j < 6 → er j b = 0) : (l6 b ≠ [] ∨ numV b = 0 → readE b = 3 ∧ readV b = EZ) ∧ (l6 b = [] → numV b ≠ 0 → readE b = 0 ∧ readV b = bodV b) := by
  have hf := f6_none h0
  have hb := f_bounds hf
  have hok : okB (bodV b) ↔ numV b ≠ 0 := by
    unfold okB bodV eN
    simp only
    omega
  constructor
  · intro h
    have hr : readE b = 3 := by
      unfold readE xE
      rw [hf]
      by_cases h1 : numV b = 0
      · have hno : ¬ okB (bodV b) := fun h => (hok.1 h) h1
        simp [hno]
      · have h2 : l6 b ≠ [] := h.elim id (fun h => absurd h h1)
        have hyes : okB (bodV b) := hok.2 h1
        simp [hyes, h2]
    exact ⟨hr, by unfold readV; rw [if_pos (by rw [hr]; decide)]⟩
  · intro h1 h2
    have hyes : okB (bodV b) := hok.2 h2
    have hr : readE b = 0 := by
      unfold readE xE
      rw [hf]
      simp [hyes, h1]
    exact ⟨hr, by unfold readV; rw [if_neg (by rw [hr]; decide)]⟩
end
end Go.Proofs.YthoaaieiiokcmaaGreatDoor
