/- The walk of the law ShaHex. -/
import Derived.Test.YtgkfkookhgkkaaaDoorShaEq
import Derived.Deep.MidRow
import Derived.Test.YtgkfkookhgkkaaaDoorCls
import Derived.Deep.Cut
namespace Go.Proofs.YtgkfkookhgkkaaaDoor
open Go.RowKit

theorem range_of_row {w : World} {b : Nat} {l : List Value} {t : TypeId} {fr : Nat × Nat} (hb : w.heap[b]? = some (.cells l.toArray t fr)) : w.rangeAt b 0 l := fun j v hv => by
  rw [Nat.zero_add, cell_of_row w b j _ _ _ hb, List.getElem?_toArray]; exact hv
theorem range_below {w w' : World} {b o : Nat} {l : List Value} {B : Nat} (h : w.rangeAt b o l) (hb : Below B w w') (hB : b < B) : w'.rangeAt b o l := fun j v hv => (hb.cell (p := ⟨b, o + j, none⟩) hB).trans (h j v hv)
theorem hexs_at (a : List B8) : ∀ (i : Nat) (x : B8), a[i]? = some x → (hexs a)[2 * i]? = some (hexd (x.toNat / 16)) ∧ (hexs a)[2 * i + 1]? = some (hexd (x.toNat % 16)) := by
  induction a with
  | nil => intro i x h; simp at h
  | cons y l ih =>
    intro i x h
    have e : hexs (y :: l) = hexd (y.toNat / 16) :: hexd (y.toNat % 16) :: hexs l := rfl
    cases i with
    | zero => simp at h; subst h; rw [e]; simp
    | succ i =>
      have := ih i x (by simpa using h)
      rw [e, show 2 * (i + 1) = 2 * i + 1 + 1 by omega]
      simpa using this
theorem str_at (a : List B8) (k n : Nat) (h : (hexs a)[k]? = some (hexd n)) (hn : n < 16) : ∃ z : Int, ((z = 48 + n ∧ n < 10) ∨ (z = 87 + n ∧ 10 ≤ n)) ∧ ∀ w, (Instr.index 9 (.string ⟨(hexs a).toArray⟩) (.int .i64 (k : Int))).run Tryd.prog w = .ok (.int .u8 z) w := by
  obtain ⟨hk, hv⟩ := List.getElem?_eq_some_iff.1 h
  have hsz : (⟨(hexs a).toArray⟩ : ByteArray).size = (hexs a).length := by simp [ByteArray.size]
  refine ⟨((hexd n).toNat : Int), ?_, fun w => ?_⟩
  · have hall : ∀ m : Fin 16, ((hexd m.val).toNat = 48 + m.val ∧ m.val < 10) ∨ ((hexd m.val).toNat = 87 + m.val ∧ 10 ≤ m.val) := by decide
    have := hall ⟨n, hn⟩
    simp only at this
    omega
  · rw [run_index_string (P := Tryd.prog) w 9 _ .i64 (k : Int) Tryd.underlying9, dif_pos ⟨by omega, by omega⟩]
    congr 2
    show (((hexs a).toArray[(k : Int).toNat]'(by simpa using hk)).toNat : Int) = _
    simp only [Int.toNat_natCast, List.getElem_toArray, hv]
def vkN (x k : Nat) : Nat := if k = 0 then 0 else if k = 1 then x / 16 else x
def HexS (b0 : Nat) (LA LB : List Value) (w1 w' : World) : Prop := w'.rangeAt b0 0 LA ∧ w'.rangeAt (b0 + 1) 0 LB ∧ Below w1.heap.size w1 w'
theorem hexS_start {w1 : World} {b0 : Nat} {LA LB : List Value} (ra : w1.rangeAt b0 0 LA) (rb : w1.rangeAt (b0 + 1) 0 LB) : w1.drew.rangeAt b0 0 LA ∧ w1.drew.rangeAt (b0 + 1) 0 LB ∧ Below w1.heap.size w1 w1.drew :=
  ⟨ra, rb, (Below.refl _ _).drew⟩
theorem hexS_call {w1 w w' : World} {b0 : Nat} {LA LB : List Value} (h : w.rangeAt b0 0 LA ∧ w.rangeAt (b0 + 1) 0 LB ∧ Below w1.heap.size w1 w) (hl : b0 + 1 < w1.heap.size) (hb : Below w.heap.size w w') :
    w'.rangeAt b0 0 LA ∧ w'.rangeAt (b0 + 1) 0 LB ∧ Below w1.heap.size w1 w' :=
  ⟨range_below h.1 hb (by have := h.2.2.size; omega), range_below h.2.1 hb (by have := h.2.2.size; omega), h.2.2.trans (hb.mono h.2.2.size)⟩
set_option maxRecDepth 100000 in
set_option maxHeartbeats 4000000 in
theorem lawhex_any (a b : List B8) (at' : Nat) (w : World) (ha : a.length = 32) (hb : b.length = 32) (hat : at' < 256) (hG : Glob w) :
    Calls Tryd.prog 5 #[.agg (a.map bv).toArray, .agg (b.map bv).toArray, .int .u8 (at' : Int)] w fun e w' => e = .returned (.bool true) ∧ Below w.heap.size w w' := by
  have HG := Lib.hid hG
  have Ha := Lib.hid ha
  have Hb := Lib.hid hb
  obtain ⟨LA, hLA⟩ : ∃ L, L = a.map bv := ⟨_, rfl⟩
  obtain ⟨LB, hLB⟩ : ∃ L, L = b.map bv := ⟨_, rfl⟩
  have hex := fun w => hex_any a w ha
  have sab := fun w => same_any a b w ha hb
  have saa := fun w => same_any a a w ha ha
  have eqab := eq_id a b ha hb
  rw [← hLA] at hex sab saa eqab ⊢
  rw [← hLB] at sab eqab ⊢
  have E1 := Lib.hid hex
  have E2 := Lib.hid sab
  have E3 := Lib.hid saa
  have hlA : LA.length = 32 := by rw [hLA]; simp [ha]
  have hlB : LB.length = 32 := by rw [hLB]; simp [hb]
  have HLA := Lib.hid hLA
  have H1 := Lib.hid (show (Tryd.prog.info? 26).map (·.size) = some LA.toArray.size by rw [List.size_toArray, hlA]; kernel_rfl)
  have hS : (⟨(hexs a).toArray⟩ : ByteArray).size = 64 := by
    have : (hexs a).length = 64 := by
      have hx : ∀ l : List B8, (hexs l).length = 2 * l.length := fun l => by
        induction l with
        | nil => rfl
        | cons x l ih => simp [hexs] at ih ⊢; omega
      rw [hx, ha]
    simpa [ByteArray.size] using this
  obtain ⟨S, hSS⟩ : ∃ S : ByteArray, S = ⟨(hexs a).toArray⟩ := ⟨_, rfl⟩
  have EQ := Lib.hid eqab
  rw [← hSS] at hS
  have e1 := E1.out
  rw [← hSS] at e1
  have EX := Lib.hid e1
  have HSS := Lib.hid hSS
  have HS := Lib.hid hS
  clear hG ha hb hex sab saa eqab hLA hLB E1 e1 hSS hS
  go_enter Tryd.func5, Tryd.ntmps5
  go_wp2_with (refine wpList_load_row rfl _ _ rfl w.heap.size rfl _ LA.toArray (0, 0) _ (heap_alloc2_old w _ _) Tryd.underlying26 rfl H1.out ?_)
  refine (EX.out _).mono ?_
  rintro e w1 ⟨rfl, hb1⟩
  have rA := range_below (range_of_row (heap_alloc2_old w (.cells LA.toArray 26) (.cells LB.toArray 26))) hb1 (by simp; omega)
  have rB := range_below (range_of_row (heap_alloc2_new w (.cells LA.toArray 26) (.cells LB.toArray 26))) hb1 (by simp)
  have hb2 := ((((Below.refl w.heap.size w).alloc (Nat.le_refl _) (.cells LA.toArray 26)).alloc (by simp) (.cells LB.toArray 26)).trans (hb1.mono (by simp; omega)))
  have hl1 : w.heap.size + 1 < w1.heap.size := by have := hb1.size; simp at this; omega
  have HB := Lib.hid hb2
  have HRA := Lib.hid rA
  have HRB := Lib.hid rB
  clear hb1 hb2 rA rB EX
  generalize hb0 : w.heap.size = b0 at *
  have HB0 := Lib.hid hb0
  clear hb0
  have hlt0 : b0 < w1.heap.size := by omega
  go_wp2_with fail
  have hs64 : S.size = 64 := HS.out
  have eqab := EQ.out
  have hi1 : (Tryd.prog.info? 26).map (·.size) = some LA.length := by rw [hlA]; kernel_rfl
  have hi2 : (Tryd.prog.info? 26).map (·.size) = some LB.length := by rw [hlB]; kernel_rfl
  have hu := Tryd.underlying26
  have ra : w1.rangeAt b0 0 LA := HRA.out
  have rb : w1.rangeAt (b0 + 1) 0 LB := HRB.out
  refine wp_region_cls (HexS b0 LA LB w1) (by kernel_rfl) (by kernel_rfl) (hexS_start HRA.out HRB.out) ?_
  repeat (first
    | go_big_quiet_skip
    | (go_big_quiet_want
       first
         | (refine cls_load _ _ rfl b0 0 rfl LA _ (fun w h => h.1) hu rfl hi1 ?_; (simp only [Act.put, List.setIfInBounds_toArray, List.set_cons_zero, List.set_cons_succ]); go_big_quiet_on)
         | (refine cls_load _ _ rfl (b0 + 1) 0 rfl LB _ (fun w h => h.2.1) hu rfl hi2 ?_; (simp only [Act.put, List.setIfInBounds_toArray, List.set_cons_zero, List.set_cons_succ]); go_big_quiet_on)
         | (go_big_quiet_op
            first
              | go_big_quiet_on
              | (refine ⟨_, fun _ _ => rfl, ?_⟩; go_big_quiet_on)
              | (apply Exists.intro
                 refine ⟨fun w hw => ?_, ?_⟩
                 · first
                     | ((with_reducible refine (E2.out _).mono ?_); rintro e w' ⟨rfl, hbn⟩; exact ⟨rfl, hexS_call hw hl1 hbn⟩)
                     | ((with_reducible refine (E3.out _).mono ?_); rintro e w' ⟨rfl, hbn⟩; exact ⟨rfl, hexS_call hw hl1 hbn⟩)
                 go_big_quiet_on))))
  refine wpQuiet_nil ?_
  intro w2 hw2
  have HW := Lib.hid hw2
  have HR := Lib.hid hw2.1
  clear hw2 eqab hi1 hi2 hu ra rb hs64 EQ E2 E3 HRA HRB
  go_wp2_with fail
  go_loop [8, 9, 10, 11, 12] (fun i _ _ _ _ => ∃ k : Nat, k ≤ 32 ∧ i = .int .i64 k) (fun i _ _ _ _ => 32 - (intOf i).toNat)
  case atStart => exact ⟨0, by omega, rfl⟩
  case round =>
    obtain ⟨i, hi, rfl⟩ := hrel
    by_cases hlt : i < 32
    · obtain ⟨x, hx⟩ : ∃ x, a[i]? = some x := ⟨_, List.getElem?_eq_getElem (by rw [Ha.out]; exact hlt)⟩
      have hxc : w2.cell? ⟨b0, i, none⟩ = some (.int .u8 (x.toNat : Int)) := by
        have := HR.out i (bv x) (by rw [HLA.out, List.getElem?_map, hx]; rfl)
        simpa [bv] using this
      have hx2 := hexs_at a i x hx
      obtain ⟨z0, hz0, s0⟩ := str_at a (2 * i) (x.toNat / 16) hx2.1 (by have := x.isLt; omega)
      obtain ⟨z1, hz1, s1⟩ := str_at a (2 * i + 1) (x.toNat % 16) hx2.2 (by omega)
      rw [← HSS.out] at s0 s1
      have S0 := Lib.hid (show ∀ w, (Instr.index 9 (.string S) (.int .i64 ((2 : Int) * (i : Int)))).run Tryd.prog w = .ok (.int .u8 z0) w from s0)
      have S1 := Lib.hid (show ∀ w, (Instr.index 9 (.string S) (.int .i64 ((2 : Int) * (i : Int) + 1))).run Tryd.prog w = .ok (.int .u8 z1) w from s1)
      have hxl := x.isLt
      clear hx hx2 s0 s1
      generalize x.toNat = xn at *
      clear x
      go_wp2_with fail
      go_loop [9, 10, 11, 12] (fun vv k _ _ => ∃ kk : Nat, kk ≤ 2 ∧ k = .int .i64 (kk : Int) ∧ vv = .int .i64 (vkN xn kk : Int)) (fun _ k _ _ => 2 - (intOf k).toNat)
      case atStart => exact ⟨0, by omega, rfl, rfl⟩
      case round =>
        obtain ⟨kk, hkk, rfl, rfl⟩ := hrel
        have hk3 : kk = 0 ∨ kk = 1 ∨ kk = 2 := by omega
        rcases hk3 with rfl | rfl | rfl
        · rw [show vkN xn 0 = 0 from rfl]
          have s0 := S0.out
          rcases hz0 with ⟨e, h⟩ | ⟨e, h⟩
          · have hz := Lib.hid e
            have b1 : 48 ≤ z0 := by omega
            have b2 : z0 ≤ 57 := by omega
            clear e
            go_wp2_with fail
            go_round
            case rel => exact ⟨1, by omega, rfl, by rw [show vkN xn 1 = xn / 16 from rfl]; have := hz.out; go_num⟩
            case measure => simp [intOf]
          · have hz := Lib.hid e
            have b1 : 97 ≤ z0 := by omega
            have b2 : z0 ≤ 102 := by omega
            clear e
            go_wp2_with fail
            go_round
            case rel => exact ⟨1, by omega, rfl, by rw [show vkN xn 1 = xn / 16 from rfl]; have := hz.out; go_num⟩
            case measure => simp [intOf]
        · rw [show vkN xn 1 = xn / 16 from rfl]
          have s1 := S1.out
          obtain ⟨p, hp⟩ : ∃ p, p = xn / 16 := ⟨_, rfl⟩
          have HP := Lib.hid hp
          have hp16 : p < 16 := by omega
          rw [← hp]
          clear hp
          rcases hz1 with ⟨e, h⟩ | ⟨e, h⟩
          · have hz := Lib.hid e
            have b1 : 48 ≤ z1 := by omega
            have b2 : z1 ≤ 57 := by omega
            clear e
            go_wp2_with fail
            go_round
            case rel => exact ⟨2, by omega, rfl, by rw [show vkN xn 2 = xn from rfl]; have := hz.out; have := HP.out; go_num⟩
            case measure => simp [intOf]
          · have hz := Lib.hid e
            have b1 : 97 ≤ z1 := by omega
            have b2 : z1 ≤ 102 := by omega
            clear e
            go_wp2_with fail
            go_round
            case rel => exact ⟨2, by omega, rfl, by rw [show vkN xn 2 = xn from rfl]; have := hz.out; have := HP.out; go_num⟩
            case measure => simp [intOf]
        · rw [show vkN xn 2 = xn from rfl]
          go_wp2_with fail
          go_round
          case rel => exact ⟨i + 1, by omega, by go_num⟩
          case measure => simp [intOf]; omega
    · obtain ⟨m, hm⟩ : ∃ m, m = at' % 32 := ⟨_, rfl⟩
      have hm1 : ((at' : Int) % 32) = (m : Int) := by omega
      have hm2 : m < 32 := by omega
      obtain ⟨y, hy⟩ : ∃ y, y = a.getD m 0 := ⟨_, rfl⟩
      have hya : a[m]? = some y := by rw [hy, List.getD_eq_getElem?_getD, List.getElem?_eq_getElem (by rw [Ha.out]; exact hm2)]; rfl
      have hcm : LA.toArray[m]? = some (.int .u8 (y.toNat : Int)) := by rw [List.getElem?_toArray, HLA.out, List.getElem?_map, hya]; rfl
      have hset : LA.set m (.int .u8 (bits .xor .u8 (y.toNat : Int) 1)) = (a.set m (y ^^^ 1)).map bv := by
        rw [show bits .xor .u8 (y.toNat : Int) 1 = ((y ^^^ 1).toNat : Int) from (bbits y 1).2.2, HLA.out, List.map_set]; rfl
      have hne : a ≠ a.set m (y ^^^ 1) := by
        intro he
        have h1 := congrArg (fun l => l[m]?) he
        simp only [hya, List.getElem?_set, if_true] at h1
        rw [if_pos (by rw [Ha.out]; exact hm2)] at h1
        have h2 := Option.some.inj h1
        have h3 : (1 : B8) = 0 := by
          have := congrArg (fun z => y ^^^ z) h2
          simpa [← BitVec.xor_assoc] using this.symm
        exact absurd h3 (by decide)
      have e4 := fun w => same_any a (a.set m (y ^^^ 1)) w Ha.out (by simp [Ha.out])
      rw [← HLA.out] at e4
      have E4 := Lib.hid e4
      clear e4
      have hlm : m < LA.length := by omega
      have hgm : LA[m] = .int .u8 (y.toNat : Int) := by
        have := hcm
        rw [List.getElem?_toArray, List.getElem?_eq_getElem hlm] at this
        exact Option.some.inj this
      have HSZ := Lib.hid (fun u => show (Tryd.prog.info? 26).map (·.size) = some (LA.toArray.setIfInBounds m u).size by rw [Array.size_setIfInBounds]; exact H1.out)
      have HAW := Lib.hid (fun w => awake_any w)
      have HNE := Lib.hid hne
      have HSET := Lib.hid hset
      have hl32 : (Tryd.prog.info? 26).map (·.size) = some LA.length := by rw [hlA]; kernel_rfl
      have H32 := Lib.hid hl32
      have H1L := Lib.hid (show LA.toArray.all (·.oneCell') = true by rw [HLA.out]; exact bvs_one a)
      have H32' := Lib.hid (show 32 = LA.toArray.size by rw [List.size_toArray, hlA])
      clear hm hy hya hne hset hl32
      have HRN := Lib.hid (fun o => World.rangeAt_alloc HR.out o)
      go_upto_region 21 with (first
        | (refine wpList_load_mid (op := ⟨some 76, _, _, _, _, _⟩) rfl _ _ rfl b0 0 rfl LA _ HR.out Tryd.underlying26 rfl H32.out ?_)
        | (refine wpList_store_row rfl _ _ _ rfl w2.heap.size LA.toArray rfl rfl 26 _ (heap_alloc_new w2 _) H1.out H32'.out H1L.out ?_; rw [World.setRow_alloc_new]))
      go_upto_region 22 with fail
      rw [HSET.out]
      obtain ⟨LC, hLC⟩ : ∃ L, L = (a.set m (y ^^^ 1)).map bv := ⟨_, rfl⟩
      have e5 := E4.out
      rw [← hLC] at e5 ⊢
      have E5 := Lib.hid e5
      have hlC : LC.length = 32 := by rw [hLC]; simp [Ha.out]
      have H1C := Lib.hid (show (Tryd.prog.info? 26).map (·.size) = some LC.toArray.size by rw [List.size_toArray, hlC]; kernel_rfl)
      have HBW := HW.out.2.2
      have hsz2 : w1.heap.size ≤ w2.heap.size := HBW.size
      have hbr : Below w.heap.size w w1 := by rw [HB0.out]; exact HB.out
      have hbs := hbr.size
      have HB3 := Lib.hid ((hbr.trans (HBW.mono hbs)).alloc (B := w.heap.size) (by omega) (.cells LC.toArray 26))
      clear e5 hLC hcm hgm HBW hbr hbs
      have hdf : decide (a = a.set m (y ^^^ 1)) = false := by simpa using HNE.out
      have HDF := Lib.hid hdf
      clear hdf
      go_wp2_with (first
        | (refine wpList_load_mid (op := ⟨some 87, _, _, _, _, _⟩) rfl _ _ rfl b0 0 rfl LA _ (HRN.out _) Tryd.underlying26 rfl H32.out ?_)
        | (refine wpList_load_row (o := ⟨some 88, _, _, _, _, _⟩) rfl _ _ rfl w2.heap.size rfl _ LC.toArray (0, 0) _ (heap_alloc_new w2 _) Tryd.underlying26 rfl H1C.out ?_)
        | (go_at_call 15; ((with_reducible refine (E5.out _).mono ?_); rintro e w3 ⟨rfl, hb3⟩; have hb3 := Lib.hid hb3; rw [HDF.out]))
        | (go_at_call 8; refine (awake_any _ (HG.out.below (HB3.out.trans (hb3.out.mono HB3.out.size)) HG.out.1)).mono ?_; rintro e w4 ⟨rfl, hb4⟩))
      go_ret
      exact ⟨rfl, (HB3.out.trans (hb3.out.mono HB3.out.size)).trans (hb4.mono (by have h1 := HB3.out.size; have h2 := hb3.out.size; omega))⟩
end Go.Proofs.YtgkfkookhgkkaaaDoor
