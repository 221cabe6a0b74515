/- The document's reader: the loop of outputs. -/
import Derived.Test.YteaoaabjdgdcmaaTxE7
set_option linter.unusedVariables false
set_option linter.unusedSimpArgs false
namespace Go.Proofs.Yteaoaabjdgdcmaa
open Go.RowKit
set_option maxRecDepth 100000 in
set_option maxHeartbeats 8000000 in
theorem eread_outs (W n e1 K1 : Nat) (V : Value) (ps : List Pin) (l1 : List B8) (w w1 : World) (Q0 : Exit → Act → World → Prop) (c0 c1 c2 c3 c7 c8 c10 c11 c12 c13 c14 c15 c16 c17 c18 c19 c20 c21 c22 c23 c24 c25 c26 c27 c28 c29 c30 c31 c32 c33 c34 c35 c36 c37 c38 c39 c40 c41 c42 c43 c44 c45 c46 c47 c48 c49 c50 c51 c52 c53 c54 c55 c56 c57 c58 c59 c60 c61 c62 c63 c64 c65 c66 c67 c68 c69 c70 c71 c72 c73 c74 c75 c76 c77 c78 c79 c80 c81 c82 c83 c84 c85 c86 c87 c88 c89 c90 c91 c92 c93 c94 c95 c96 c97 c98 c99 c100 c101 c102 c103 c104 c105 c106 c107 c108 c109 c110 c111 c112 c113 c114 c115 c116 c117 c118 c119 c120 : Value)
    (hn16 : n ≤ 16) (hW : W = w.heap.size) (hR1 : RSt W (W + 3) w w1 e1 l1 V K1 ps (.slice none 0 0) 0 [] 0 0) (hS1 : W + 3 ≤ w1.heap.size)
    (hexit : ∀ (u9 u10 u52 u53 u54 u55 u56 u57 u58 u59 u60 u61 u62 u63 u64 u65 u66 u67 u68 u69 u70 u71 u72 u73 u74 u75 u76 : Value) (k : Nat) (Av : Option Addr) (cv : Nat) (w' : World), k ≤ 16 → RSt W w1.heap.size w w' (if e1 ≠ 0 then e1 else ousE n l1) (ousR n l1) V K1 ps (.slice Av k cv) k (ousV n l1) 0 0 → W + 3 ≤ w'.heap.size → Q0 (.exit 2) { tmps := List.toArray (c0 :: c1 :: c2 :: c3 :: (.pointer (some ⟨W + 1, 0, none⟩)) :: (.pointer (some ⟨W + 2, 0, none⟩)) :: (.int .u64 (n : Int)) :: c7 :: c8 :: u9 :: u10 :: c11 :: c12 :: c13 :: c14 :: c15 :: c16 :: c17 :: c18 :: c19 :: c20 :: c21 :: c22 :: c23 :: c24 :: c25 :: c26 :: c27 :: c28 :: c29 :: c30 :: c31 :: c32 :: c33 :: c34 :: c35 :: c36 :: c37 :: c38 :: c39 :: c40 :: c41 :: c42 :: c43 :: c44 :: c45 :: c46 :: c47 :: c48 :: c49 :: c50 :: c51 :: u52 :: u53 :: u54 :: u55 :: u56 :: u57 :: u58 :: u59 :: u60 :: u61 :: u62 :: u63 :: u64 :: u65 :: u66 :: u67 :: u68 :: u69 :: u70 :: u71 :: u72 :: u73 :: u74 :: u75 :: u76 :: c77 :: c78 :: c79 :: c80 :: c81 :: c82 :: c83 :: c84 :: c85 :: c86 :: c87 :: c88 :: c89 :: c90 :: c91 :: c92 :: c93 :: c94 :: c95 :: c96 :: c97 :: c98 :: c99 :: c100 :: c101 :: c102 :: c103 :: c104 :: c105 :: c106 :: c107 :: c108 :: c109 :: c110 :: c111 :: c112 :: c113 :: c114 :: c115 :: c116 :: c117 :: c118 :: c119 :: c120 :: []), defers := [] } w') :
    Code.wp Try.prog (Code.loop (readLoop 1)) Q0 { tmps := List.toArray (c0 :: c1 :: c2 :: c3 :: (.pointer (some ⟨W + 1, 0, none⟩)) :: (.pointer (some ⟨W + 2, 0, none⟩)) :: (.int .u64 (n : Int)) :: c7 :: c8 :: (.int .i64 0) :: c10 :: c11 :: c12 :: c13 :: c14 :: c15 :: c16 :: c17 :: c18 :: c19 :: c20 :: c21 :: c22 :: c23 :: c24 :: c25 :: c26 :: c27 :: c28 :: c29 :: c30 :: c31 :: c32 :: c33 :: c34 :: c35 :: c36 :: c37 :: c38 :: c39 :: c40 :: c41 :: c42 :: c43 :: c44 :: c45 :: c46 :: c47 :: c48 :: c49 :: c50 :: c51 :: c52 :: c53 :: c54 :: c55 :: c56 :: c57 :: c58 :: c59 :: c60 :: c61 :: c62 :: c63 :: c64 :: c65 :: c66 :: c67 :: c68 :: c69 :: c70 :: c71 :: c72 :: c73 :: c74 :: c75 :: c76 :: c77 :: c78 :: c79 :: c80 :: c81 :: c82 :: c83 :: c84 :: c85 :: c86 :: c87 :: c88 :: c89 :: c90 :: c91 :: c92 :: c93 :: c94 :: c95 :: c96 :: c97 :: c98 :: c99 :: c100 :: c101 :: c102 :: c103 :: c104 :: c105 :: c106 :: c107 :: c108 :: c109 :: c110 :: c111 :: c112 :: c113 :: c114 :: c115 :: c116 :: c117 :: c118 :: c119 :: c120 :: []), defers := [] } w1 := by
  have R1 := Lib.hid (hR1.base w1.heap.size)
  obtain ⟨Bu, hBu⟩ : ∃ Bu, Bu = w1.heap.size := ⟨_, rfl⟩
  rw [← hBu] at R1 hexit hS1
  have hVB : ∀ i, V.ownBlock = some i → i < Bu := fun i hi => by
    obtain ⟨cs, h1, -⟩ := hR1.v
    rw [hBu]; exact (h1.lt i hi).2
  have HVB := Lib.hid hVB
  have hS0 : Bu ≤ w1.heap.size := by omega
  have HX := Lib.hid hexit
  have HW := Lib.hid hW
  have HS1 := Lib.hid (And.intro hS1 hS0)
  have hBW : W + 3 ≤ Bu := hS1
  clear hR1 hexit hW hS1 hS0 hVB hBu
  conv => arg 2; arg 1; whnf
  go_loopw [9, 10] (fun i x wr => ∃ k Av cv, k ≤ n ∧ i = .int .i64 k ∧ RSt W Bu w wr (if e1 ≠ 0 then e1 else ousE k l1) (ousR k l1) V K1 ps (.slice Av k cv) k (ousV k l1) 0 0 ∧ Bu ≤ wr.heap.size) (fun i _ _ => n - (intOf i).toNat)
  case atStart =>
    refine ⟨0, none, 0, Nat.zero_le _, rfl, ?_, HS1.out.2⟩
    rw [show (if e1 ≠ 0 then e1 else ousE 0 l1) = e1 by split <;> simp_all [ousE]]
    exact R1.out
  case round =>
    obtain ⟨k, Av, cv, hk, rfl, hR, hszB⟩ := hrel
    have hsz : W + 3 ≤ wr.heap.size := by omega
    by_cases hgo : k < n ∧ (if e1 ≠ 0 then e1 else ousE k l1) = 0
    · obtain ⟨hlt, hek⟩ := hgo
      have he10 : e1 = 0 := by
        by_cases h : e1 = 0
        · exact h
        · rw [if_pos h] at hek; exact hek
      have hik : ousE k l1 = 0 := by rw [if_neg (by omega)] at hek; exact hek
      rw [hek] at hR
      obtain ⟨lk, hlk⟩ : ∃ lk, lk = ousR k l1 := ⟨_, rfl⟩
      rw [← hlk] at hR
      have HRS := Lib.hid (show ousR (k + 1) l1 = ouR lk by rw [hlk]; rfl)
      have HVS := Lib.hid (show ousV (k + 1) l1 = ousV k l1 ++ [ouV lk] by rw [hlk]; rfl)
      have HES := Lib.hid (show (if e1 ≠ 0 then e1 else ousE (k + 1) l1) = uE2 lk by rw [if_neg (by omega), ousE, if_neg (by omega), ← hlk, uE2_eq])
      have HVL := Lib.hid (ousV_len k l1)
      obtain ⟨Ay, cy, ny, hyr, hyl⟩ := hR.y
      have hll := (hyl rfl).2.2
      obtain ⟨⟨c0, c1⟩, z0, z1⟩ := ys_row hyr
      obtain ⟨okp, hd32⟩ := uP_ok lk
      have hWy : W ≤ W + 1 := by omega
      have HNN := Lib.hid (fun (w' : World) (h : W + 3 ≤ w'.heap.size) (i : Nat) (hi : w'.heap.size ≤ i) => show W ≤ i by omega)
      have T2 := eid_any (fun i => W ≤ i) (W + 1) 0 lk wr hR.y hWy (HNN.out wr hsz)
      obtain ⟨L, hL⟩ : ∃ L, L = (dV (uE1 lk) lk).map bv := ⟨_, rfl⟩
      change Calls _ _ _ _ (fun r w' => r = .returned (.agg ((dV (uE1 lk) lk).map bv).toArray) ∧ _ ∧ _) at T2
      rw [← hL] at T2
      have hL32 : L.length = 32 := by rw [hL, List.length_map]; exact hd32
      obtain ⟨D, hD⟩ : ∃ D, D = L.toArray := ⟨_, rfl⟩
      rw [← hD] at T2
      obtain ⟨DI, hDI⟩ : ∃ DI, DI = (L ++ [Value.int .u64 0]).toArray := ⟨_, rfl⟩
      have BI := Lib.hid (show Try.prog.built 43 [(0, .agg D)] = some DI by rw [hD, hDI]; exact built_ou L hL32)
      have sDI : DI.size = 33 := by rw [hDI]; simp [hL32]
      have J1 := Lib.hid (show (Try.prog.info? 43).map (·.size) = some DI.size by rw [sDI]; exact ou_info)
      obtain ⟨ZI, hZI⟩ : ∃ ZI, ZI = ZOu5 := ⟨_, rfl⟩
      have hzi : ∀ w, (zeroValue 43).run Try.prog w = .ok (.agg ZI) w := fun w => by rw [hZI]; exact ou_zero w
      have J2 := Lib.hid (show ZI.size = DI.size by rw [sDI, hZI]; rfl)
      have J3 := Lib.hid (show DI.all (·.oneCell') = true by
        rw [hDI, Array.all_eq_true_iff_forall_mem]
        intro u hu
        simp only [List.mem_toArray, List.mem_append, List.mem_cons, List.not_mem_nil, or_false, hL, List.mem_map] at hu
        rcases hu with ⟨x, -, rfl⟩ | rfl <;> rfl)
      have T2 := Lib.hid T2
      have HR := Lib.hid hR
      have HDI := Lib.hid (And.intro hDI (And.intro hL hL32))
      have HOK := Lib.hid (And.intro okp hd32)
      have HEK := Lib.hid (And.intro hek (And.intro he10 (And.intro hik hlk)))
      have hk2 : decide ((k : Int) < (n : Int)) = true := by rw [decide_eq_true_eq]; omega
      clear hR hek he10 hik hlk hyr hyl okp hd32 hL hL32 hD hDI sDI hZI
      go_wp2_with fail
      refine T2.out.mono ?_
      rintro r w2 ⟨rfl, hy2, t2⟩
      have hsz2 : W + 3 ≤ w2.heap.size := by have := t2.size; omega
      have HAI := Lib.hid (show (w2.alloc (.cells ZI 43)).heap[w2.heap.size]? = some (.cells ZI 43 (0, 0)) from heap_alloc_new _ _)
      have HY2 := Lib.hid hy2
      have HT2 := Lib.hid t2
      clear hy2 t2 T2
      go_wp2_with (first
        | (refine wpList_build_eq (o := ⟨some 67, _, _, _, _, _⟩) rfl 43 #[(0, .tmp 66)] rfl DI BI.out ?_)
        | (refine wpList_store_row rfl _ _ _ rfl w2.heap.size DI rfl rfl 43 ZI HAI.out J1.out J2.out J3.out ?_; refine stop ?_))
      unfold Stop
      obtain ⟨w3, hw3⟩ : ∃ w3, w3 = (w2.alloc (.cells ZI 43)).setRow w2.heap.size DI := ⟨_, rfl⟩
      have t3 : Turn (fun _ => False) w2 w3 := by rw [hw3]; exact ((Turn.refl _ _).alloc _).setRow _ _ (fun h => by omega)
      have g3 : w3.heap[w2.heap.size]? = some (.cells DI 43 (0, 0)) := by rw [hw3]; exact setRow_heap _ _ _ _ _ _ HAI.out
      rw [← hw3]
      clear hw3 HAI J1 J2 BI hzi
      have hsg : wr.heap.size ≤ w2.heap.size := HT2.out.size
      obtain ⟨g, hg⟩ : ∃ g, g = w2.heap.size := ⟨_, rfl⟩
      rw [← hg] at g3 hsz2 hsg ⊢
      clear hg
      have HT3 := Lib.hid (show Turn (fun i => i = W + 1 ∨ i = g) wr w3 from (HT2.out.mono (fun _ _ h => .inl h)).trans t3 (fun _ _ h => h.elim))
      have hY3 := HY2.out.turn (N' := fun i => W ≤ i) t3 (fun h => h) (fun _ h => h.elim) (fun _ _ h => h)
      have hs3 : W + 3 ≤ w3.heap.size := by have := lt_of_block g3; omega
      have T6 := enum_any (fun i => W ≤ i) (W + 1) (uE1 lk) 18446744073709551615 (lk.drop 32) w3 hY3 hWy (HNN.out w3 hs3) (by decide)
      change Calls _ _ _ _ (fun r w' => r = .returned (.int .u64 (((if uE2 lk ≠ 0 then 0 else numV (lk.drop 32)) : Nat) : Int)) ∧ YS w' _ _ (uE2 lk) (ouR lk) ∧ _) at T6
      obtain ⟨a, ha⟩ : ∃ a, a = (if uE2 lk ≠ 0 then 0 else numV (lk.drop 32)) := ⟨_, rfl⟩
      rw [← ha] at T6
      have ha64 : a < 18446744073709551616 := by have := HOK.out.1.n; rw [ha]; exact this
      have HA := Lib.hid ha
      have G3 := Lib.hid g3
      have T6 := Lib.hid T6
      clear hY3 t3 g3 ha c0 c1 z0 z1
      go_wp2_with fail
      refine T6.out.mono ?_
      rintro r w6 ⟨rfl, hy6, t6⟩
      have g6 := t6.heap G3.out (by omega)
      rw [HDI.out.1] at g6
      have G6 := Lib.hid g6
      have HY6 := Lib.hid hy6
      have HT6 := Lib.hid (show Turn (fun i => i = W + 1 ∨ i = g) wr w6 from HT3.out.trans t6 (fun _ _ h => .inl h))
      obtain ⟨p0, q0⟩ := row33 g6 HDI.out.2.2
      clear hy6 t6 g6 T6
      go_upto_region 18 with fail
      obtain ⟨w9, hw9⟩ : ∃ w9, w9 = w6.setCell ⟨g, 32, none⟩ (.int .u64 (a : Int)) := ⟨_, rfl⟩
      have t9 : Turn (fun i => i = g) w6 w9 := by rw [hw9]; exact set_turn _ _ _ _
      have g9 : w9.heap[g]? = some (.cells (L ++ [Value.int .u64 (a : Int)]).toArray 43 (0, 0)) := by rw [hw9]; exact row33_set G6.out HDI.out.2.2
      rw [← hw9]
      clear hw9 p0 q0
      have hcl : (uP lk).cells = L ++ [Value.int .u64 (a : Int)] := by
        rw [HDI.out.2.1, HA.out]; rfl
      rw [← hcl] at g9
      have hlen33 : ((uP lk).cells).length = 33 := (uP lk).len HOK.out.2
      obtain ⟨GA, hGA⟩ : ∃ GA, GA = ((uP lk).cells).toArray := ⟨_, rfl⟩
      rw [← hGA] at g9
      have K1 := Lib.hid (show (Try.prog.info? 43).map (·.size) = some GA.size by rw [hGA, List.size_toArray, hlen33]; exact ou_info)
      have HGA := Lib.hid (And.intro hGA hlen33)
      have HT9 := Lib.hid (show Turn (fun i => i = W + 1 ∨ i = g) wr w9 from HT6.out.trans t9 (fun _ _ h => .inr h))
      have HY9 := Lib.hid (HY6.out.turn (N' := fun i => W ≤ i) t9 (by omega) (fun i h => by show W ≤ i; omega) (fun _ _ h => h))
      obtain ⟨cs, ho, hcs, hrow⟩ := HR.out.u
      obtain ⟨us, huo, hus, hurow⟩ := HR.out.v
      obtain ⟨hkl, hrow⟩ := hrow rfl
      obtain ⟨hkp, hurow⟩ := hurow rfl
      have ht9 := HT9.out.heap HR.out.t (by omega)
      obtain ⟨⟨-, c1, -⟩, -⟩ := row4 ht9
      have HO9 := Lib.hid (own_turn ho HT9.out (fun i h => by omega))
      have HU9 := Lib.hid (own_turn huo HT9.out (fun i h => by omega))
      have HROW9 := Lib.hid hrow
      have HUROW9 := Lib.hid (hurow.turn HT9.out (fun i h => by show W ≤ i; omega))
      have HTR9 := Lib.hid ht9
      have HGR9 := Lib.hid (HT9.out.heap HR.out.r (by omega))
      have HN9 := Lib.hid (HR.out.n.trans HT9.out (fun i hi h => by have := HW.out; omega))
      have HCS := Lib.hid (And.intro hcs (And.intro hkl (And.intro hus hkp)))
      have G9 := Lib.hid g9
      have hs9 : W + 3 ≤ w9.heap.size := by have := lt_of_block g9; omega
      obtain ⟨j0, hj, hy0, hy1, hy2⟩ := info_parts info_ou5
      have HJ := Lib.hid (And.intro hj (And.intro hy0 (And.intro hy1 hy2)))
      clear hcl hlen33 hGA t9 g9 ho hcs hrow huo hus hurow hkl hkp ht9 hj hy0 hy1 hy2
      obtain ⟨v, hv⟩ : ∃ v, v = Value.slice Av k cv := ⟨_, rfl⟩
      rw [← hv] at c1 HO9
      have HV := Lib.hid hv
      clear hv
      go_step
      iterate 6 go_step
      refine wpList_load_row (o := ⟨some 73, _, _, _, _, _⟩) rfl _ _ rfl g rfl _ GA (0, 0) _ G9.out Try.underlying43 rfl K1.out ?_
      refine wpList_build_ou (o := ⟨some 74, _, _, _, _, _⟩) rfl ((uP lk).cells) HGA.out.2 GA HGA.out.1 #[(0, .tmp 73)] rfl rfl ?_
      obtain ⟨w10, hw10⟩ : ∃ w10, w10 = w9.alloc (.cells GA 43) := ⟨_, rfl⟩
      have t10 : Turn (fun _ => False) w9 w10 := by rw [hw10]; exact (Turn.refl _ w9).alloc _
      have G10 := Lib.hid (show w10.heap[w9.heap.size]? = some (.cells ((uP lk).cells).toArray 43 (0, 0)) by rw [hw10, ← HGA.out.1]; exact heap_alloc_new w9 _)
      have HO10 := Lib.hid (own_turn HO9.out t10 (fun _ h => h.elim))
      have hs10 : Bu ≤ w10.heap.size := by have := t10.size; have := HT9.out.size; omega
      have HT10 := Lib.hid t10
      rw [← hw10]
      clear hw10 t10
      refine wpList_append_own (o := ⟨some 75, _, _, _, _, _⟩) w10 rfl _ _ 25 rfl Bu 43 j0 (.agg ZOu5) 33 40 Try.underlying25 HJ.out.1 HJ.out.2.1 HJ.out.2.2.1 HJ.out.2.2.2 (by kernel_rfl) (by decide) _ k cs rfl HO10.out ⟨w9.heap.size, 0, none⟩ 1 1 ((uP lk).cells) rfl (by rw [HGA.out.2]) (fun j u hu => ?_) (fun u hu => by have := (uP lk).one; rw [Array.all_eq_true_iff_forall_mem] at this; exact this u (by simpa using hu)) ?_ ?_ hs10 ?_
      · have e : (⟨w9.heap.size, 0, none⟩ : Addr).add j = ⟨w9.heap.size, j, none⟩ := by unfold Addr.add; by_cases hj : j = 0 <;> simp [hj]
        rw [e, cell_of_row _ _ _ _ _ _ G10.out, List.getElem?_toArray]; exact hu
      · unfold maxLen; omega
      · omega
      intro v' w11 q1 q2 _
      have qB : ∀ i, some i = v.ownBlock → Bu ≤ i := fun i e => (HO10.out.lt i e.symm).1
      have q3 := Turn.of_grown q2
      obtain ⟨gv, cv', rfl, -, -⟩ := q1.form (by omega)
      obtain ⟨k1, hk1⟩ : ∃ k1, k1 = k + 1 := ⟨_, rfl⟩
      rw [← hk1] at q1 ⊢
      have HK1 := Lib.hid hk1
      obtain ⟨v', hv'⟩ : ∃ v', v' = Value.slice (some ⟨gv, 0, none⟩) k1 cv' := ⟨_, rfl⟩
      have HV' := Lib.hid hv'
      rw [← hv'] at q1
      clear hk1 hv'
      have HQ := Lib.hid (HT10.out.mono (fun _ _ h => h.elim) |>.trans q3 (fun _ _ h => h))
      have ht11 := HQ.out.heap HTR9.out (fun e => by have := qB _ e; omega)
      obtain ⟨⟨-, c1, -⟩, -, z1, -⟩ := row4 ht11
      rw [← HV.out] at c1
      have t12 := set_turn w11 (W + 2) 1 (.slice (some ⟨gv, 0, none⟩) k1 cv')
      have HT12 := Lib.hid (show Turn (fun i => i = W + 2 ∨ Bu ≤ i) w9 (w11.setCell ⟨W + 2, 1, none⟩ (.slice (some ⟨gv, 0, none⟩) k1 cv')) from (HQ.out.mono (fun i _ h => .inr (qB i h))).trans t12 (fun _ _ h => .inl h))
      have HTB := Lib.hid (show (w11.setCell ⟨W + 2, 1, none⟩ (.slice (some ⟨gv, 0, none⟩) k1 cv')).heap[W + 2]? = some (.cells #[V, .slice (some ⟨gv, 0, none⟩) k1 cv', .int .u64 ((0 : Nat) : Int), .int .i64 0] 28 (0, 0)) by rw [heap_setCell_same w11 (W + 2) 1 _ _ _ ht11]; rfl)
      have HQ1 := Lib.hid (own_turn q1 t12 (fun i h => by have h' : i = W + 2 := h; omega))
      have HU12 := Lib.hid (own_turn2 HU9.out HT12.out HVB.out (fun i h => by omega))
      have hs11 : Bu ≤ (w11.setCell ⟨W + 2, 1, none⟩ (.slice (some ⟨gv, 0, none⟩) k1 cv')).heap.size := by have := HT12.out.size; have := HT9.out.size; omega
      have HS11 := Lib.hid hs11
      clear q1 q2 q3 t12 ht11 qB hs11
      change wpList _ _ _ _ { tmps := List.toArray (_ :: _ :: _ :: _ :: _ :: _ :: _ :: _ :: _ :: _ :: _ :: _ :: _ :: _ :: _ :: _ :: _ :: _ :: _ :: _ :: _ :: _ :: _ :: _ :: _ :: _ :: _ :: _ :: _ :: _ :: _ :: _ :: _ :: _ :: _ :: _ :: _ :: _ :: _ :: _ :: _ :: _ :: _ :: _ :: _ :: _ :: _ :: _ :: _ :: _ :: _ :: _ :: _ :: _ :: _ :: _ :: _ :: _ :: _ :: _ :: _ :: _ :: _ :: _ :: _ :: _ :: _ :: _ :: _ :: _ :: _ :: _ :: _ :: _ :: _ :: _ :: _ :: _ :: _ :: _ :: _ :: _ :: _ :: _ :: _ :: _ :: _ :: _ :: _ :: _ :: _ :: _ :: _ :: _ :: _ :: _ :: _ :: _ :: _ :: _ :: _ :: _ :: _ :: _ :: _ :: _ :: _ :: _ :: _ :: _ :: _ :: _ :: _ :: _ :: _ :: _ :: _ :: _ :: _ :: _ :: _ :: []), defers := [] } _
      iterate 7 go_step
      go_upto_region 15 with fail
      clear c1 z1
      generalize (w11.setCell ⟨W + 2, 1, none⟩ (.slice (some ⟨gv, 0, none⟩) k1 cv')) = w12 at *
      go_step
      have hwk : IntKind.i64.wrap ((k : Int) + 1) = (k : Int) + 1 := IntWalk.i64_in _ (by omega)
      refine wpList_val rfl (.int .i64 (k : Int)) w12 (by kernel_rfl) ?_
      refine wpList_val rfl (.int .i64 (IntKind.i64.wrap ((k : Int) + 1))) w12 (by kernel_rfl) ?_
      rw [hwk]
      refine wpList_val rfl (.int .i64 ((k : Int) + 1)) w12 (by kernel_rfl) ?_
      go_step
      simp only [Act.put, List.setIfInBounds_toArray, List.set_cons_zero, List.set_cons_succ]
      refine ⟨?_, ?measure⟩
      (repeat apply Exists.intro)
      refine ⟨?rel, rfl⟩
      case rel =>
        refine ⟨k + 1, some ⟨gv, 0, none⟩, cv', by omega, by go_num, ?_, HS11.out⟩
        rw [HES.out, HRS.out, HVS.out, ← HK1.out]
        refine ⟨HY9.out.turn HT12.out (by omega) (fun i h => by show W ≤ i; omega) (fun _ _ h => h), HT12.out.heap HGR9.out (by omega), HTB.out, ⟨us, HU12.out, HCS.out.2.2.1, fun h0 => ⟨HCS.out.2.2.2, HUROW9.out.turn HT12.out (fun i h => by show W ≤ i; omega)⟩⟩, ⟨cs ++ (uP lk).cells, by rw [← HV'.out]; exact HQ1.out, by rw [List.length_append, HGA.out.2, HCS.out.1, HK1.out]; omega, fun h0 => ⟨by rw [List.length_append, HVL.out, HK1.out]; rfl, ?_⟩⟩, HN9.out.trans HT12.out (fun i hi h => by have := HW.out; omega)⟩
        rw [← uP_eq h0]
        exact HROW9.out.add (by rw [HCS.out.1, HVL.out]) HOK.out.1
      case measure => simp [intOf]; omega
    · have HEX := Lib.hid (show RSt W Bu w wr (if e1 ≠ 0 then e1 else ousE n l1) (ousR n l1) V K1 ps (.slice Av k cv) k (ousV n l1) 0 0 by
        by_cases he : (if e1 ≠ 0 then e1 else ousE k l1) = 0
        · have hkn : k = n := by
            have : ¬ k < n := fun h => hgo ⟨h, he⟩
            omega
          rw [← hkn]; exact hR
        · have e : (if e1 ≠ 0 then e1 else ousE n l1) = (if e1 ≠ 0 then e1 else ousE k l1) := by
            by_cases h1 : e1 ≠ 0
            · rw [if_pos h1, if_pos h1]
            · rw [if_neg h1] at he
              rw [if_neg h1, if_neg h1]; exact ousE_stop he hk
          rw [e]; exact hR.err he)
      obtain ⟨E, hE⟩ : ∃ E, E = (if e1 ≠ 0 then e1 else ousE k l1) := ⟨_, rfl⟩
      rw [← hE] at hR hgo
      obtain ⟨Ay, cy, ny, hyr, hyl⟩ := hR.y
      obtain ⟨⟨c0, c1⟩, z0, z1⟩ := ys_row hyr
      have HK := Lib.hid (show k ≤ 16 by omega)
      clear hR hyr hyl hE
      by_cases hlt : k < n
      · have hk2 : decide ((k : Int) < (n : Int)) = true := by rw [decide_eq_true_eq]; omega
        have hE0 : ((E : Int) == 0) = false := by rw [beq_eq_false_iff_ne]; intro h; exact hgo ⟨hlt, by omega⟩
        go_wp2_with fail
        exact HX.out _ _ _ _ _ _ _ _ _ _ _ _ _ _ _ _ _ _ _ _ _ _ _ _ _ _ _ k Av cv wr HK.out HEX.out hsz
      · have hk2 : decide ((k : Int) < (n : Int)) = false := by rw [decide_eq_false_iff_not]; omega
        go_wp2_with fail
        exact HX.out _ _ _ _ _ _ _ _ _ _ _ _ _ _ _ _ _ _ _ _ _ _ _ _ _ _ _ k Av cv wr HK.out HEX.out hsz
end Go.Proofs.Yteaoaabjdgdcmaa
