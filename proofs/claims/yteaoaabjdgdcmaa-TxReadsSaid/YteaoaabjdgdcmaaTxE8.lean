/- The document's reader: the loop of inputs. -/
import Derived.Test.YteaoaabjdgdcmaaTxE7
set_option linter.unusedVariables false
set_option linter.unusedSimpArgs false
namespace Go.Proofs.Yteaoaabjdgdcmaa
open Go.RowKit
set_option maxRecDepth 100000 in
set_option maxHeartbeats 8000000 in
theorem eread_ins (W n e1 : Nat) (l1 : List B8) (w w1 : World) (Q0 : Exit → Act → World → Prop) (c0 c1 c2 c3 c8 c9 c10 c11 c12 c13 c14 c15 c16 c17 c18 c19 c20 c21 c22 c23 c24 c25 c26 c27 c28 c29 c30 c31 c32 c33 c34 c35 c36 c37 c38 c39 c40 c41 c42 c43 c44 c45 c46 c47 c48 c49 c50 c51 c52 c53 c54 c55 c56 c57 c58 c59 c60 c61 c62 c63 c64 c65 c66 c67 c68 c69 c70 c71 c72 c73 c74 c75 c76 c77 c78 c79 c80 c81 c82 c83 c84 c85 c86 c87 c88 c89 c90 c91 c92 c93 c94 c95 c96 c97 c98 c99 c100 c101 c102 c103 c104 c105 c106 c107 c108 c109 c110 c111 c112 c113 c114 c115 c116 c117 c118 c119 c120 : Value)
    (hn16 : n ≤ 16) (hW : W = w.heap.size) (hR1 : RSt W (W + 3) w w1 e1 l1 (.slice none 0 0) 0 [] (.slice none 0 0) 0 [] 0 0) (hS1 : W + 3 ≤ w1.heap.size)
    (hexit : ∀ (u7 u8 u16 u17 u18 u19 u20 u21 u22 u23 u24 u25 u26 u27 u28 u29 u30 u31 u32 u33 u34 u35 u36 u37 u38 u39 u40 u41 u42 u43 u44 u45 u46 u47 u48 u49 : Value) (k : Nat) (Av : Option Addr) (cv : Nat) (w' : World), k ≤ 16 → RSt W (W + 3) w w' (if e1 ≠ 0 then e1 else insE n l1) (insR n l1) (.slice Av k cv) k (insV n l1) (.slice none 0 0) 0 [] 0 0 → W + 3 ≤ w'.heap.size → Q0 (.exit 0) { tmps := List.toArray (c0 :: c1 :: c2 :: c3 :: (.pointer (some ⟨W + 1, 0, none⟩)) :: (.pointer (some ⟨W + 2, 0, none⟩)) :: (.int .u64 (n : Int)) :: u7 :: u8 :: c9 :: c10 :: c11 :: c12 :: c13 :: c14 :: c15 :: u16 :: u17 :: u18 :: u19 :: u20 :: u21 :: u22 :: u23 :: u24 :: u25 :: u26 :: u27 :: u28 :: u29 :: u30 :: u31 :: u32 :: u33 :: u34 :: u35 :: u36 :: u37 :: u38 :: u39 :: u40 :: u41 :: u42 :: u43 :: u44 :: u45 :: u46 :: u47 :: u48 :: u49 :: c50 :: c51 :: c52 :: c53 :: c54 :: c55 :: c56 :: c57 :: c58 :: c59 :: c60 :: c61 :: c62 :: c63 :: c64 :: c65 :: c66 :: c67 :: c68 :: c69 :: c70 :: c71 :: c72 :: c73 :: c74 :: c75 :: c76 :: c77 :: c78 :: c79 :: c80 :: c81 :: c82 :: c83 :: c84 :: c85 :: c86 :: c87 :: c88 :: c89 :: c90 :: c91 :: c92 :: c93 :: c94 :: c95 :: c96 :: c97 :: c98 :: c99 :: c100 :: c101 :: c102 :: c103 :: c104 :: c105 :: c106 :: c107 :: c108 :: c109 :: c110 :: c111 :: c112 :: c113 :: c114 :: c115 :: c116 :: c117 :: c118 :: c119 :: c120 :: []), defers := [] } w') :
    Code.wp Try.prog (Code.loop (readLoop 0)) Q0 { tmps := List.toArray (c0 :: c1 :: c2 :: c3 :: (.pointer (some ⟨W + 1, 0, none⟩)) :: (.pointer (some ⟨W + 2, 0, none⟩)) :: (.int .u64 (n : Int)) :: (.int .i64 0) :: c8 :: c9 :: c10 :: c11 :: c12 :: c13 :: c14 :: c15 :: c16 :: c17 :: c18 :: c19 :: c20 :: c21 :: c22 :: c23 :: c24 :: c25 :: c26 :: c27 :: c28 :: c29 :: c30 :: c31 :: c32 :: c33 :: c34 :: c35 :: c36 :: c37 :: c38 :: c39 :: c40 :: c41 :: c42 :: c43 :: c44 :: c45 :: c46 :: c47 :: c48 :: c49 :: c50 :: c51 :: c52 :: c53 :: c54 :: c55 :: c56 :: c57 :: c58 :: c59 :: c60 :: c61 :: c62 :: c63 :: c64 :: c65 :: c66 :: c67 :: c68 :: c69 :: c70 :: c71 :: c72 :: c73 :: c74 :: c75 :: c76 :: c77 :: c78 :: c79 :: c80 :: c81 :: c82 :: c83 :: c84 :: c85 :: c86 :: c87 :: c88 :: c89 :: c90 :: c91 :: c92 :: c93 :: c94 :: c95 :: c96 :: c97 :: c98 :: c99 :: c100 :: c101 :: c102 :: c103 :: c104 :: c105 :: c106 :: c107 :: c108 :: c109 :: c110 :: c111 :: c112 :: c113 :: c114 :: c115 :: c116 :: c117 :: c118 :: c119 :: c120 :: []), defers := [] } w1 := by
  have R1 := Lib.hid hR1
  have HX := Lib.hid hexit
  have HW := Lib.hid hW
  have HS1 := Lib.hid hS1
  clear hR1 hexit hW hS1
  conv => arg 2; arg 1; whnf
  go_loopw [7, 8] (fun i x wr => ∃ k Av cv, k ≤ n ∧ i = .int .i64 k ∧ RSt W (W + 3) w wr (if e1 ≠ 0 then e1 else insE k l1) (insR k l1) (.slice Av k cv) k (insV k l1) (.slice none 0 0) 0 [] 0 0 ∧ W + 3 ≤ wr.heap.size) (fun i _ _ => n - (intOf i).toNat)
  case atStart =>
    refine ⟨0, none, 0, Nat.zero_le _, rfl, ?_, HS1.out⟩
    rw [show (if e1 ≠ 0 then e1 else insE 0 l1) = e1 by split <;> simp_all [insE]]
    exact R1.out
  case round =>
    obtain ⟨k, Av, cv, hk, rfl, hR, hsz⟩ := hrel
    by_cases hgo : k < n ∧ (if e1 ≠ 0 then e1 else insE k l1) = 0
    · obtain ⟨hlt, hek⟩ := hgo
      have he10 : e1 = 0 := by
        by_cases h : e1 = 0
        · exact h
        · rw [if_pos h] at hek; exact hek
      have hik : insE k l1 = 0 := by rw [if_neg (by omega)] at hek; exact hek
      rw [hek] at hR
      obtain ⟨lk, hlk⟩ : ∃ lk, lk = insR k l1 := ⟨_, rfl⟩
      rw [← hlk] at hR
      have HRS := Lib.hid (show insR (k + 1) l1 = inR lk by rw [hlk]; rfl)
      have HVS := Lib.hid (show insV (k + 1) l1 = insV k l1 ++ [inV lk] by rw [hlk]; rfl)
      have HES := Lib.hid (show (if e1 ≠ 0 then e1 else insE (k + 1) l1) = xE4 lk by rw [if_neg (by omega), insE, if_neg (by omega), ← hlk, xE4_eq])
      have HVL := Lib.hid (insV_len k l1)
      obtain ⟨Ay, cy, ny, hyr, hyl⟩ := hR.y
      have hll := (hyl rfl).2.2
      obtain ⟨⟨c0, c1⟩, z0, z1⟩ := ys_row hyr
      obtain ⟨okp, hd32, hx15⟩ := xP_ok lk hll
      have hWy : W ≤ W + 1 := by omega
      have HNN := Lib.hid (fun (w' : World) (h : W + 3 ≤ w'.heap.size) (i : Nat) (hi : w'.heap.size ≤ i) => show W ≤ i by omega)
      have T2 := eid_any (fun i => W ≤ i) (W + 1) 0 lk wr hR.y hWy (HNN.out wr hsz)
      obtain ⟨L, hL⟩ : ∃ L, L = (dV (xE1 lk) lk).map bv := ⟨_, rfl⟩
      change Calls _ _ _ _ (fun r w' => r = .returned (.agg ((dV (xE1 lk) lk).map bv).toArray) ∧ _ ∧ _) at T2
      rw [← hL] at T2
      have hL32 : L.length = 32 := by rw [hL, List.length_map]; exact hd32
      obtain ⟨D, hD⟩ : ∃ D, D = L.toArray := ⟨_, rfl⟩
      rw [← hD] at T2
      obtain ⟨DP, hDP⟩ : ∃ DP, DP = (L ++ [Value.int .i64 0]).toArray := ⟨_, rfl⟩
      obtain ⟨DI, hDI⟩ : ∃ DI, DI = (L ++ [Value.int .i64 0, .int .u64 0, .slice none 0 0]).toArray := ⟨_, rfl⟩
      have BP := Lib.hid (show Try.prog.built 39 [(0, .agg D)] = some DP by rw [hD, hDP]; exact built_pt L hL32)
      have BI := Lib.hid (show Try.prog.built 41 [(0, .agg DP)] = some DI by rw [hDP, hDI]; exact built_in L _ hL32)
      have sDI : DI.size = 35 := by rw [hDI]; simp [hL32]
      have J1 := Lib.hid (show (Try.prog.info? 41).map (·.size) = some DI.size by rw [sDI]; exact in_info)
      obtain ⟨ZI, hZI⟩ : ∃ ZI, ZI = ZIn5 := ⟨_, rfl⟩
      have hzi : ∀ w, (zeroValue 41).run Try.prog w = .ok (.agg ZI) w := fun w => by rw [hZI]; exact in_zero w
      have J2 := Lib.hid (show ZI.size = DI.size by rw [sDI, hZI]; rfl)
      have J3 := Lib.hid (show DI.all (·.oneCell') = true by
        rw [hDI, Array.all_eq_true_iff_forall_mem]
        intro u hu
        simp only [List.mem_toArray, List.mem_append, List.mem_cons, List.not_mem_nil, or_false, hL, List.mem_map] at hu
        rcases hu with ⟨x, -, rfl⟩ | (rfl | rfl | rfl) <;> rfl)
      have T2 := Lib.hid T2
      have HR := Lib.hid hR
      have HDI := Lib.hid (And.intro hDI (And.intro hL hL32))
      have HOK := Lib.hid (And.intro okp hd32)
      have HEK := Lib.hid (And.intro hek (And.intro he10 (And.intro hik hlk)))
      have hk2 : decide ((k : Int) < (n : Int)) = true := by rw [decide_eq_true_eq]; omega
      clear hR hek he10 hik hlk hyr hyl okp hd32 hL hL32 hD hDP hDI sDI hZI
      go_wp2_with fail
      refine T2.out.mono ?_
      rintro r w2 ⟨rfl, hy2, t2⟩
      have hsz2 : W + 3 ≤ w2.heap.size := by have := t2.size; omega
      have HAI := Lib.hid (show (w2.alloc (.cells ZI 41)).heap[w2.heap.size]? = some (.cells ZI 41 (0, 0)) from heap_alloc_new _ _)
      have HY2 := Lib.hid hy2
      have HT2 := Lib.hid t2
      clear hy2 t2 T2
      go_wp2_with (first
        | (refine wpList_build_eq (o := ⟨some 31, _, _, _, _, _⟩) rfl 39 #[(0, .tmp 30)] rfl DP BP.out ?_)
        | (refine wpList_build_eq (o := ⟨some 32, _, _, _, _, _⟩) rfl 41 #[(0, .tmp 31)] rfl DI BI.out ?_)
        | (refine wpList_store_row rfl _ _ _ rfl w2.heap.size DI rfl rfl 41 ZI HAI.out J1.out J2.out J3.out ?_; refine stop ?_))
      unfold Stop
      obtain ⟨w3, hw3⟩ : ∃ w3, w3 = (w2.alloc (.cells ZI 41)).setRow w2.heap.size DI := ⟨_, rfl⟩
      have t3 : Turn (fun _ => False) w2 w3 := by rw [hw3]; exact ((Turn.refl _ _).alloc _).setRow _ _ (fun h => by omega)
      have g3 : w3.heap[w2.heap.size]? = some (.cells DI 41 (0, 0)) := by rw [hw3]; exact setRow_heap _ _ _ _ _ _ HAI.out
      rw [← hw3]
      clear hw3 HAI J1 J2 BP BI hzi
      have hsg : wr.heap.size ≤ w2.heap.size := HT2.out.size
      obtain ⟨g, hg⟩ : ∃ g, g = w2.heap.size := ⟨_, rfl⟩
      rw [← hg] at g3 hsz2 hsg ⊢
      clear hg
      have HT3 := Lib.hid (show Turn (fun i => i = W + 1 ∨ i = g) wr w3 from (HT2.out.mono (fun _ _ h => .inl h)).trans t3 (fun _ _ h => h.elim))
      have hY3 := HY2.out.turn (N' := fun i => W ≤ i) t3 (fun h => h) (fun _ h => h.elim) (fun _ _ h => h)
      have hs3 : W + 3 ≤ w3.heap.size := by have := lt_of_block g3; omega
      have T4 := enum_any (fun i => W ≤ i) (W + 1) (xE1 lk) 15 (lk.drop 32) w3 hY3 hWy (HNN.out w3 hs3) (by decide)
      change Calls _ _ _ _ (fun r w' => r = .returned (.int .u64 (((if xE2 lk ≠ 0 then 0 else numV (lk.drop 32)) : Nat) : Int)) ∧ YS w' _ _ (xE2 lk) (numR (lk.drop 32)) ∧ _) at T4
      obtain ⟨x, hx⟩ : ∃ x, x = (if xE2 lk ≠ 0 then 0 else numV (lk.drop 32)) := ⟨_, rfl⟩
      rw [← hx] at T4 hx15
      have HX := Lib.hid hx
      have G3 := Lib.hid g3
      have T4 := Lib.hid T4
      clear hY3 t3 g3 hx c0 c1 z0 z1
      go_wp2_with fail
      refine T4.out.mono ?_
      rintro r w4 ⟨rfl, hy4, t4⟩
      have g4 := t4.heap G3.out (by omega)
      rw [HDI.out.1] at g4
      have G4 := Lib.hid g4
      have HY4 := Lib.hid hy4
      have HT4 := Lib.hid (show Turn (fun i => i = W + 1 ∨ i = g) wr w4 from HT3.out.trans t4 (fun _ _ h => .inl h))
      obtain ⟨⟨p0, -⟩, q0, -⟩ := row35 g4 HDI.out.2.2
      clear hy4 t4 g4 T4
      go_upto_region 9 with fail
      obtain ⟨w5, hw5⟩ : ∃ w5, w5 = w4.setCell ⟨g, 32, none⟩ (.int .i64 (x : Int)) := ⟨_, rfl⟩
      have t5 : Turn (fun i => i = g) w4 w5 := by rw [hw5]; exact set_turn _ _ _ _
      have g5 : w5.heap[g]? = some (.cells (L ++ [Value.int .i64 (x : Int), .int .u64 0, .slice none 0 0]).toArray 41 (0, 0)) := by rw [hw5]; exact row35_set0 G4.out HDI.out.2.2
      rw [← hw5]
      clear hw5 p0 q0
      have hs5 : W + 3 ≤ w5.heap.size := by have := lt_of_block g5; omega
      have hY5 := HY4.out.turn (N' := fun i => W ≤ i) t5 (by omega) (fun i h => by show W ≤ i; omega) (fun _ _ h => h)
      have HT5 := Lib.hid (show Turn (fun i => i = W + 1 ∨ i = g) wr w5 from HT4.out.trans t5 (fun _ _ h => .inr h))
      have T6 := enum_any (fun i => W ≤ i) (W + 1) (xE2 lk) 18446744073709551615 (numR (lk.drop 32)) w5 hY5 hWy (HNN.out w5 hs5) (by decide)
      change Calls _ _ _ _ (fun r w' => r = .returned (.int .u64 (((if xE3 lk ≠ 0 then 0 else numV (numR (lk.drop 32))) : Nat) : Int)) ∧ YS w' _ _ (xE3 lk) (numR (numR (lk.drop 32))) ∧ _) at T6
      obtain ⟨a, ha⟩ : ∃ a, a = (if xE3 lk ≠ 0 then 0 else numV (numR (lk.drop 32))) := ⟨_, rfl⟩
      rw [← ha] at T6
      have ha64 : a < 18446744073709551616 := by have := HOK.out.1.n; rw [ha]; exact this
      have HA := Lib.hid ha
      have G5 := Lib.hid g5
      have T6 := Lib.hid T6
      clear hY5 t5 g5 ha
      go_wp2_with fail
      refine T6.out.mono ?_
      rintro r w6 ⟨rfl, hy6, t6⟩
      have g6 := t6.heap G5.out (by omega)
      have G6 := Lib.hid g6
      have HY6 := Lib.hid hy6
      have HT6 := Lib.hid (show Turn (fun i => i = W + 1 ∨ i = g) wr w6 from HT5.out.trans t6 (fun _ _ h => .inl h))
      obtain ⟨⟨-, p0, -⟩, -, q0, -⟩ := row35 g6 HDI.out.2.2
      clear hy6 t6 g6 T6
      go_upto_region 10 with fail
      obtain ⟨w7, hw7⟩ : ∃ w7, w7 = w6.setCell ⟨g, 33, none⟩ (.int .u64 (a : Int)) := ⟨_, rfl⟩
      have t7 : Turn (fun i => i = g) w6 w7 := by rw [hw7]; exact set_turn _ _ _ _
      have g7 : w7.heap[g]? = some (.cells (L ++ [Value.int .i64 (x : Int), .int .u64 (a : Int), .slice none 0 0]).toArray 41 (0, 0)) := by rw [hw7]; exact row35_set1 G6.out HDI.out.2.2
      rw [← hw7]
      clear hw7 p0 q0
      have hs7 : W + 3 ≤ w7.heap.size := by have := lt_of_block g7; omega
      have hY7 := HY6.out.turn (N' := fun i => W ≤ i) t7 (by omega) (fun i h => by show W ≤ i; omega) (fun _ _ h => h)
      have HT7 := Lib.hid (show Turn (fun i => i = W + 1 ∨ i = g) wr w7 from HT6.out.trans t7 (fun _ _ h => .inr h))
      have T8 := etext_any (fun i => W ≤ i) (W + 1) (xE3 lk) 64 (numR (numR (lk.drop 32))) w7 hY7 hWy (HNN.out w7 hs7) (by decide)
      change Calls _ _ _ _ (fun r w' => ∃ S cS, r = .returned (.slice S (tV (xE4 lk) (numR (numR (lk.drop 32)))).length cS) ∧ BtN w' _ S cS (tV (xE4 lk) (numR (numR (lk.drop 32)))) ∧ YS w' _ _ (xE4 lk) (inR lk) ∧ _) at T8
      obtain ⟨tx, htx⟩ : ∃ tx, tx = tV (xE4 lk) (numR (numR (lk.drop 32))) := ⟨_, rfl⟩
      rw [← htx] at T8
      obtain ⟨tl, htl⟩ : ∃ tl, tl = tx.length := ⟨_, rfl⟩
      rw [← htl] at T8
      have HTX := Lib.hid (And.intro htx htl)
      have G7 := Lib.hid g7
      have T8 := Lib.hid T8
      clear hY7 t7 g7 htx htl
      go_wp2_with fail
      refine T8.out.mono ?_
      rintro r w8 ⟨S, cS, rfl, hb8, hy8, t8⟩
      have g8 := t8.heap G7.out (by omega)
      have G8 := Lib.hid g8
      have HY8 := Lib.hid (And.intro hb8 hy8)
      have HT8 := Lib.hid (show Turn (fun i => i = W + 1 ∨ i = g) wr w8 from HT7.out.trans t8 (fun _ _ h => .inl h))
      obtain ⟨⟨-, -, p0⟩, -, -, q0⟩ := row35 g8 HDI.out.2.2
      clear hb8 hy8 t8 g8 T8
      go_upto_region 11 with fail
      obtain ⟨w9, hw9⟩ : ∃ w9, w9 = w8.setCell ⟨g, 34, none⟩ (.slice S tl cS) := ⟨_, rfl⟩
      have t9 : Turn (fun i => i = g) w8 w9 := by rw [hw9]; exact set_turn _ _ _ _
      have g9 : w9.heap[g]? = some (.cells (L ++ [Value.int .i64 (x : Int), .int .u64 (a : Int), .slice S tl cS]).toArray 41 (0, 0)) := by rw [hw9]; exact row35_set2 G8.out HDI.out.2.2
      rw [← hw9]
      clear hw9 p0 q0
      have hcl : (xP lk).cells S cS = L ++ [Value.int .i64 (x : Int), .int .u64 (a : Int), .slice S tl cS] := by
        rw [HDI.out.2.1, HX.out, HA.out, HTX.out.2, HTX.out.1]; rfl
      rw [← hcl] at g9
      have hlen35 : ((xP lk).cells S cS).length = 35 := (xP lk).len S cS HOK.out.2
      obtain ⟨GA, hGA⟩ : ∃ GA, GA = ((xP lk).cells S cS).toArray := ⟨_, rfl⟩
      rw [← hGA] at g9
      have K1 := Lib.hid (show (Try.prog.info? 41).map (·.size) = some GA.size by rw [hGA, List.size_toArray, hlen35]; exact in_info)
      have HGA := Lib.hid (And.intro hGA hlen35)
      have HT9 := Lib.hid (show Turn (fun i => i = W + 1 ∨ i = g) wr w9 from HT8.out.trans t9 (fun _ _ h => .inr h))
      have HY9 := Lib.hid (HY8.out.2.turn (N' := fun i => W ≤ i) t9 (by omega) (fun i h => by show W ≤ i; omega) (fun _ _ h => h))
      have HB9 := Lib.hid (HY8.out.1.turn (N' := fun i => W ≤ i) t9 (fun i h => by show W ≤ i; omega) (fun _ _ h => h))
      obtain ⟨cs, ho, hcs, hrow⟩ := HR.out.v
      obtain ⟨us, huo, hus, hurow⟩ := HR.out.u
      obtain ⟨hkl, hrow⟩ := hrow rfl
      have ht9 := HT9.out.heap HR.out.t (by omega)
      obtain ⟨⟨c0, -⟩, -⟩ := row4 ht9
      have HO9 := Lib.hid (own_turn ho HT9.out (fun i h => by omega))
      have HU9 := Lib.hid (own_turn huo HT9.out (fun i h => by omega))
      have HROW9 := Lib.hid (hrow.turn HT9.out (fun i h => by show W ≤ i; omega))
      have HTR9 := Lib.hid ht9
      have HGR9 := Lib.hid (HT9.out.heap HR.out.r (by omega))
      have HN9 := Lib.hid (HR.out.n.trans HT9.out (fun i hi h => by have := HW.out; omega))
      have HCS := Lib.hid (And.intro hcs (And.intro hkl (And.intro hus (hurow rfl))))
      have G9 := Lib.hid g9
      have hs9 : W + 3 ≤ w9.heap.size := by have := lt_of_block g9; omega
      obtain ⟨j0, hj, hy0, hy1, hy2⟩ := info_parts info_in5
      have HJ := Lib.hid (And.intro hj (And.intro hy0 (And.intro hy1 hy2)))
      clear hcl hlen35 hGA t9 g9 ho hcs hrow huo hus hurow hkl ht9 hj hy0 hy1 hy2
      obtain ⟨v, hv⟩ : ∃ v, v = Value.slice Av k cv := ⟨_, rfl⟩
      rw [← hv] at c0 HO9
      have HV := Lib.hid hv
      clear hv
      go_step
      iterate 6 go_step
      refine wpList_load_row (o := ⟨some 46, _, _, _, _, _⟩) rfl _ _ rfl g rfl _ GA (0, 0) _ G9.out Try.underlying41 rfl K1.out ?_
      refine wpList_build_in (o := ⟨some 47, _, _, _, _, _⟩) rfl ((xP lk).cells S cS) HGA.out.2 GA HGA.out.1 #[(0, .tmp 46)] rfl rfl ?_
      obtain ⟨w10, hw10⟩ : ∃ w10, w10 = w9.alloc (.cells GA 41) := ⟨_, rfl⟩
      have t10 : Turn (fun _ => False) w9 w10 := by rw [hw10]; exact (Turn.refl _ w9).alloc _
      have G10 := Lib.hid (show w10.heap[w9.heap.size]? = some (.cells ((xP lk).cells S cS).toArray 41 (0, 0)) by rw [hw10, ← HGA.out.1]; exact heap_alloc_new w9 _)
      have HO10 := Lib.hid (own_turn HO9.out t10 (fun _ h => h.elim))
      have hs10 : W + 3 ≤ w10.heap.size := by have := t10.size; omega
      have HT10 := Lib.hid t10
      rw [← hw10]
      clear hw10 t10
      refine wpList_append_own (o := ⟨some 48, _, _, _, _, _⟩) w10 rfl _ _ 24 rfl (W + 3) 41 j0 (.agg ZIn5) 35 72 Try.underlying24 HJ.out.1 HJ.out.2.1 HJ.out.2.2.1 HJ.out.2.2.2 (by kernel_rfl) (by decide) _ k cs rfl HO10.out ⟨w9.heap.size, 0, none⟩ 1 1 ((xP lk).cells S cS) rfl (by rw [HGA.out.2]) (fun j u hu => ?_) (fun u hu => by have := (xP lk).one S cS; rw [Array.all_eq_true_iff_forall_mem] at this; exact this u (by simpa using hu)) ?_ ?_ hs10 ?_
      · have e : (⟨w9.heap.size, 0, none⟩ : Addr).add j = ⟨w9.heap.size, j, none⟩ := by unfold Addr.add; by_cases hj : j = 0 <;> simp [hj]
        rw [e, cell_of_row _ _ _ _ _ _ G10.out, List.getElem?_toArray]; exact hu
      · unfold maxLen; omega
      · omega
      intro v' w11 q1 q2 _
      have qB : ∀ i, some i = v.ownBlock → W + 3 ≤ i := fun i e => (HO10.out.lt i e.symm).1
      have q3 := Turn.of_grown q2
      obtain ⟨gv, cv', rfl, -, -⟩ := q1.form (by omega)
      obtain ⟨k1, hk1⟩ : ∃ k1, k1 = k + 1 := ⟨_, rfl⟩
      rw [← hk1] at q1 ⊢
      have HK1 := Lib.hid hk1
      obtain ⟨v', hv'⟩ : ∃ v', v' = Value.slice (some ⟨gv, 0, none⟩) k1 cv' := ⟨_, rfl⟩
      have HV' := Lib.hid hv'
      rw [← hv'] at q1
      clear hk1 hv'
      have HQ := Lib.hid (HT10.out.mono (fun _ _ h => h.elim) |>.trans q3 (fun _ _ h => h))
      have ht11 := HQ.out.heap HTR9.out (fun e => by have := qB _ e; omega)
      obtain ⟨⟨c1, -⟩, z1, -⟩ := row4 ht11
      rw [← HV.out] at c1
      have t12 := set_turn w11 (W + 2) 0 (.slice (some ⟨gv, 0, none⟩) k1 cv')
      have HT12 := Lib.hid (show Turn (fun i => i = W + 2 ∨ W + 3 ≤ i) w9 (w11.setCell ⟨W + 2, 0, none⟩ (.slice (some ⟨gv, 0, none⟩) k1 cv')) from (HQ.out.mono (fun i _ h => .inr (qB i h))).trans t12 (fun _ _ h => .inl h))
      have HTB := Lib.hid (show (w11.setCell ⟨W + 2, 0, none⟩ (.slice (some ⟨gv, 0, none⟩) k1 cv')).heap[W + 2]? = some (.cells #[.slice (some ⟨gv, 0, none⟩) k1 cv', .slice none 0 0, .int .u64 ((0 : Nat) : Int), .int .i64 0] 28 (0, 0)) by rw [heap_setCell_same w11 (W + 2) 0 _ _ _ ht11]; rfl)
      have HQ1 := Lib.hid (own_turn q1 t12 (fun i h => by have h' : i = W + 2 := h; omega))
      have hs11 : W + 3 ≤ (w11.setCell ⟨W + 2, 0, none⟩ (.slice (some ⟨gv, 0, none⟩) k1 cv')).heap.size := by have := HT12.out.size; omega
      have HS11 := Lib.hid hs11
      clear q1 q2 q3 t12 ht11 qB c0 hs11
      change wpList _ _ _ _ { tmps := List.toArray (_ :: _ :: _ :: _ :: _ :: _ :: _ :: _ :: _ :: _ :: _ :: _ :: _ :: _ :: _ :: _ :: _ :: _ :: _ :: _ :: _ :: _ :: _ :: _ :: _ :: _ :: _ :: _ :: _ :: _ :: _ :: _ :: _ :: _ :: _ :: _ :: _ :: _ :: _ :: _ :: _ :: _ :: _ :: _ :: _ :: _ :: _ :: _ :: _ :: _ :: _ :: _ :: _ :: _ :: _ :: _ :: _ :: _ :: _ :: _ :: _ :: _ :: _ :: _ :: _ :: _ :: _ :: _ :: _ :: _ :: _ :: _ :: _ :: _ :: _ :: _ :: _ :: _ :: _ :: _ :: _ :: _ :: _ :: _ :: _ :: _ :: _ :: _ :: _ :: _ :: _ :: _ :: _ :: _ :: _ :: _ :: _ :: _ :: _ :: _ :: _ :: _ :: _ :: _ :: _ :: _ :: _ :: _ :: _ :: _ :: _ :: _ :: _ :: _ :: _ :: _ :: _ :: _ :: _ :: _ :: _ :: []), defers := [] } _
      iterate 7 go_step
      go_upto_region 6 with fail
      clear c1 z1
      generalize (w11.setCell ⟨W + 2, 0, none⟩ (.slice (some ⟨gv, 0, none⟩) k1 cv')) = w12 at *
      go_step
      have hwk : IntKind.i64.wrap ((k : Int) + 1) = (k : Int) + 1 := IntWalk.i64_in _ (by omega)
      refine wpList_val rfl (.int .i64 (k : Int)) w12 (by kernel_rfl) ?_
      refine wpList_val rfl (.int .i64 (IntKind.i64.wrap ((k : Int) + 1))) w12 (by kernel_rfl) ?_
      rw [hwk]
      refine wpList_val rfl (.int .i64 ((k : Int) + 1)) w12 (by kernel_rfl) ?_
      go_step
      simp only [Act.put, List.setIfInBounds_toArray, List.set_cons_zero, List.set_cons_succ]
      refine ⟨?_, ?measure⟩
      (repeat apply Exists.intro)
      refine ⟨?rel, rfl⟩
      case rel =>
        refine ⟨k + 1, some ⟨gv, 0, none⟩, cv', by omega, by go_num, ?_, HS11.out⟩
        rw [HES.out, HRS.out, HVS.out, ← HK1.out]
        refine ⟨HY9.out.turn HT12.out (by omega) (fun i h => by show W ≤ i; omega) (fun _ _ h => h), HT12.out.heap HGR9.out (by omega), HTB.out, ⟨cs ++ (xP lk).cells S cS, by rw [← HV'.out]; exact HQ1.out, by rw [List.length_append, HGA.out.2, HCS.out.1, HK1.out]; omega, fun h0 => ⟨by rw [List.length_append, HVL.out, HK1.out]; rfl, ?_⟩⟩, ⟨[], World.ownsRow_nil _ _ _ _, rfl, fun _ => ⟨rfl, fun i p h => by simp at h⟩⟩, HN9.out.trans HT12.out (fun i hi h => by have := HW.out; omega)⟩
        rw [← xP_eq h0]
        refine (HROW9.out.turn HT12.out (fun i h => by show W ≤ i; omega)).add (by rw [HCS.out.1, HVL.out]) HOK.out.1 ?_
        have := HB9.out.turn (N' := fun i => W ≤ i) HT12.out (fun i h => by show W ≤ i; omega) (fun _ _ h => h)
        rw [HTX.out.1] at this
        exact this
      case measure => simp [intOf]; omega
    · have HEX := Lib.hid (show RSt W (W + 3) w wr (if e1 ≠ 0 then e1 else insE n l1) (insR n l1) (.slice Av k cv) k (insV n l1) (.slice none 0 0) 0 [] 0 0 by
        by_cases he : (if e1 ≠ 0 then e1 else insE k l1) = 0
        · have hkn : k = n := by
            have : ¬ k < n := fun h => hgo ⟨h, he⟩
            omega
          rw [← hkn]; exact hR
        · have e : (if e1 ≠ 0 then e1 else insE n l1) = (if e1 ≠ 0 then e1 else insE k l1) := by
            by_cases h1 : e1 ≠ 0
            · rw [if_pos h1, if_pos h1]
            · rw [if_neg h1] at he
              rw [if_neg h1, if_neg h1]; exact insE_stop he hk
          rw [e]; exact hR.err he)
      obtain ⟨E, hE⟩ : ∃ E, E = (if e1 ≠ 0 then e1 else insE k l1) := ⟨_, rfl⟩
      rw [← hE] at hR hgo
      obtain ⟨Ay, cy, ny, hyr, hyl⟩ := hR.y
      obtain ⟨⟨c0, c1⟩, z0, z1⟩ := ys_row hyr
      have HK := Lib.hid (show k ≤ 16 by omega)
      clear hR hyr hyl hE
      by_cases hlt : k < n
      · have hk2 : decide ((k : Int) < (n : Int)) = true := by rw [decide_eq_true_eq]; omega
        have hE0 : ((E : Int) == 0) = false := by rw [beq_eq_false_iff_ne]; intro h; exact hgo ⟨hlt, by omega⟩
        go_wp2_with fail
        exact HX.out _ _ _ _ _ _ _ _ _ _ _ _ _ _ _ _ _ _ _ _ _ _ _ _ _ _ _ _ _ _ _ _ _ _ _ _ k Av cv wr HK.out HEX.out hsz
      · have hk2 : decide ((k : Int) < (n : Int)) = false := by rw [decide_eq_false_iff_not]; omega
        go_wp2_with fail
        exact HX.out _ _ _ _ _ _ _ _ _ _ _ _ _ _ _ _ _ _ _ _ _ _ _ _ _ _ _ _ _ _ _ _ _ _ _ _ k Av cv wr HK.out HEX.out hsz
end Go.Proofs.Yteaoaabjdgdcmaa
