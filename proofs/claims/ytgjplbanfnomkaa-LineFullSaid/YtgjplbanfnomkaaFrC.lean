/- The document's 'Take': a text. -/
import Derived.Test.YtgjplbanfnomkaaFrX
import Derived.StillTailTactics
set_option linter.unusedVariables false
namespace Go.Proofs.Ytgjplbanfnomkaa
open Go.RowKit
set_option maxRecDepth 100000 in
set_option maxHeartbeats 1000000 in
theorem take_text (A : Option Addr) (c : Nat) (l : List B8) (f : Fd) (w : World) (hd : f.d.length = 32) (hk1 : f.k = 1) (hfn : f.n < 18446744073709551616) (hs : SlN w (fun _ => False) A (l.map bv)) (hc : l.length ≤ c) (hx : numE l = 0) (hlast : ¬ f.n < numV l ∧ numV l ≤ (numR l).length) (hm : l.length ≤ 1099511627776) :
    Calls Try.prog 58 #[.slice A l.length c, .agg f.cells.toArray] w fun r w' => r = .returned (.agg (takeG A c l f).cells.toArray) ∧ Turn (fun _ => False) w w' := by
  obtain ⟨C, hC⟩ : ∃ C, C = f.cells.toArray := ⟨_, rfl⟩
  obtain ⟨DX, HD, H⟩ := GX
  have sC : C.size = 35 := by rw [hC, List.size_toArray, f.len hd]
  have g1 := heap_alloc2_old w (.cells C 92) (.cells Z37 94)
  have g2 := Lib.hid (heap_alloc2_new w (.cells C 92) (.cells Z37 94))
  have c0 : ((w.alloc (.cells C 92)).alloc (.cells Z37 94)).cell? ⟨w.heap.size, 0, none⟩ = some (.int .i64 f.k) := by rw [cell_of_row _ _ _ _ _ _ g1, hC]; rfl
  have c1 : ((w.alloc (.cells C 92)).alloc (.cells Z37 94)).cell? ⟨w.heap.size, 1, none⟩ = some (.int .u64 (f.n : Int)) := by rw [cell_of_row _ _ _ _ _ _ g1, hC]; rfl
  have t1 := (((Turn.refl (fun _ => False) w).alloc (.cells C 92)).alloc (.cells Z37 94))
  have hzd := zero_got
  change ∀ w, _ = Result.ok (Value.agg Z37) w at hzd
  have hb2 : Z37.setIfInBounds 35 (.int .i64 2) = DX 2 := by rw [HD]; exact Gx.set 2
  have hb3 : Z37.setIfInBounds 35 (.int .i64 3) = DX 3 := by rw [HD]; exact Gx.set 3
  have hb5 : Z37.setIfInBounds 35 (.int .i64 5) = DX 5 := by rw [HD]; exact Gx.set 5
  rw [← hC]
  have HDX := Lib.hid HD
  have HH := Lib.hid H
  clear g1 HD H hC sC
  have hk2 : ¬ f.k = 2 := by omega
  rcases numE_cases l with ⟨rfl, e⟩ | ⟨k, r, rfl, h⟩
  · rw [e] at hx; cases hx
  rcases h with ⟨h8, e⟩ | ⟨h8, hl, e⟩ | ⟨h8, hl, h0, hz, e⟩ | ⟨h8, hl, hz, -⟩
  · omega
  · omega
  · omega
  obtain ⟨ad, rfl, -, hc0⟩ := hs.at (show ((k :: r).map bv)[0]? = some (bv k) from rfl)
  rw [add_zero] at hc0
  have b0 := t1.cell hc0 (fun h => h)
  have hkn := k.isLt
  have hmr : r.length ≤ 1099511627776 := by simp at hm; omega
  have hn1 : ((k :: r).length : Int) = (r.length : Int) + 1 := by simp
  have hz1 : 0 < k.toNat → ∃ x : B8, ((w.alloc (.cells C 92)).alloc (.cells Z37 94)).cell? ⟨ad.block, ad.off + 1, none⟩ = some (.int .u8 (x.toNat : Int)) ∧ ¬ (x.toNat : Int) = 0 := by
    intro h0
    obtain ⟨x, hx1, hx0⟩ := hz h0
    obtain ⟨ad', e', -, hc1⟩ := hs.at (show ((k :: r).map bv)[1]? = some (bv x) by rw [List.map_cons, List.getElem?_cons_succ, List.getElem?_map, hx1]; rfl)
    injection e' with e'; subst e'
    refine ⟨x, t1.cell hc1 (fun h => h), fun h => hx0 (BitVec.eq_of_toNat_eq (by simpa using h))⟩
  have hcell : ∀ (j : Nat) (hj : j < r.length), ((w.alloc (.cells C 92)).alloc (.cells Z37 94)).cell? ⟨ad.block, ad.off + (j + 1), none⟩ = some (.int .u8 (r[j].toNat : Int)) := by
    intro j hj
    obtain ⟨ad', e', -, hc1⟩ := hs.at (show ((k :: r).map bv)[j + 1]? = some (bv r[j]) by simp [hj])
    injection e' with e'; subst e'
    have ea : ad.add (j + 1) = ⟨ad.block, ad.off + (j + 1), none⟩ := by unfold Addr.add; rw [if_neg (by omega)]
    rw [← ea]
    exact t1.cell hc1 (fun h => h)
  have HCELL := Lib.hid hcell
  obtain ⟨G, hG⟩ : ∃ G, G = takeG (some ad) c (k :: r) f := ⟨_, rfl⟩
  rw [← hG]
  have HG := Lib.hid hG
  have HX := Lib.hid hx
  unfold bv at b0
  obtain ⟨n, hn⟩ : ∃ n, n = (k :: r).length := ⟨_, rfl⟩
  rw [← hn] at hn1 hc hm ⊢
  obtain ⟨kn, hkk⟩ : ∃ kn, kn = k.toNat := ⟨_, rfl⟩
  rw [← hkk] at hz1 b0 hkn h8 hl
  obtain ⟨m, hmm⟩ : ∃ m, m = r.length := ⟨_, rfl⟩
  rw [← hmm] at hn1 hmr hl
  have HK := Lib.hid (And.intro hn (And.intro hkk hmm))
  clear hs hc0 hcell hx hG hz hn hkk hmm t1
  by_cases h0 : 0 < kn
  · obtain ⟨x, b1, hx0⟩ := hz1 h0
    generalize x.toNat = xn at *
    clear hz1
    go_enter Try.func58, Try.ntmps58
    go_wp2
    go_loop [8, 9] (fun v i => ∃ j : Nat, j ≤ kn ∧ i = .int .i64 ((j : Int) + 1) ∧ v = .int .u64 (valB (r.take j) : Int)) (fun _ i => kn + 1 - (intOf i).toNat)
    case atStart => exact ⟨0, Nat.zero_le _, rfl, rfl⟩
    case round =>
      obtain ⟨j, hj, rfl, rfl⟩ := hrel
      by_cases hlt : j < kn
      · have hjr : j < r.length := by have := HK.out.2.2; omega
        have hc := HCELL.out j hjr
        have hv := valB_take r j hjr
        have hb := valB_lt (r.take j)
        have hl7 : (r.take j).length ≤ 7 := by simp; omega
        have hp : 256 ^ (r.take j).length ≤ 256 ^ 7 := Nat.pow_le_pow_right (by decide) hl7
        have hlt7 : valB (r.take j) < 72057594037927936 := by have : (256 : Nat) ^ 7 = 72057594037927936 := by decide
                                                              omega
        have hx := r[j].isLt
        have hja : (j : Int) + 1 ≤ (kn : Int) := by omega
        obtain ⟨q, hq⟩ : ∃ q, q = valB (r.take (j + 1)) := ⟨_, rfl⟩
        rw [← hq] at hv
        have HV := Lib.hid (And.intro hq hv)
        clear hv hb hp hl7 hq
        generalize valB (r.take j) = V at *
        generalize r[j].toNat = x at *
        go_wp2
        go_round
        case rel => exact ⟨j + 1, by omega, by go_num, by rw [← HV.out.1, HV.out.2]; go_num⟩
        case measure => simp [intOf]; omega
      · obtain rfl : j = kn := by omega
        have hV : valB (r.take j) = numV (k :: r) := by rw [HK.out.2.1]; rfl
        have hVl := numV_lt (k :: r) HX.out
        rw [← hV] at hVl
        have hnm : n = m + 1 := by omega
        have HL := Lib.hid (show (numR (k :: r)).length = m - j by rw [HK.out.2.1, HK.out.2.2]; simp [numR])
        have HKK := Lib.hid (show numK (k :: r) = 1 + j by rw [HK.out.2.1]; rfl)
        obtain ⟨V, hVV⟩ : ∃ V, V = valB (r.take j) := ⟨_, rfl⟩
        rw [← hVV] at hVl hV ⊢
        have HV := Lib.hid hV
        clear hV hVV
        generalize hA0 : some ad = A0 at *
        obtain ⟨A1, hA1⟩ : ∃ A1, (if c = 1 + j then A0 else Option.map (fun x => x.add (1 + j)) A0) = A1 := ⟨_, rfl⟩
        obtain ⟨m1, hm1⟩ : ∃ m1, n - (1 + j) = m1 := ⟨_, rfl⟩
        obtain ⟨c1', hc1'⟩ : ∃ c1', c - (1 + j) = c1' := ⟨_, rfl⟩
        have hmc : m1 ≤ c1' := by omega
        have hm1m : m1 ≤ m := by omega
        have hm2 : m + 1 - (1 + j) = m1 := by omega
        have HA1 := Lib.hid (show cutA A0 c (1 + j) = A1 ∧ c - (1 + j) = c1' ∧ m - j = m1 from ⟨hA1, hc1', by omega⟩)
        clear hnm
        have hbig : ¬ f.n < V := by rw [HV.out]; exact hlast.1
        have hfit : V ≤ m1 := by have := hlast.2; rw [HL.out, HA1.out.2.2, ← HV.out] at this; exact this
        have hnsh : ¬ m1 < V := by omega
        go_upto_region 27 with fail
        rw [hA1, hm1, hc1']
        have hlr : (numR (k :: r)).length = m1 := by rw [HL.out, HA1.out.2.2]
        have hG : G = ⟨⟨1, 0, A1, c1', (numR (k :: r)).take V, zeros 32⟩, 0, cutA A1 c1' V, c1' - V, (numR (k :: r)).drop V⟩ := by
          rw [HG.out, takeG, if_neg (by rw [HX.out]; simp), if_neg (by rw [← HV.out]; exact hbig), if_neg (by rw [hk1]; decide), if_neg (by rw [hlr, ← HV.out]; exact hnsh), HKK.out, HA1.out.1, HA1.out.2.1, ← HV.out]
        have hz3 := zero_field
        change ∀ w, _ = Result.ok (Value.agg Z35) w at hz3
        have hz0 : ¬ Z35 = #[] := fun h => by have := congrArg Array.size h; cases this
        have hz1 : ¬ Z37 = #[] := fun h => by have := congrArg Array.size h; cases this
        have hz35 : Z35.size = 35 := rfl
        have hz37 : Z37.size = 37 := rfl
        obtain ⟨FD0, hFD0⟩ : ∃ FD0, Z35.setIfInBounds 0 (.int .i64 1) = FD0 := ⟨_, rfl⟩
        obtain ⟨FD, hFD⟩ : ∃ FD, FD0.setIfInBounds 2 (.slice A1 V c1') = FD := ⟨_, rfl⟩
        have sFD0 : FD0.size = 35 := by rw [← hFD0]; rfl
        have sFD : FD.size = 35 := by rw [← hFD, Array.size_setIfInBounds, sFD0]
        obtain ⟨GD1, hGD1⟩ : ∃ GD1, Array.foldl (fun (cs : Array Value) (x : Value × Nat) => cs.setIfInBounds x.snd x.fst) Z37 FD.zipIdx 0 35 = GD1 := ⟨_, rfl⟩
        have e1 : GD1 = (([.int .i64 1, .int .u64 0, .slice A1 V c1'] ++ (zeros 32).map bv ++ [.int .i64 0, .slice none 0 0] : List Value)).toArray := by rw [← hGD1, ← hFD, ← hFD0]; exact fold_text A1 V c1'
        have sGD : GD1.size = 37 := by rw [e1]; rfl
        obtain ⟨GD, hGD⟩ : ∃ GD, GD1.setIfInBounds 36 (.slice (cutA A1 c1' V) (m1 - V) (c1' - V)) = GD := ⟨_, rfl⟩
        have e2 : GD = G.cells.toArray := by
          rw [← hGD, e1, hG]
          refine (fold_end ([.int .i64 1, .int .u64 0, .slice A1 V c1'] ++ (zeros 32).map bv) rfl (cutA A1 c1' V) (m1 - V) (c1' - V)).trans ?_
          rw [Gt.cells, Fd.cells, List.length_take, List.length_drop, hlr, Nat.min_eq_left hfit]; rfl
        have s2 : GD.size = 37 := by rw [← hGD, Array.size_setIfInBounds, sGD]
        have H1 := Lib.hid (show (Try.prog.info? 94).map (·.size) = some GD.size by rw [s2]; kernel_rfl)
        have H2 := Lib.hid (show Z37.size = GD.size by rw [s2]; rfl)
        have H3 := Lib.hid (show GD.all (·.oneCell') = true by rw [e2]; exact G.one)
        have E2 := Lib.hid e2
        have g2' := Lib.hid (show (((w.alloc (.cells C 92)).alloc (.cells Z37 94)).drew).heap[w.heap.size + 1]? = _ from g2.out)
        have sh := slice_hi64 A1 m1 c1' V hfit hmc
        have sl := slice_lo64 A1 m1 c1' V hfit
        have c0k : f.k = 1 := hk1
        rw [hk1] at c0
        clear e1 e2 s2 hG hlr hlast
        go_upto_region 31 with fail
        go_still_tail 8, (by kernel_rfl)
        change wpList _ _ _ _ _ (((w.alloc (.cells C 92)).alloc (.cells Z37 94)).drew)
        refine wpList_store_row rfl _ _ _ rfl (w.heap.size + 1) GD rfl rfl 94 Z37 g2'.out H1.out H2.out H3.out ?_
        go_wp2_with fail
        refine bodyPost_ret (v := .agg GD) ?_ rfl ⟨by rw [E2.out], ((((Turn.refl (fun _ => False) w).alloc _).alloc _).drew).setRow _ _ (fun h => by omega)⟩
        exact results_cell_row Try.results58 _ _ (w.heap.size + 1) _ GD (0, 0) _ rfl (setRow_heap _ _ _ _ _ _ g2'.out) Try.underlying94 rfl H1.out
  · clear hz1
    go_enter Try.func58, Try.ntmps58
    go_wp2
    go_loop [8, 9] (fun v i => ∃ j : Nat, j ≤ kn ∧ i = .int .i64 ((j : Int) + 1) ∧ v = .int .u64 (valB (r.take j) : Int)) (fun _ i => kn + 1 - (intOf i).toNat)
    case atStart => exact ⟨0, Nat.zero_le _, rfl, rfl⟩
    case round =>
      obtain ⟨j, hj, rfl, rfl⟩ := hrel
      by_cases hlt : j < kn
      · omega
      · obtain rfl : j = kn := by omega
        have hV : valB (r.take j) = numV (k :: r) := by rw [HK.out.2.1]; rfl
        have hVl := numV_lt (k :: r) HX.out
        rw [← hV] at hVl
        have hnm : n = m + 1 := by omega
        have HL := Lib.hid (show (numR (k :: r)).length = m - j by rw [HK.out.2.1, HK.out.2.2]; simp [numR])
        have HKK := Lib.hid (show numK (k :: r) = 1 + j by rw [HK.out.2.1]; rfl)
        obtain ⟨V, hVV⟩ : ∃ V, V = valB (r.take j) := ⟨_, rfl⟩
        rw [← hVV] at hVl hV ⊢
        have HV := Lib.hid hV
        clear hV hVV
        generalize hA0 : some ad = A0 at *
        obtain ⟨A1, hA1⟩ : ∃ A1, (if c = 1 + j then A0 else Option.map (fun x => x.add (1 + j)) A0) = A1 := ⟨_, rfl⟩
        obtain ⟨m1, hm1⟩ : ∃ m1, n - (1 + j) = m1 := ⟨_, rfl⟩
        obtain ⟨c1', hc1'⟩ : ∃ c1', c - (1 + j) = c1' := ⟨_, rfl⟩
        have hmc : m1 ≤ c1' := by omega
        have hm1m : m1 ≤ m := by omega
        have hm2 : m + 1 - (1 + j) = m1 := by omega
        have HA1 := Lib.hid (show cutA A0 c (1 + j) = A1 ∧ c - (1 + j) = c1' ∧ m - j = m1 from ⟨hA1, hc1', by omega⟩)
        clear hnm
        have hbig : ¬ f.n < V := by rw [HV.out]; exact hlast.1
        have hfit : V ≤ m1 := by have := hlast.2; rw [HL.out, HA1.out.2.2, ← HV.out] at this; exact this
        have hnsh : ¬ m1 < V := by omega
        go_upto_region 27 with fail
        rw [hA1, hm1, hc1']
        have hlr : (numR (k :: r)).length = m1 := by rw [HL.out, HA1.out.2.2]
        have hG : G = ⟨⟨1, 0, A1, c1', (numR (k :: r)).take V, zeros 32⟩, 0, cutA A1 c1' V, c1' - V, (numR (k :: r)).drop V⟩ := by
          rw [HG.out, takeG, if_neg (by rw [HX.out]; simp), if_neg (by rw [← HV.out]; exact hbig), if_neg (by rw [hk1]; decide), if_neg (by rw [hlr, ← HV.out]; exact hnsh), HKK.out, HA1.out.1, HA1.out.2.1, ← HV.out]
        have hz3 := zero_field
        change ∀ w, _ = Result.ok (Value.agg Z35) w at hz3
        have hz0 : ¬ Z35 = #[] := fun h => by have := congrArg Array.size h; cases this
        have hz1 : ¬ Z37 = #[] := fun h => by have := congrArg Array.size h; cases this
        have hz35 : Z35.size = 35 := rfl
        have hz37 : Z37.size = 37 := rfl
        obtain ⟨FD0, hFD0⟩ : ∃ FD0, Z35.setIfInBounds 0 (.int .i64 1) = FD0 := ⟨_, rfl⟩
        obtain ⟨FD, hFD⟩ : ∃ FD, FD0.setIfInBounds 2 (.slice A1 V c1') = FD := ⟨_, rfl⟩
        have sFD0 : FD0.size = 35 := by rw [← hFD0]; rfl
        have sFD : FD.size = 35 := by rw [← hFD, Array.size_setIfInBounds, sFD0]
        obtain ⟨GD1, hGD1⟩ : ∃ GD1, Array.foldl (fun (cs : Array Value) (x : Value × Nat) => cs.setIfInBounds x.snd x.fst) Z37 FD.zipIdx 0 35 = GD1 := ⟨_, rfl⟩
        have e1 : GD1 = (([.int .i64 1, .int .u64 0, .slice A1 V c1'] ++ (zeros 32).map bv ++ [.int .i64 0, .slice none 0 0] : List Value)).toArray := by rw [← hGD1, ← hFD, ← hFD0]; exact fold_text A1 V c1'
        have sGD : GD1.size = 37 := by rw [e1]; rfl
        obtain ⟨GD, hGD⟩ : ∃ GD, GD1.setIfInBounds 36 (.slice (cutA A1 c1' V) (m1 - V) (c1' - V)) = GD := ⟨_, rfl⟩
        have e2 : GD = G.cells.toArray := by
          rw [← hGD, e1, hG]
          refine (fold_end ([.int .i64 1, .int .u64 0, .slice A1 V c1'] ++ (zeros 32).map bv) rfl (cutA A1 c1' V) (m1 - V) (c1' - V)).trans ?_
          rw [Gt.cells, Fd.cells, List.length_take, List.length_drop, hlr, Nat.min_eq_left hfit]; rfl
        have s2 : GD.size = 37 := by rw [← hGD, Array.size_setIfInBounds, sGD]
        have H1 := Lib.hid (show (Try.prog.info? 94).map (·.size) = some GD.size by rw [s2]; kernel_rfl)
        have H2 := Lib.hid (show Z37.size = GD.size by rw [s2]; rfl)
        have H3 := Lib.hid (show GD.all (·.oneCell') = true by rw [e2]; exact G.one)
        have E2 := Lib.hid e2
        have g2' := Lib.hid (show (((w.alloc (.cells C 92)).alloc (.cells Z37 94)).drew).heap[w.heap.size + 1]? = _ from g2.out)
        have sh := slice_hi64 A1 m1 c1' V hfit hmc
        have sl := slice_lo64 A1 m1 c1' V hfit
        have c0k : f.k = 1 := hk1
        rw [hk1] at c0
        clear e1 e2 s2 hG hlr hlast
        go_upto_region 31 with fail
        go_still_tail 8, (by kernel_rfl)
        change wpList _ _ _ _ _ (((w.alloc (.cells C 92)).alloc (.cells Z37 94)).drew)
        refine wpList_store_row rfl _ _ _ rfl (w.heap.size + 1) GD rfl rfl 94 Z37 g2'.out H1.out H2.out H3.out ?_
        go_wp2_with fail
        refine bodyPost_ret (v := .agg GD) ?_ rfl ⟨by rw [E2.out], ((((Turn.refl (fun _ => False) w).alloc _).alloc _).drew).setRow _ _ (fun h => by omega)⟩
        exact results_cell_row Try.results58 _ _ (w.heap.size + 1) _ GD (0, 0) _ rfl (setRow_heap _ _ _ _ _ _ g2'.out) Try.underlying94 rfl H1.out
end Go.Proofs.Ytgjplbanfnomkaa
