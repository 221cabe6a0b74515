/- Merged: The document's 'Made': a right certificate of a first block. -/
import Derived.Test.YthoaaieiiokcmaaGreatDoorM23
namespace Go.Proofs.YthoaaieiiokcmaaGreatDoor
section
set_option linter.unusedVariables false
set_option linter.unusedSimpArgs false
open Go.RowKit
attribute [local go_sem ↓] loadAt_cr loadAt_hd loadAt_en loadAt_id
attribute [local go_sem] run_crLoad run_hdLoad run_enLoad run_idLoad rowOf_drew rowOf_drewN
set_option maxRecDepth 100000 in
theorem built_cr0 (a0 a1 a2 a3 a4 a5 a6 a7 a8 a9 a10 a11 a12 a13 a14 a15 a16 a17 a18 a19 a20 a21 a22 a23 a24 a25 a26 a27 a28 a29 a30 a31 a32 a33 a34 a35 a36 b0 b1 b2 b3 b4 b5 b6 b7 b8 b9 b10 b11 b12 b13 b14 b15 b16 b17 b18 b19 b20 b21 b22 b23 b24 b25 b26 b27 b28 b29 b30 b31 b32 b33 b34 b35 b36 b37 b38 b39 b40 b41 b42 b43 b44 b45 b46 b47 b48 b49 b50 b51 b52 b53 b54 b55 b56 b57 b58 b59 b60 b61 b62 b63 b64 b65 b66 d0 d1 d2 d3 d4 d5 d6 d7 d8 d9 d10 d11 d12 d13 d14 d15 d16 d17 d18 d19 d20 d21 d22 d23 d24 d25 d26 d27 d28 d29 d30 d31 : Value) (SA : Option Addr) (SN SC : Nat) : Tryz.prog.built 35 [(0, .agg (List.toArray (a0 :: a1 :: a2 :: a3 :: a4 :: a5 :: a6 :: a7 :: a8 :: a9 :: a10 :: a11 :: a12 :: a13 :: a14 :: a15 :: a16 :: a17 :: a18 :: a19 :: a20 :: a21 :: a22 :: a23 :: a24 :: a25 :: a26 :: a27 :: a28 :: a29 :: a30 :: a31 :: a32 :: a33 :: a34 :: a35 :: a36 :: []))), (1, .slice SA SN SC), (2, .agg (List.toArray (b0 :: b1 :: b2 :: b3 :: b4 :: b5 :: b6 :: b7 :: b8 :: b9 :: b10 :: b11 :: b12 :: b13 :: b14 :: b15 :: b16 :: b17 :: b18 :: b19 :: b20 :: b21 :: b22 :: b23 :: b24 :: b25 :: b26 :: b27 :: b28 :: b29 :: b30 :: b31 :: b32 :: b33 :: b34 :: b35 :: b36 :: b37 :: b38 :: b39 :: b40 :: b41 :: b42 :: b43 :: b44 :: b45 :: b46 :: b47 :: b48 :: b49 :: b50 :: b51 :: b52 :: b53 :: b54 :: b55 :: b56 :: b57 :: b58 :: b59 :: b60 :: b61 :: b62 :: b63 :: b64 :: b65 :: b66 :: []))), (3, .agg (List.toArray (d0 :: d1 :: d2 :: d3 :: d4 :: d5 :: d6 :: d7 :: d8 :: d9 :: d10 :: d11 :: d12 :: d13 :: d14 :: d15 :: d16 :: d17 :: d18 :: d19 :: d20 :: d21 :: d22 :: d23 :: d24 :: d25 :: d26 :: d27 :: d28 :: d29 :: d30 :: d31 :: [])))] = some (List.toArray (a0 :: a1 :: a2 :: a3 :: a4 :: a5 :: a6 :: a7 :: a8 :: a9 :: a10 :: a11 :: a12 :: a13 :: a14 :: a15 :: a16 :: a17 :: a18 :: a19 :: a20 :: a21 :: a22 :: a23 :: a24 :: a25 :: a26 :: a27 :: a28 :: a29 :: a30 :: a31 :: a32 :: a33 :: a34 :: a35 :: a36 :: .slice SA SN SC :: b0 :: b1 :: b2 :: b3 :: b4 :: b5 :: b6 :: b7 :: b8 :: b9 :: b10 :: b11 :: b12 :: b13 :: b14 :: b15 :: b16 :: b17 :: b18 :: b19 :: b20 :: b21 :: b22 :: b23 :: b24 :: b25 :: b26 :: b27 :: b28 :: b29 :: b30 :: b31 :: b32 :: b33 :: b34 :: b35 :: b36 :: b37 :: b38 :: b39 :: b40 :: b41 :: b42 :: b43 :: b44 :: b45 :: b46 :: b47 :: b48 :: b49 :: b50 :: b51 :: b52 :: b53 :: b54 :: b55 :: b56 :: b57 :: b58 :: b59 :: b60 :: b61 :: b62 :: b63 :: b64 :: b65 :: b66 :: d0 :: d1 :: d2 :: d3 :: d4 :: d5 :: d6 :: d7 :: d8 :: d9 :: d10 :: d11 :: d12 :: d13 :: d14 :: d15 :: d16 :: d17 :: d18 :: d19 :: d20 :: d21 :: d22 :: d23 :: d24 :: d25 :: d26 :: d27 :: d28 :: d29 :: d30 :: d31 :: [])) := by kernel_rfl
set_option maxRecDepth 100000 in
theorem built_cr (e h d : List Value) (SA : Option Addr) (SN SC : Nat) (he : e.length = 37) (hh : h.length = 67) (hd : d.length = 32) : Tryz.prog.built 35 [(0, .agg e.toArray), (1, .slice SA SN SC), (2, .agg h.toArray), (3, .agg d.toArray)] = some (e ++ ([Value.slice SA SN SC] ++ (h ++ d))).toArray := by
  match e, he with
  | a0 :: a1 :: a2 :: a3 :: a4 :: a5 :: a6 :: a7 :: a8 :: a9 :: a10 :: a11 :: a12 :: a13 :: a14 :: a15 :: a16 :: a17 :: a18 :: a19 :: a20 :: a21 :: a22 :: a23 :: a24 :: a25 :: a26 :: a27 :: a28 :: a29 :: a30 :: a31 :: a32 :: a33 :: a34 :: a35 :: a36 :: [], _ =>
    match h, hh with
    | b0 :: b1 :: b2 :: b3 :: b4 :: b5 :: b6 :: b7 :: b8 :: b9 :: b10 :: b11 :: b12 :: b13 :: b14 :: b15 :: b16 :: b17 :: b18 :: b19 :: b20 :: b21 :: b22 :: b23 :: b24 :: b25 :: b26 :: b27 :: b28 :: b29 :: b30 :: b31 :: b32 :: b33 :: b34 :: b35 :: b36 :: b37 :: b38 :: b39 :: b40 :: b41 :: b42 :: b43 :: b44 :: b45 :: b46 :: b47 :: b48 :: b49 :: b50 :: b51 :: b52 :: b53 :: b54 :: b55 :: b56 :: b57 :: b58 :: b59 :: b60 :: b61 :: b62 :: b63 :: b64 :: b65 :: b66 :: [], _ =>
      match d, hd with
      | d0 :: d1 :: d2 :: d3 :: d4 :: d5 :: d6 :: d7 :: d8 :: d9 :: d10 :: d11 :: d12 :: d13 :: d14 :: d15 :: d16 :: d17 :: d18 :: d19 :: d20 :: d21 :: d22 :: d23 :: d24 :: d25 :: d26 :: d27 :: d28 :: d29 :: d30 :: d31 :: [], _ => exact built_cr0 a0 a1 a2 a3 a4 a5 a6 a7 a8 a9 a10 a11 a12 a13 a14 a15 a16 a17 a18 a19 a20 a21 a22 a23 a24 a25 a26 a27 a28 a29 a30 a31 a32 a33 a34 a35 a36 b0 b1 b2 b3 b4 b5 b6 b7 b8 b9 b10 b11 b12 b13 b14 b15 b16 b17 b18 b19 b20 b21 b22 b23 b24 b25 b26 b27 b28 b29 b30 b31 b32 b33 b34 b35 b36 b37 b38 b39 b40 b41 b42 b43 b44 b45 b46 b47 b48 b49 b50 b51 b52 b53 b54 b55 b56 b57 b58 b59 b60 b61 b62 b63 b64 b65 b66 d0 d1 d2 d3 d4 d5 d6 d7 d8 d9 d10 d11 d12 d13 d14 d15 d16 d17 d18 d19 d20 d21 d22 d23 d24 d25 d26 d27 d28 d29 d30 d31 SA SN SC
def CZ : Crt := ⟨EZ, HZ, zeros 32, []⟩
/-- The certificate that is made. -/
def mkC (seed cmd : List B8) (e : Ent) (n : Nat) : Crt := ⟨e, nxB HZ true (rootD (LSof cmd e n)) e.s e.p, signD seed e.s.toNat (formH (nxB HZ true (rootD (LSof cmd e n)) e.s e.p)), pathD (LSof cmd e n) 1⟩
/-- May one be made? -/
def okMk (cmd : List B8) (e : Ent) (n : Nat) : Prop := okN HZ true (LSof cmd e n).length (rootD (LSof cmd e n)) e.s e.p
instance (cmd : List B8) (e : Ent) (n : Nat) : Decidable (okMk cmd e n) := by unfold okMk; infer_instance
theorem CZ_L : CZ.L := ⟨rfl, HZ_L, rfl, fun d h => by simp [CZ] at h⟩
set_option maxRecDepth 100000 in
theorem cr_zero (w : World) : (zeroValue 35).run Tryz.prog w = .ok (.agg (CZ.cells none 0).toArray) w := by kernel_rfl
set_option maxRecDepth 100000 in
theorem results_cr {fn : Func} {p u : Tmp} (h : fn.results = #[.cell p 35, .tmp u]) (tmps : Array Value) (w : World) (g : Nat) (cs : Array Value) (v : Value)
    (hp : tmps.getD p undef = .pointer (some ⟨g, 0, none⟩)) (hv : tmps.getD u undef = v) (hg : w.heap[g]? = some (.cells cs 35 (0, 0))) (hc : cs.size = 137) :
    (results fn tmps).run Tryz.prog w = .ok (.tuple #[.agg cs, v]) w := by
  rw [results_cell_tmp h, hp, hv]
  simp [asAddr, run_loadVar_row w g 35 35 cs (0, 0) _ hg Tryz.underlying35 rfl (by rw [hc]; kernel_rfl), Result.andThen]
theorem does_build {P : Program} {o : Oper} {a : Act} {w : World} {R : Value → World → Prop} (ty : TypeId) (parts : Array (Nat × Operand)) (ho : o.op = .build ty parts) (cs : Array Value) (hf' : P.built ty (parts.toList.map fun p => (p.1, a.eval p.2)) = some cs) (h : R (.agg cs) w) : doesR P o a w R := by
  have hf : P.built ty (parts.map fun (i, x) => (i, a.eval x)).toList = some cs := by rw [Array.toList_map]; exact hf'
  refine does_run (u := .agg cs) (w' := w) ?_ h
  unfold execOp
  simp only [ho, Sem.run_bind, run_build w ty _ cs hf, Result.andThen_ok]
  rfl
theorem turn_ownS {S : Nat → Prop} {a b : World} (h : Turn S a b) {base n s : Nat} {e : TypeId} {v : Value} {xs : List Value} (ho : a.ownsRow base e s v n xs) (hn : ∀ g, v.ownBlock = some g → ¬ S g) : b.ownsRow base e s v n xs := by
  obtain ⟨h1, h2⟩ := ho
  refine ⟨h1, ?_⟩
  rcases h2 with h2 | ⟨g, cap, cur, rfl, hg, hh, r⟩
  · exact .inl h2
  · exact .inr ⟨g, cap, cur, rfl, hg, h.heap hh (hn g rfl), r⟩
theorem own_slN {w : World} {B n s : Nat} {e : TypeId} {v : Value} {xs : List Value} (h : w.ownsRow B e s v n xs) : ∃ A c, v = .slice A n c ∧ n ≤ c ∧ (A = none → c = 0) := by
  rcases h.2 with ⟨rfl, rfl⟩ | ⟨g, cap, cur, rfl, -, -, hc, -⟩
  · exact ⟨none, 0, rfl, Nat.le_refl _, fun _ => rfl⟩
  · exact ⟨_, cap, rfl, hc, fun h => by cases h⟩
theorem pathZ_ids (ls : List (List B8)) : ∀ d ∈ pathZ ls 1, d.length = 32 := by
  unfold pathZ
  rw [if_neg (by decide)]
  exact pathD_ids _ _ _ (Nat.le_refl _)
set_option maxRecDepth 100000 in
set_option maxHeartbeats 16000000 in
theorem rcmade_any (A0 : Option Addr) (c0 : Nat) (seed : List B8) (A1 : Option Addr) (c1 : Nat) (cmd : List B8) (e : Ent) (n : Nat) (w : World) (hK : Bts w A0 seed) (hA0 : A0 = none → c0 = 0) (hc0 : seed.length ≤ c0) (hk : seed.length ≤ 1000000) (hB : Bts w A1 cmd) (hA1 : A1 = none → c1 = 0) (hc1 : cmd.length ≤ c1) (hm : cmd.length ≤ 1000000) (hd : e.d.length = 32) (hn : n < 18446744073709551616) :
    Calls Tryz.prog 6 #[.slice A0 seed.length c0, .slice A1 cmd.length c1, .agg e.cells.toArray, .int .u64 (n : Int)] w fun r w' => Turn (fun _ => False) w w' ∧ (if okMk cmd e n then ∃ A c, r = .returned (.tuple #[.agg ((mkC seed cmd e n).cells A c).toArray, .bool true]) ∧ CPath w' (mkC seed cmd e n) A c else r = .returned (.tuple #[.agg (CZ.cells none 0).toArray, .bool false])) := by
  obtain ⟨EL, hEL⟩ : ∃ L, L = e.cells := ⟨_, rfl⟩
  obtain ⟨ZC, hZC⟩ : ∃ L, L = (CZ.cells none 0).toArray := ⟨_, rfl⟩
  have hcz := cr_zero
  rw [← hZC] at hcz
  have hzd := hd_zero
  obtain ⟨w1, hw1⟩ : ∃ w1, w1 = (w.alloc (.cells EL.toArray 27)).alloc (.cells ZC 35) := ⟨_, rfl⟩
  have t1 : Turn (fun _ => False) w w1 := by rw [hw1]; exact ((Turn.refl _ _).alloc _).alloc _
  have e1 : EAt w1 w.heap.size e := by unfold EAt; rw [← hEL, hw1]; exact heap_alloc2_old _ _ _
  have z1 : w1.heap[w.heap.size + 1]? = some (.cells ZC 35 (0, 0)) := by rw [hw1]; exact heap_alloc2_new _ _ _
  have sz1 : w1.heap.size = w.heap.size + 2 := by rw [hw1]; simp
  have BX := Lib.hid (fun (w' : World) (t : Turn (fun _ => False) w1 w') => show Bts w' A0 seed from bts_turn (bts_turn hK t1) t)
  have LE := Lib.hid (rleaves_u A1 c1 cmd e n w1 (bts_turn hB t1) hA1 hc1 hd hn)
  have RF := Lib.hid (fun (w' : World) (t : Turn (fun _ => False) w1 w') => show rowOf w' w.heap.size 0 37 = some EL.toArray ∧ w'.cell? ⟨w.heap.size, 1, none⟩ = some (.int .i64 e.s) ∧ w'.cell? ⟨w.heap.size, 36, none⟩ = some (.int .i64 e.p) ∧ w'.rangeAt w.heap.size 0 EL from by
    have g := e1.turn t (fun h => h)
    have gc := g.c hd
    have gr := g.row hd
    refine ⟨by rw [hEL]; exact gr, gc.2.1, gc.2.2.2.2, fun j v hj => ?_⟩
    rw [Nat.zero_add, cell_of_row _ _ _ _ _ _ g, List.getElem?_toArray, ← hEL]; exact hj)
  have SM := LSof_small cmd e n hd hm hn
  have KLE := LSof_le cmd e n
  have HD := Lib.hid hd
  have MK := Lib.hid (show mkC seed cmd e n = ⟨e, nxB HZ true (rootD (LSof cmd e n)) e.s e.p, signD seed e.s.toNat (formH (nxB HZ true (rootD (LSof cmd e n)) e.s e.p)), pathZ (LSof cmd e n) 1⟩ by unfold mkC; rw [show pathZ (LSof cmd e n) 1 = pathD (LSof cmd e n) 1 from pathZ_nat _ 1])
  have OK := Lib.hid (show okMk cmd e n ↔ okN HZ true (LSof cmd e n).length (rootD (LSof cmd e n)) e.s e.p from Iff.rfl)
  rw [← hEL] at LE
  rw [← hEL, ← hZC]
  obtain ⟨cl, hcl⟩ : ∃ n, n = cmd.length := ⟨_, rfl⟩
  rw [← hcl] at LE ⊢
  obtain ⟨sl, hsl⟩ : ∃ n, n = seed.length := ⟨_, rfl⟩
  rw [← hsl]
  have HSL := Lib.hid hsl
  have HSD := Lib.hid (And.intro hA0 (And.intro hc0 hk))
  obtain ⟨M, hM⟩ : ∃ M, M = mkC seed cmd e n := ⟨_, rfl⟩
  rw [← hM] at MK ⊢
  obtain ⟨LS, hLS⟩ : ∃ L, L = LSof cmd e n := ⟨_, rfl⟩
  rw [← hLS] at LE SM KLE MK OK
  obtain ⟨k, hkk⟩ : ∃ n, n = LS.length := ⟨_, rfl⟩
  have NR := Lib.hid (fun (L : Option Addr) (w' : World) (hL : LstN w' L LS) (hl : L = none → LS.length = 0) => rnext_any HZ true L LS.length LS.length LS rfl e.s e.p w' HZ_L hL (Nat.le_refl _) hl SM)
  unfold NPost at NR
  rw [HZ_eq] at NR
  have PT := Lib.hid (fun (L : Option Addr) (w' : World) (hL : LstN w' L LS) (hl : L = none → LS.length = 0) => rpath_any LS.length LS (Nat.le_refl _) (by omega) SM L LS.length 1 w' hL (Nat.le_refl _) hl)
  have PI := Lib.hid (pathZ_ids LS)
  obtain ⟨P, hP⟩ : ∃ P, P = pathZ LS 1 := ⟨_, rfl⟩
  rw [← hP] at PT MK PI
  obtain ⟨R, hR⟩ : ∃ R, R = rootD LS := ⟨_, rfl⟩
  have hR32 : R.length = 32 := by rw [hR]; exact rootD_len _
  rw [← hR] at NR MK OK
  rw [← hkk] at LE NR PT OK KLE
  have NVL := nxV_L HZ true k R e.s e.p hR32
  obtain ⟨V, hV⟩ : ∃ V, V = (nxV HZ true k R e.s e.p).cells := ⟨_, rfl⟩
  obtain ⟨K, hK'⟩ : ∃ K, K = decide (okN HZ true k R e.s e.p) := ⟨_, rfl⟩
  rw [← hV, ← hK'] at NR
  have sV : V.length = 67 := by rw [hV, Hdr.len _ NVL]
  have V1 := Lib.hid (show (Tryz.prog.info? 33).map (·.size) = some V.toArray.size by rw [List.size_toArray, sV]; exact hd_info)
  have V2 := Lib.hid (show Z67H.size = V.toArray.size from (show Z67H.size = 67 from rfl).trans (by rw [List.size_toArray, sV]))
  have V3 := Lib.hid (show V.toArray.all (·.oneCell') = true by rw [hV]; exact Hdr.one _)
  have sZ : ZC.size = 137 := by rw [hZC, List.size_toArray, Crt.len _ _ _ CZ_L]
  have K1 := Lib.hid (show (Tryz.prog.info? 35).map (·.size) = some ZC.size by rw [sZ]; exact cr_info)
  have K3 := Lib.hid (show ZC.all (·.oneCell') = true by rw [hZC]; exact Crt.one _ _ _)
  have HSZ := Lib.hid sZ
  have HZC := Lib.hid hZC
  have HV := Lib.hid hV
  have HSV := Lib.hid sV
  have HEL := Lib.hid hEL
  have HM := Lib.hid MK.out
  have T1 := Lib.hid t1
  have Z1 := Lib.hid z1
  have S1 := Lib.hid sz1
  have HKK := Lib.hid hkk
  have HR32 := Lib.hid hR32
  have HK' := Lib.hid hK'
  clear hK' t1 e1 z1 sz1 hK hA0 hc0 hk hB hA1 hc1 hm hd hn hEL hZC hcl hsl hM hLS hkk hP hR hR32 hV sV sZ MK SM NVL
  go_enter Tryz.func6, Tryz.ntmps6
  go_upto_region 1 with fail
  change Code.wp _ _ _ _ ((w.alloc (.cells EL.toArray 27)).alloc (.cells ZC 35))
  rw [← hw1]
  clear hw1
  obtain ⟨r1, r2, r3, -⟩ := RF.out w1 (Turn.refl _ _)
  go_wp2_with (go_at_call 17; refine stop ?_)
  unfold Stop
  refine LE.out.mono ?_
  rintro r w2 ⟨t, L, rfl, hL, hLn⟩
  have T2 := Lib.hid t
  have HL2 := Lib.hid hL
  have HLN := Lib.hid hLn
  clear t hL hLn r1 r2 r3 LE
  obtain ⟨r1, r2, r3, -⟩ := RF.out w2 T2.out
  go_wp2_with (go_at_call 18; refine stop ?_)
  unfold Stop
  refine (NR.out L w2 HL2.out HLN.out).mono ?_
  rintro r w3 ⟨rfl, t⟩
  have T3 := Lib.hid (T2.out.trans t (fun _ _ h => h))
  have HL3 := Lib.hid (lstn_turn HL2.out t)
  clear t r1 r2 r3 NR HL2
  have HA4 := Lib.hid (show (w3.alloc (.cells Z67H 33)).heap[w3.heap.size]? = some (.cells Z67H 33 (0, 0)) from heap_alloc_new _ _)
  go_upto_region 3 with (refine wpList_store_row rfl _ _ _ rfl w3.heap.size V.toArray rfl rfl 33 Z67H HA4.out V1.out V2.out V3.out ?_)
  obtain ⟨w5, hw5⟩ : ∃ w5, w5 = (w3.alloc (.cells Z67H 33)).setRow w3.heap.size V.toArray := ⟨_, rfl⟩
  have t5 : Turn (fun _ => False) w3 w5 := by rw [hw5]; exact ((Turn.refl (fun _ => False) w3).alloc _).setRow _ _ (fun h => by omega)
  have T5 := Lib.hid (T3.out.trans t5 (fun _ _ h => h))
  have HL5 := Lib.hid (lstn_turn HL3.out t5)
  have HG5 := Lib.hid (show w5.heap[w3.heap.size]? = some (.cells V.toArray 33 (0, 0)) by rw [hw5]; exact setRow_heap _ _ _ _ _ _ HA4.out)
  change Code.wp _ _ _ _ ((w3.alloc (.cells Z67H 33)).setRow w3.heap.size V.toArray)
  rw [← hw5]
  clear hw5 HA4 t5 HL3 T3
  generalize w3.heap.size = p11 at *
  have Z5 := Lib.hid (T5.out.heap Z1.out (fun h => h))
  cases K
  · have NO := Lib.hid (show ¬ okMk cmd e n from fun h => of_decide_eq_false HK'.out.symm (OK.out.1 h))
    go_wp2_with (refine wpList_store_row rfl _ _ _ rfl (w.heap.size + 1) ZC rfl (by rw [HZC.out]; rfl) 35 ZC Z5.out K1.out rfl K3.out ?_)
    have h3 := setRow_heap w5 (w.heap.size + 1) ZC ZC 35 (0, 0) Z5.out
    refine bodyPost_ret (v := .tuple #[.agg ZC, .bool false]) ?_ rfl ⟨(T1.out.trans T5.out (fun _ _ h => h)).trans ((Turn.refl (fun i => i = w.heap.size + 1) _).setRow _ _ (fun _ => rfl)) (fun i hi h => by have h' : i = w.heap.size + 1 := h; omega), rfl⟩
    exact results_cr Tryz.results6 _ _ (w.heap.size + 1) _ _ rfl rfl h3 HSZ.out
  · have hok : okN HZ true k R e.s e.p := of_decide_eq_true HK'.out.symm
    have YES := Lib.hid (OK.out.2 hok)
    have hv : nxV HZ true k R e.s e.p = nxB HZ true R e.s e.p := if_pos hok
    have hs63 : 0 ≤ e.s ∧ e.s ≤ 63 := by have := hok.2.2; unfold okH nxB at this; simp at this; omega
    obtain ⟨h, hh⟩ : ∃ h, h = nxB HZ true R e.s e.p := ⟨_, rfl⟩
    have hokh : okH h := by rw [hh]; exact hok.2.2
    have hhs : h.s = e.s := by rw [hh]; rfl
    have hhL : h.L := by rw [hh]; exact nxB_L _ _ _ _ _ HR32.out
    have hVh : V = h.cells := by rw [HV.out, hv, hh]
    obtain ⟨kn, hkn⟩ : ∃ k : Nat, e.s = (k : Int) := ⟨e.s.toNat, by omega⟩
    have hkt : e.s.toNat = kn := by omega
    have HM2 := HM.out
    rw [← hh, hkt] at HM2
    have PH := Lib.hid (fun w => hrput_any h w hhL hokh)
    rw [← hVh] at PH
    obtain ⟨G, hG⟩ : ∃ G, G = formH h := ⟨_, rfl⟩
    rw [← hG] at PH HM2
    have hgl : G.length ≤ 100 := by rw [hG]; have := formH_le h hhL hokh; omega
    have SG := Lib.hid (fun (A' : Option Addr) (c' : Nat) (w' : World) (t : Turn (fun _ => False) w1 w') hB hA' hc' => rsign_any A0 A' c0 c' kn seed G w' (BX.out w' t) HSD.out.1 HSD.out.2.1 hB hA' hc' HSD.out.2.2 (by omega) (by omega))
    obtain ⟨SD, hSD⟩ : ∃ L, L = (signD seed kn G).map bv := ⟨_, rfl⟩
    rw [show (List.map bv (signD seed kn G)).toArray = SD.toArray by rw [hSD], ← HSL.out] at SG
    obtain ⟨gl, hgl'⟩ : ∃ n, n = G.length := ⟨_, rfl⟩
    rw [← hgl'] at PH SG
    obtain ⟨pl, hpl⟩ : ∃ n, n = P.length := ⟨_, rfl⟩
    rw [← hpl] at PT
    have HPL := Lib.hid hpl
    have MCE := Lib.hid (show ∀ A c, (M.cells A c).toArray = (EL ++ ([Value.slice A pl c] ++ (V ++ SD))).toArray from fun A c => by rw [HM2, HEL.out, hVh, hSD, hpl]; rfl)
    have ML := Lib.hid (show M.L by rw [HM2]; exact ⟨HD.out, hhL, signD_len _ _ _, PI.out⟩)
    have MI := Lib.hid (show M.ids = P by rw [HM2])
    have nE : EL.length = 37 := by rw [HEL.out]; exact Ent.len _ HD.out
    have nV : V.length = 67 := HSV.out
    have nS : SD.length = 32 := by rw [hSD, List.length_map]; exact signD_len _ _ _
    have BC := Lib.hid (fun (A : Option Addr) (c : Nat) => built_cr EL V SD A pl c nE nV nS)
    have ZEL := Lib.hid (show (Tryz.prog.info? 27).map (·.size) = some EL.length by rw [nE]; exact en_info)
    have ZVL := Lib.hid (show (Tryz.prog.info? 33).map (·.size) = some V.length by rw [nV]; exact hd_info)
    have RV := Lib.hid (show ∀ w' : World, Turn (fun _ => False) w5 w' → w'.rangeAt p11 0 V ∧ w'.cell? ⟨p11, 0, none⟩ = some (.int .i64 (kn : Int)) from fun w' t => by
      have g := t.heap HG5.out (fun h => h)
      refine ⟨fun j v hj => by rw [Nat.zero_add, cell_of_row _ _ _ _ _ _ g, List.getElem?_toArray]; exact hj, ?_⟩
      have gh : HAt w' p11 h := by unfold HAt; rw [← hVh]; exact g
      rw [← hkn, ← hhs]; exact gh.c.1)
    have HB5 := Lib.hid (show w.heap.size + 2 ≤ w5.heap.size by have := S1.out; have := T5.out.size; omega)
    clear hok hv hs63 hokh hhs hhL hVh hkn hkt HM2 hG hgl hSD hgl' hpl nE nV nS hh
    go_upto_region 5 with fail
    have HWS := Lib.hid (fun (w' : World) (h : Stp w5.drew w') => show Turn (fun _ => False) w5 w' from Turn.of_below (stp_start h (Below.refl _ _)))
    refine wp_region_rel_tail 11 41 (by kernel_rfl) (by kernel_rfl) Stp [.one ?_, .one ?_, .rel (fun v w => w.ownsRow w5.heap.size 24 32 v pl (idsV P)), .one ?_, .one ?_, .one ?_, .one ?_, .one ?_, .rel (fun v w => w.ownsRow w5.heap.size 5 1 v gl (G.map bv)), .one ?_, .rel (fun v w => ∃ A c, v = .agg (M.cells A c).toArray ∧ w.ownsRow w5.heap.size 24 32 (.slice A pl c) pl (idsV P))] (by kernel_rfl) rfl (by kernel_rfl) Stp.refl Stp.trans ⟨fun v w w' h1 h2 => own_below h1 h2, fun v w w' h1 h2 => own_below h1 h2, fun v w w' h1 h2 => h1.elim fun A h => h.elim fun c h => ⟨A, c, h.1, own_below h.2 h2⟩, trivial⟩ ?main
    case main =>
    simp only [List.take_succ_cons, List.take_zero, List.drop_succ_cons, List.drop_zero]
    refine wpR_one (A' := ?_) Stp.refl (by rfl) _ rfl 41 (by rfl) (by rfl) ?_ ?_ ?_
    rotate_left 1
    · simp only [Act.put, List.setIfInBounds_toArray, List.set_cons_zero, List.set_cons_succ]; rfl
    · intro w1 hs hf K hK
      refine cls_load 27 (.tmp 6) rfl (w.heap.size) (0) rfl (EL) _ (fun w4 h2 => (RF.out w4 (T5.out.trans (HWS.out w4 (Stp.trans _ _ _ hs h2)) (fun _ _ h => h))).2.2.2) Tryz.underlying27 rfl ZEL.out ?_
      refine hK _ ?_
      simp only [Act.put, List.setIfInBounds_toArray, List.set_cons_zero, List.set_cons_succ]
      rfl
    iterate 1
      refine wpR_one (A' := ?_) Stp.refl (by rfl) _ rfl 41 (by rfl) (by rfl) ?_ ?_ ?_
      rotate_left 1
      · simp only [Act.put, List.setIfInBounds_toArray, List.set_cons_zero, List.set_cons_succ]; rfl
      · intro w1 hs hf K hK
        go_big_quiet_op
        first
          | go_big_quiet_on
          | (refine ⟨_, fun _ _ => rfl, ?_⟩; go_big_quiet_on)
        rfl
    refine wpR_rel (A' := ?_) (by rfl) ?_ ?_ ?_
    · intro w1' hs hf
      have hz : w5.heap.size ≤ w1'.heap.size := Below.size (w := w5.drew) hs
      refine does_call (w' := w1') (f := 19) (args := #[.slice L k k, .int .i64 1]) (by kernel_rfl) ((PT.out L w1' (lstn_turn HL5.out (HWS.out w1' hs)) HLN.out).mono ?_)
      rintro e w3 ⟨v, rfl, ho, h3⟩
      exact ⟨v, rfl, ⟨ho.1, by
        rcases ho.2 with h | ⟨g, cap, cur, e, hb, r⟩
        · exact .inl h
        · exact .inr ⟨g, cap, cur, e, Nat.le_trans hz hb, r⟩⟩, h3⟩
    rotate_left 1
    · intro x
      simp only [Act.put, List.setIfInBounds_toArray, List.set_cons_zero, List.set_cons_succ]; rfl
    intro x32
    refine wpR_one (A' := ?_) Stp.refl (by rfl) _ rfl 41 (by rfl) (by rfl) ?_ ?_ ?_
    rotate_left 1
    · simp only [Act.put, List.setIfInBounds_toArray, List.set_cons_zero, List.set_cons_succ]; rfl
    · intro w1 hs hf K hK
      refine cls_load 33 (.tmp 11) rfl (p11) (0) rfl (V) _ (fun w4 h2 => (RV.out w4 (HWS.out w4 (Stp.trans _ _ _ hs h2))).1) Tryz.underlying33 rfl ZVL.out ?_
      refine hK _ ?_
      simp only [Act.put, List.setIfInBounds_toArray, List.set_cons_zero, List.set_cons_succ]
      rfl
    iterate 2
      refine wpR_one (A' := ?_) Stp.refl (by rfl) _ rfl 41 (by rfl) (by rfl) ?_ ?_ ?_
      rotate_left 1
      · simp only [Act.put, List.setIfInBounds_toArray, List.set_cons_zero, List.set_cons_succ]; rfl
      · intro w1 hs hf K hK
        go_big_quiet_op
        first
          | go_big_quiet_on
          | (refine ⟨_, fun _ _ => rfl, ?_⟩; go_big_quiet_on)
        rfl
    refine wpR_one (A' := ?_) Stp.refl (by rfl) _ rfl 41 (by rfl) (by rfl) ?_ ?_ ?_
    rotate_left 1
    · simp only [Act.put, List.setIfInBounds_toArray, List.set_cons_zero, List.set_cons_succ]; rfl
    · intro w1 hs hf K hK
      refine cls_load_cell 3 (.tmp 35) rfl ⟨p11, 0, none⟩ rfl (.int .i64 (kn : Int)) (fun w h => by simp [go_sem, h]) (fun w4 h2 => (RV.out w4 (HWS.out w4 (Stp.trans _ _ _ hs h2))).2) ?_
      refine hK _ ?_
      simp only [Act.put, List.setIfInBounds_toArray, List.set_cons_zero, List.set_cons_succ]
      rfl
    refine wpR_one (A' := ?_) Stp.refl (by rfl) _ rfl 41 (by rfl) (by rfl) ?_ ?_ ?_
    rotate_left 1
    · simp only [Act.put, List.setIfInBounds_toArray, List.set_cons_zero, List.set_cons_succ]; rfl
    · intro w1 hs hf K hK
      refine cls_load 33 (.tmp 11) rfl (p11) (0) rfl (V) _ (fun w4 h2 => (RV.out w4 (HWS.out w4 (Stp.trans _ _ _ hs h2))).1) Tryz.underlying33 rfl ZVL.out ?_
      refine hK _ ?_
      simp only [Act.put, List.setIfInBounds_toArray, List.set_cons_zero, List.set_cons_succ]
      rfl
    refine wpR_rel (A' := ?_) (by rfl) ?_ ?_ ?_
    · intro w1' hs hf
      have hz : w5.heap.size ≤ w1'.heap.size := Below.size (w := w5.drew) hs
      refine does_call (w' := w1') (f := 21) (args := #[.agg V.toArray]) (by kernel_rfl) ((PH.out w1').mono ?_)
      rintro e w3 ⟨v, rfl, ho, h3⟩
      exact ⟨v, rfl, own_more ho hz, turn_stp' h3⟩
    rotate_left 1
    · intro x
      simp only [Act.put, List.setIfInBounds_toArray, List.set_cons_zero, List.set_cons_succ]; rfl
    intro x38
    refine wpR_one (A' := ?_) Stp.refl (by rfl) _ rfl 41 (by rfl) (by rfl) ?_ ?_ ?_
    rotate_left 1
    · simp only [Act.put, List.setIfInBounds_toArray, List.set_cons_zero, List.set_cons_succ]; rfl
    · intro w1' hs hf K hK
      obtain ⟨A5, c5, e5, s5, -, l5, n5⟩ := own_sl (show w1'.ownsRow w5.heap.size 5 1 x38 gl (G.map bv) from AllF_at hf 0 rfl (by kernel_rfl))
      subst e5
      have HS5 := Lib.hid (And.intro (Bts.of_sl s5) (And.intro n5 l5))
      clear s5 n5 l5
      go_big_quiet_op
      apply Exists.intro
      refine ⟨fun w4 h2 => ?_, ?_⟩
      · refine (SG.out A5 c5 w4 (T5.out.trans (HWS.out w4 (Stp.trans _ _ _ hs h2)) (fun _ _ h => h)) (HS5.out.1.below h2) HS5.out.2.1 HS5.out.2.2).mono ?_
        rintro e w3 ⟨rfl, h3⟩
        exact ⟨rfl, Stp.trans _ _ _ h2 h3⟩
      · go_big_quiet_on
        rfl
    refine wpR_rel (A' := ?_) (by rfl) ?_ ?_ ?_
    · intro w1' hs hf
      have ho : w1'.ownsRow w5.heap.size 24 32 x32 pl (idsV P) := AllF_at hf 1 rfl (by kernel_rfl)
      obtain ⟨A, c, e32, -, -⟩ := own_slN ho
      subst e32
      refine does_build 35 #[(0, .tmp 30), (1, .tmp 32), (2, .tmp 33), (3, .tmp 39)] rfl (M.cells A c).toArray ((BC.out A c).trans (by rw [MCE.out])) ?_
      exact ⟨⟨A, c, rfl, ho⟩, Stp.refl _⟩
    rotate_left 1
    · intro x
      simp only [Act.put, List.setIfInBounds_toArray, List.set_cons_zero, List.set_cons_succ]; rfl
    intro x40
    intro wx hs hf
    obtain ⟨⟨A, c, e40, ho⟩, -, -⟩ := hf
    subst e40
    have TX := Lib.hid (HWS.out wx hs)
    have T1X := Lib.hid (T5.out.trans TX.out (fun _ _ h => h))
    have HO := Lib.hid ho
    have Z9 := Lib.hid (TX.out.heap Z5.out (fun h => h))
    clear hs ho
    obtain ⟨XC, hXC⟩ : ∃ X, X = (M.cells A c).toArray := ⟨_, rfl⟩
    have sX : XC.size = 137 := by rw [hXC, List.size_toArray, Crt.len _ _ _ ML.out]
    have X1 := Lib.hid (show (Tryz.prog.info? 35).map (·.size) = some XC.size by rw [sX]; exact cr_info)
    have X2 := Lib.hid (show ZC.size = XC.size by rw [sX, HSZ.out])
    have X3 := Lib.hid (show XC.all (·.oneCell') = true by rw [hXC]; exact Crt.one _ _ _)
    have HXC := Lib.hid hXC
    have HSX := Lib.hid sX
    rw [← hXC]
    clear hXC sX
    refine wpList_store_row rfl _ _ _ rfl (w.heap.size + 1) XC rfl rfl 35 ZC Z9.out X1.out X2.out X3.out ?_
    have h3 := setRow_heap wx (w.heap.size + 1) ZC XC 35 (0, 0) Z9.out
    have tz : Turn (fun i => i = w.heap.size + 1) wx (wx.setRow (w.heap.size + 1) XC) := (Turn.refl _ _).setRow _ _ (fun _ => rfl)
    have HOZ := Lib.hid (turn_ownS tz HO.out (fun g hg h => by have := (HO.out.lt g hg).1; have := HB5.out; omega))
    go_wp2_with fail
    refine bodyPost_ret (v := .tuple #[.agg XC, .bool true]) ?_ rfl ⟨(T1.out.trans T1X.out (fun _ _ h => h)).trans tz (fun i hi h => by have h' : i = w.heap.size + 1 := h; omega), ?_⟩
    · exact results_cr Tryz.results6 _ _ (w.heap.size + 1) _ _ rfl rfl h3 HSX.out
    · show ∃ A c, _ ∧ _
      obtain ⟨A', c', e', hc', hn'⟩ := own_slN HOZ.out
      injection e' with e1 e2 e3
      subst e1 e3
      refine ⟨A, c, by rw [HXC.out], ?_⟩
      unfold CPath
      rw [MI.out]
      exact ⟨IdsAt.of_own HOZ.out PI.out, by rw [← HPL.out]; exact hc', hn'⟩
end
end Go.Proofs.YthoaaieiiokcmaaGreatDoor
