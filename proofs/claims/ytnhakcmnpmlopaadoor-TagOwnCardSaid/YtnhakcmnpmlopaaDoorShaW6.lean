/- The contracts of the code's 'Sum' and 'Under'. -/
import Derived.Test.YtnhakcmnpmlopaaDoorShaW5
namespace Go.Proofs.YtnhakcmnpmlopaaDoor
open Go.RowKit

/-- Bytes that lie in a slice. -/
def Bts (w : World) (A : Option Addr) (xs : List B8) : Prop := ∀ (j : Nat) (u : Value), (xs.map bv)[j]? = some u → ∃ ad, A = some ad ∧ w.cell? (ad.add j) = some u
theorem Bts.src {w w' : World} {A : Option Addr} {xs : List B8} {B g : Nat} (h : Bts w A xs) (hb : Below B w w') (hB : B = w.heap.size) (hg : B ≤ g) : Src w' g A xs := fun j u hu => by
  obtain ⟨ad, e, hc⟩ := h j u hu
  have hlt := World.block_lt_of_cell? w _ hc
  rw [add_block] at hlt
  exact ⟨ad, e, by omega, (hb.cell (by rw [add_block]; omega)).trans hc⟩
theorem Bts.below {w w' : World} {A : Option Addr} {xs : List B8} (h : Bts w A xs) (hb : Below w.heap.size w w') : Bts w' A xs := fun j u hu => by
  obtain ⟨ad, e, hc⟩ := h j u hu
  have hlt := World.block_lt_of_cell? w _ hc
  exact ⟨ad, e, (hb.cell hlt).trans hc⟩
/-- Lists of bytes that lie in a slice of slices. -/
def Lst (w : World) (A : Option Addr) (ls : List (List B8)) : Prop := ∀ (i : Nat) (xs : List B8), ls[i]? = some xs → ∃ ad Ai ci, A = some ad ∧ w.cell? (ad.add i) = some (.slice Ai xs.length ci) ∧ xs.length ≤ ci ∧ Bts w Ai xs
theorem Lst.below {w w' : World} {A : Option Addr} {ls : List (List B8)} (h : Lst w A ls) (hb : Below w.heap.size w w') : Lst w' A ls := fun i xs hi => by
  obtain ⟨ad, Ai, ci, e, hc, hl, hs⟩ := h i xs hi
  exact ⟨ad, Ai, ci, e, (hb.cell (World.block_lt_of_cell? w _ hc)).trans hc, hl, hs.below hb⟩
theorem eat_nil : Eat [] H8 (zeros 64) 0 := ⟨rfl, rfl, rfl, rfl⟩
theorem below_of_grown {w w' : World} {g : Nat} {B : Nat} {w0 : World} (hb : Below B w0 w) (h : w.grownBy w' (some g)) (hB : B ≤ w.heap.size) (hg : B ≤ g) : Below B w0 w' := hb.grown h hB (fun k hk => by injection hk with hk; omega)

theorem wpList_build_eq {P : Program} {w : World} {ops : Array Oper} {rest : List Oper} {o : Oper} {a : Act} {Q : Exit → Act → World → Prop} (hg : o.guard = none) (t : TypeId) (parts : Array (Nat × Operand)) (ho : o.op = .build t parts)
    (cs : Array Value) (hf' : P.built t (parts.toList.map fun p => (p.1, a.eval p.2)) = some cs) (h : wpList P ops Q rest (a.put o.dst (.agg cs)) w) : wpList P ops Q (o :: rest) a w :=
  have hf : P.built t (parts.map fun (i, x) => (i, a.eval x)).toList = some cs := by rw [Array.toList_map]; exact hf'
  wpList_build hg t parts ho (by rw [hf]; rfl) (by rw [hf]; exact h)
theorem built_dig (x0 x1 x2 x3 x4 x5 x6 x7 : Int) : Tryd.prog.built 56 [(0, .agg #[.int .u32 x0, .int .u32 x1, .int .u32 x2, .int .u32 x3, .int .u32 x4, .int .u32 x5, .int .u32 x6, .int .u32 x7])] =
    some ([Value.int .u32 x0, Value.int .u32 x1, Value.int .u32 x2, Value.int .u32 x3, Value.int .u32 x4, Value.int .u32 x5, Value.int .u32 x6, Value.int .u32 x7] ++ ((zeros 64).map bv ++ [Value.int .i64 ((0 : Nat) : Int), Value.int .u64 ((0 : Nat) : Int)])).toArray := by kernel_rfl
def Z74 : Array Value := (List.replicate 8 (Value.int .u32 0) ++ (List.replicate 64 (Value.int .u8 0) ++ [Value.int .i64 0, Value.int .u64 0])).toArray
theorem zero_dig (w : World) : (zeroValue 56).run Tryd.prog w = .ok (.agg Z74) w := by kernel_rfl
theorem dcells_size (v : V8) (m : List B8) (f l : Nat) (h : m.length = 64) : (dcells v m f l).size = 74 := by simp [dcells, h]
theorem dcells_one (v : V8) (m : List B8) (f l : Nat) : (dcells v m f l).all (·.oneCell') = true := by
  rw [Array.all_eq_true_iff_forall_mem]
  intro u hu
  simp only [dcells, List.mem_toArray, List.mem_append, List.mem_map, List.mem_cons, List.not_mem_nil, or_false] at hu
  rcases hu with (rfl | rfl | rfl | rfl | rfl | rfl | rfl | rfl) | ⟨x, _, rfl⟩ | (rfl | rfl) <;> rfl
theorem v8_bytes_len (v : V8) : v.bytes.length = 32 := by rw [V8.bytes, flat_len, v8_len]
theorem dig_len (m : List B8) : (dig m).length = 32 := v8_bytes_len _
theorem bvs_one (l : List B8) : (l.map bv).toArray.all (·.oneCell') = true := by
  rw [Array.all_eq_true_iff_forall_mem]
  intro u hu
  simp only [List.mem_toArray, List.mem_map] at hu
  obtain ⟨q, _, rfl⟩ := hu; rfl
set_option maxHeartbeats 2000000 in
theorem sum_any (A : Option Addr) (c : Nat) (ls : List (List B8)) (w : World) (hL : Lst w A ls) (hG : Glob w) (hlen : ls.flatten.length ≤ 1099511627000) (hl : ls.length ≤ 1099511627000) :
    Calls Tryd.prog 20 #[.slice A ls.length c] w fun e w' => e = .returned (.agg ((dig ls.flatten).map bv).toArray) ∧ Below w.heap.size w w' := by
  have c0 : w.cell? ⟨0, 0, none⟩ = some (.int .u32 (H8.a.toNat : Int)) := hG.2.2 0 (by omega)
  have c1 : w.cell? ⟨0, 1, none⟩ = some (.int .u32 (H8.b.toNat : Int)) := hG.2.2 1 (by omega)
  have c2 : w.cell? ⟨0, 2, none⟩ = some (.int .u32 (H8.c.toNat : Int)) := hG.2.2 2 (by omega)
  have c3 : w.cell? ⟨0, 3, none⟩ = some (.int .u32 (H8.d.toNat : Int)) := hG.2.2 3 (by omega)
  have c4 : w.cell? ⟨0, 4, none⟩ = some (.int .u32 (H8.e.toNat : Int)) := hG.2.2 4 (by omega)
  have c5 : w.cell? ⟨0, 5, none⟩ = some (.int .u32 (H8.f.toNat : Int)) := hG.2.2 5 (by omega)
  have c6 : w.cell? ⟨0, 6, none⟩ = some (.int .u32 (H8.g.toNat : Int)) := hG.2.2 6 (by omega)
  have c7 : w.cell? ⟨0, 7, none⟩ = some (.int .u32 (H8.h.toNat : Int)) := hG.2.2 7 (by omega)
  have h2 := hG.1
  have HL := Lib.hid hL
  have HGl := Lib.hid hG
  clear hL hG
  have h0 : 0 < w.heap.size := by omega
  go_enter Tryd.func20, Tryd.ntmps20
  have HB := Lib.hid (built_dig (H8.a.toNat : Int) (H8.b.toNat : Int) (H8.c.toNat : Int) (H8.d.toNat : Int) (H8.e.toNat : Int) (H8.f.toNat : Int) (H8.g.toNat : Int) (H8.h.toNat : Int))
  have H1 := Lib.hid (show (Tryd.prog.info? 56).map (·.size) = some (dcells H8 (zeros 64) 0 0).size by rw [dcells_size _ _ _ _ rfl]; kernel_rfl)
  have H3 := Lib.hid (show 74 = (dcells H8 (zeros 64) 0 0).size by rw [dcells_size _ _ _ _ rfl])
  have H4 := Lib.hid (dcells_one H8 (zeros 64) 0 0)
  have hzd := zero_dig
  go_wp2_with (first
    | (refine wpList_build_eq rfl 56 #[(0, .tmp 6)] rfl (dcells H8 (zeros 64) 0 0) HB.out ?_)
    | (refine wpList_store_row rfl _ _ _ rfl (w.heap.size + 1) (dcells H8 (zeros 64) 0 0) rfl rfl 56 _ (heap_alloc2_new w _ _) H1.out H3.out H4.out ?_))
  obtain ⟨w1, hw1⟩ : ∃ w1, w1 = ((w.alloc (.cells ((zeros 32).map bv).toArray 24)).alloc (.cells Z74 56)).setRow (w.heap.size + 1) (dcells H8 (zeros 64) 0 0) := ⟨_, rfl⟩
  have hd1 : DigAt w1 (w.heap.size + 1) [] := ⟨H8, zeros 64, 0, eat_nil, by rw [hw1]; exact setRow_heap _ _ _ _ _ _ (heap_alloc2_new w _ _)⟩
  have hb1 : Below w.heap.size w w1 := by
    rw [hw1]; exact below_setRow (((Below.refl _ _).alloc (Nat.le_refl _) _).alloc (by simp) _) (by omega) _
  have hz1 : ∃ Z, w1.heap[w.heap.size]? = some (.cells Z 24 (0, 0)) ∧ 32 = Z.size := ⟨_, by rw [hw1, setRow_other _ _ _ _ (by omega)]; exact heap_alloc2_old _ _ _, rfl⟩
  have HW := Lib.hid hw1
  have HD1 := Lib.hid hd1
  have HB1 := Lib.hid hb1
  have HZ1 := Lib.hid hz1
  change Code.wp _ _ _ _ (((w.alloc (.cells ((zeros 32).map bv).toArray 24)).alloc (.cells Z74 56)).setRow (w.heap.size + 1) (dcells H8 (zeros 64) 0 0))
  rw [← hw1]
  clear hw1 hd1 hb1 hz1 HB H1 H3 H4 hzd c0 c1 c2 c3 c4 c5 c6 c7
  go_wp2_with fail
  go_loopw [5, 10] (fun _ i wr => ∃ k : Nat, k ≤ ls.length ∧ i = .int .i64 k ∧ DigAt wr (w.heap.size + 1) (ls.take k).flatten ∧ Below w.heap.size w wr ∧ (∃ Z, wr.heap[w.heap.size]? = some (.cells Z 24 (0, 0)) ∧ 32 = Z.size)) (fun _ i _ => ls.length - (intOf i).toNat)
  case atStart => exact ⟨0, Nat.zero_le _, rfl, HD1.out, HB1.out, HZ1.out⟩
  case round =>
    clear HD1 HB1 HZ1 HW
    obtain ⟨k, hk, rfl, hd, hb, hz⟩ := hrel
    have hGr := HGl.out.below hb HGl.out.1
    by_cases hlt : k < ls.length
    · obtain ⟨ad, Ai, ci, rfl, hc, hci, hs⟩ := HL.out k ls[k] (List.getElem?_eq_getElem hlt)
      have hcr : wr.cell? (ad.add k) = some (.slice Ai ls[k].length ci) := (hb.cell (World.block_lt_of_cell? w _ hc)).trans hc
      have hfl : (ls.take (k + 1)).flatten = (ls.take k).flatten ++ ls[k] := by
        rw [List.take_succ_eq_append_getElem hlt, List.flatten_append]; simp
      have hle : (ls.take k).flatten.length + ls[k].length ≤ 1099511627000 := by
        rw [← List.length_append, ← hfl]
        have hq : ls.flatten.length = (ls.take (k + 1)).flatten.length + (ls.drop (k + 1)).flatten.length := by rw [← List.length_append, ← List.flatten_append, List.take_append_drop]
        omega
      have T := Lib.hid (take_any (w.heap.size + 1) (ls.take k).flatten Ai ci ls[k] wr (hs.src hb rfl (by omega)) hci hd hGr (by omega) (by omega))
      have HFL := Lib.hid hfl
      have HD := Lib.hid hd
      have HB := Lib.hid hb
      have HZ := Lib.hid hz
      clear hfl hle hs hc hd hb hz hGr
      generalize hx : ls[k] = xs at *
      clear hx
      go_wp2_with (go_at_call 25; ((with_reducible refine T.out.mono ?_); rintro e w2 ⟨rfl, hb2, hd2⟩))
      go_roundw
      case rel =>
        refine ⟨k + 1, by omega, by go_num, by rw [HFL.out]; exact hd2, below_of_grown HB.out hb2 HB.out.size (by omega), ?_⟩
        obtain ⟨Z, h1, h2⟩ := HZ.out
        exact ⟨Z, (hb2.block _ (lt_of_block h1) (by intro e; injection e; omega)).trans h1, h2⟩
      case measure => simp [intOf]; omega
    · rw [show ls.take k = ls from List.take_of_length_le (by omega)] at hd
      have T := Lib.hid (end_any (w.heap.size + 1) ls.flatten wr hd hGr (by omega) (by omega))
      obtain ⟨C, hC⟩ : ∃ C, C = ((dig ls.flatten).map bv).toArray := ⟨_, rfl⟩
      rw [← hC] at T
      have hC32 : C.size = 32 := by rw [hC]; simp [dig_len]
      have H1 := Lib.hid (show (Tryd.prog.info? 24).map (·.size) = some C.size by rw [hC32]; kernel_rfl)
      have H3 := Lib.hid (show C.all (·.oneCell') = true by rw [hC]; exact bvs_one _)
      have HC32 := Lib.hid hC32
      have HCC := Lib.hid hC
      have HB := Lib.hid hb
      have HZ := Lib.hid hz
      clear hC hC32 hd hb hz hGr
      go_wp2_with fail
      refine T.out.mono ?_
      rintro e w2 ⟨rfl, hb2⟩
      obtain ⟨Z, hZ, hZs⟩ := HZ.out
      have HA := Lib.hid ((hb2.block _ (lt_of_block hZ) (by intro e; injection e; omega)).trans hZ)
      have H2 := Lib.hid (show Z.size = C.size by rw [HC32.out, ← hZs])
      clear hZ hZs
      go_wp2_with (refine wpList_store_row rfl _ _ _ rfl w.heap.size C rfl rfl _ Z HA.out H1.out H2.out H3.out ?_)
      have hA2 := setRow_heap w2 w.heap.size Z C 24 (0, 0) HA.out
      refine bodyPost_ret (v := .agg C) ?_ rfl ⟨by rw [HCC.out], below_setRow (below_of_grown HB.out hb2 HB.out.size (by omega)) (Nat.le_refl _) C⟩
      exact results_cell_row Tryd.results20 _ _ w.heap.size _ C (0, 0) _ rfl hA2 Tryd.underlying24 rfl H1.out
end Go.Proofs.YtnhakcmnpmlopaaDoor
