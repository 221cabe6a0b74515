/- The document's 'Bytes'; an append that tells the new block from any elder one. -/
import Derived.Test.YtoagneibaincpaaDoorTgC
set_option linter.unusedVariables false
namespace Go.Proofs.YtoagneibaincpaaDoor
open Go.RowKit
section
variable {P : Program} {w : World}
set_option maxRecDepth 100000 in
/-- An appended row lies where it lay, or in a new block. -/
theorem append_where (base : Nat) (t ty e : TypeId) (i : TypeInfo) (z : Value) (ht : P.underlying t = some (.slice e)) (hi : P.info? e = some i) (hz : i.zero = some z) (hsize : i.size = 1) (hzs : z.cells.size = 1)
    (v : Value) (n : Nat) (xs : List Value) (hown : w.ownsRow base e 1 v n xs) (a : Addr) (m c : Nat) (news : List Value) (hl : news.length = m) (hnews : ∀ j u, news[j]? = some u → w.cell? (a.add j) = some u) (h1 : ∀ u ∈ news, u.oneCell' = true)
    (h63 : n + m ≤ maxLen) (hbytes : (n + m) * i.bytes ≤ 140737488355328) (v' : Value) (w' : World) (hr : (Builtin.append_ #[t, t] ty #[v, .slice (some a) m c]).run P w = .ok v' w') (hnil : v' = .slice none 0 0 ↔ v = .slice none 0 0 ∧ m = 0) :
    v'.ownBlock = v.ownBlock ∨ v'.ownBlock = some w.heap.size := by
  have hsm : n + m ≤ 9223372036854775807 := by unfold maxLen at h63; omega
  have hl1 : news.length = m * i.size := by rw [hsize, Nat.mul_one]; exact hl
  have hx1 : xs.length = n * i.size := by rw [hsize]; exact hown.1
  have fin : ∀ {u : Value} {wu : World}, (Builtin.append_ #[t, t] ty #[v, .slice (some a) m c]).run P w = .ok u wu → v' = u := fun h => by rw [hr] at h; injection h
  rcases hown.2 with ⟨rfl, rfl⟩ | ⟨g, cap, cur, rfl, hbg, hg, hnc, hcm, hcs, htake⟩
  · by_cases hm : m = 0
    · left; rw [hnil.2 ⟨rfl, hm⟩]
    · right
      rw [fin (run_append_nil (P := P) w t ty e i z ht hi hz a m c news hl1 hnews (by omega) (by omega) (by have hb := hbytes; simp only [Nat.zero_add] at hb; omega))]; rfl
  · by_cases hroom : n + m ≤ cap
    · left
      rw [fin (run_append_room (P := P) w t ty e i ht hi g n cap cur hg a m c news hl1 hnews h1 hroom (by rw [hl, hcs, hsize]; omega))]; rfl
    · right
      rw [fin (run_append_grow (P := P) w t ty e i z ht hi hz ⟨g, 0, none⟩ n cap xs hx1 (hown.cells (g := g) rfl) a m c news hl1 hnews (by omega) (by omega) (growslice_fits (by omega) hbytes))]; rfl
set_option maxRecDepth 100000 in
theorem wpList_append_where {ops : Array Oper} {rest : List Oper} {o : Oper} {a : Act} {Q : Exit → Act → World → Prop} (hgd : o.guard = none) (s x : Operand) (t : TypeId)
    (ho : o.op = .call { callee := .builtin .append, args := #[s, x], argTypes := #[t, t] })
    (base : Nat) (e : TypeId) (i : TypeInfo) (z : Value) (ht : P.underlying t = some (.slice e)) (hi : P.info? e = some i) (hz : i.zero = some z) (hsize : i.size = 1) (hzs : z.cells.size = 1)
    (v : Value) (n : Nat) (xs : List Value) (hs : a.eval s = v) (hown : w.ownsRow base e 1 v n xs)
    (ad : Addr) (m c : Nat) (news : List Value) (hx : a.eval x = .slice (some ad) m c) (hl : news.length = m) (hnews : ∀ (j : Nat) (u : Value), news[j]? = some u → w.cell? (ad.add j) = some u) (h1 : ∀ u ∈ news, u.oneCell' = true)
    (h63 : n + m ≤ maxLen) (hbytes : (n + m) * i.bytes ≤ 140737488355328) (hbase : base ≤ w.heap.size)
    (h : ∀ v' w', w'.ownsRow base e 1 v' (n + m) (xs ++ news) → w.grownBy w' v.ownBlock → (v'.ownBlock = v.ownBlock ∨ v'.ownBlock = some w.heap.size) → wpList P ops Q rest (a.put o.dst v') w') : wpList P ops Q (o :: rest) a w := by
  obtain ⟨v', w', hr, h2, h3, h4⟩ := run_append_own (P := P) w base t o.type e i z 1 i.bytes ht hi hz hsize rfl hzs (by decide) v n xs hown ad m c news (by omega) hnews h1 h63 hbytes hbase
  have h5 := append_where base t o.type e i z ht hi hz hsize hzs v n xs hown ad m c news hl hnews h1 h63 hbytes v' w' hr h4
  refine wpList_plain hgd fun K hK => ?_
  unfold Oper.wp execOp
  simp only [ho, resolve, invoke, builtin, Sem.run_bind, Sem.run_pure, Result.andThen_ok, List.map_toArray, List.map_cons, List.map_nil, hs, hx, hr]
  exact hK _ _ (h v' w' h2 h3 h5)
end
set_option maxRecDepth 100000 in
theorem own_all {w : World} {B n : Nat} {e : TypeId} {v : Value} {d : List B8} (h : w.ownsRow (B + 1) e 1 v n ((d.take n).map bv)) (hd : d.length = n) : w.ownsRow B e 1 v n (d.map bv) := by
  have := own_more h (base' := B) (by omega)
  rwa [List.take_of_length_le (by omega)] at this
set_option maxRecDepth 100000 in
set_option maxHeartbeats 2000000 in
theorem rbytesId_any (d : List B8) (w : World) (hd : d.length = 32) :
    Calls Tryd.prog 34 #[.agg (d.map bv).toArray] w fun e w' => ∃ v, e = .returned v ∧ w'.ownsRow w.heap.size 5 1 v 32 (d.map bv) ∧ Below w.heap.size w w' := by
  obtain ⟨i0, hi, hz0, hz1, hz2⟩ := info_parts info_u8
  obtain ⟨D, hD⟩ : ∃ D, D = (d.map bv).toArray := ⟨_, rfl⟩
  rw [← hD]
  obtain ⟨wz, hwz⟩ : ∃ wz, wz = w.alloc (.cells D 23) := ⟨_, rfl⟩
  have HBz := Lib.hid (show Below w.heap.size w wz by rw [hwz]; exact (Below.refl _ _).alloc (Nat.le_refl _) _)
  have HSz := Lib.hid (show wz.heap.size = w.heap.size + 1 by rw [hwz]; simp)
  have HC := Lib.hid (show ∀ (k : Nat) (hk : k < d.length), wz.cell? ⟨w.heap.size, k, none⟩ = some (bv d[k]) from fun k hk => by
    rw [hwz, cell_of_row _ _ _ _ _ _ (heap_alloc_new w _), hD, List.getElem?_toArray, List.getElem?_map, List.getElem?_eq_getElem hk]; rfl)
  have HD := Lib.hid hd
  clear hD hd
  go_enter Tryd.func34, Tryd.ntmps34
  go_upto_region 1 with fail
  change Code.wp _ _ _ _ (w.alloc (.cells D 23))
  rw [← hwz]
  clear hwz
  go_wp2
  go_loopw [3, 4] (fun v i wr => ∃ k : Nat, k ≤ 32 ∧ i = .int .i64 k ∧ wr.ownsRow (w.heap.size + 1) 5 1 v k ((d.take k).map bv) ∧ Below (w.heap.size + 1) wz wr) (fun _ i _ => 32 - (intOf i).toNat)
  case atStart => exact ⟨0, Nat.zero_le _, rfl, World.ownsRow_nil _ _ _ _, Below.refl _ _⟩
  case round =>
    obtain ⟨k, hk, rfl, ho, hb⟩ := hrel
    have HO := Lib.hid ho
    have HB := Lib.hid hb
    clear ho
    have hsz : w.heap.size + 1 ≤ wr.heap.size := by have := hb.size; rw [HSz.out] at this; exact this
    by_cases hlt : k < 32
    · have hkd : k < d.length := by rw [HD.out]; exact hlt
      have hcell : wr.cell? ⟨w.heap.size, k, none⟩ = some (bv d[k]) := (hb.cell (by show w.heap.size < _; omega)).trans (HC.out k hkd)
      have HT := Lib.hid (show (d.take (k + 1)).map bv = (d.take k).map bv ++ [bv d[k]] by rw [List.take_succ_eq_append_getElem hkd, List.map_append]; rfl)
      clear hb
      generalize d[k] = x at *
      unfold bv at hcell
      go_wp2_with (at_builtin; refine stop ?_)
      unfold Stop
      have ha : Below wr.heap.size wr (wr.alloc (.cells #[.int .u8 (x.toNat : Int)] 5)) := (Below.refl _ _).alloc (Nat.le_refl _) _
      have HO2 := Lib.hid (own_below HO.out ha)
      have HB2 := Lib.hid (HB.out.trans (ha.mono hsz))
      clear ha hcell
      refine wpList_append_any (o := ⟨some 14, _, _, _, _, _⟩) rfl _ _ 26 rfl (w.heap.size + 1) 5 i0 (.int .u8 0) 1 Tryd.underlying26 hi hz0 hz1 hz2 rfl _ k _ rfl HO2.out (some ⟨wr.heap.size, 0, none⟩) 1 1 [bv x] rfl (fun h => by cases h) rfl ?_ (bv_one [x]) ?_ ?_ ?_ ?_
      · exact one_new wr (bv x) _
      · unfold maxLen; omega
      · omega
      · simp; omega
      intro v3 w3 g1 g2
      have HO3 := Lib.hid (show w3.ownsRow (w.heap.size + 1) 5 1 v3 (k + 1) ((d.take (k + 1)).map bv) by rw [HT.out]; exact g1)
      have HB3 := Lib.hid (HB2.out.grown g2 (by simp; omega) (fun k hk => (HO2.out.lt k hk).1))
      clear g1 g2
      go_wp2_with fail
      go_roundw
      case rel => exact ⟨k + 1, by omega, by go_num, HO3.out, HB3.out⟩
      case measure => simp [intOf]; omega
    · obtain rfl : k = 32 := by omega
      have HB3 := Lib.hid (HBz.out.trans (HB.out.mono (by omega)))
      have HO3 := Lib.hid (own_all HO.out HD.out)
      clear hb
      go_wp2_with fail
      go_ret
      exact ⟨_, rfl, HO3.out, HB3.out⟩
end Go.Proofs.YtoagneibaincpaaDoor
