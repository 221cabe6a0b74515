/- Merged: Layer 8: the contracts of the library's Sort, Compact and Grow, laid at this program: the numbers of its functions and types, and that their bodies are those of which the contracts speak. Layer 8: rows of ints: the places of a shard, as the code and as the document find them. Layer 8: the document's 'Each' and 'Has'. Layer 8: shards gathered: sorted, and each once. Layer 8: gathered shards are the document's. Layer 8: two rows of ints, one behind the other (slices.Concat). -/
import Derived.Test.YtoclfohgchlpnaaDoorProg
import Derived.Test.YtoclfohgchlpnaaDoorKit
import Derived.Shelf.Sort.Plain
import Derived.Shelf.Slices.CompactI
import Derived.Shelf.Slices.In.SortNone
import Derived.Shelf.Spec.SlicesGrow
import Derived.Test.YtoclfohgchlpnaaDoorAllWalks
import Derived.Test.YtoclfohgchlpnaaDoorByt2
import Derived.Sort.OwnSortedInts
import Derived.Lib.OwnBridge
import Derived.Sort.Grow
import Derived.Test.YtoclfohgchlpnaaDoorShaR2
namespace Go.Proofs.YtoclfohgchlpnaaDoor
section

open Go.Shelf
def laysSortI_ren : Go.Shelf.Ren := ⟨fun | 189 => 41 | 125 => 56 | 257 => 55 | 128 => 77 | 129 => 78 | 294 => 68 | 295 => 69 | 296 => 70 | 297 => 71 | 298 => 72 | 299 => 73 | 216 => 74 | 300 => 75 | 301 => 76 | 328 => 86 | 329 => 87 | 330 => 88 | 331 => 89 | 332 => 90 | 215 => 91 | 343 => 93 | n => n, fun | 28 => 37 | 3 => 3 | 46 => 53 | 0 => 0 | 51 => 68 | 53 => 33 | 4 => 4 | 183 => 117 | 182 => 116 | 131 => 26 | 5 => 5 | 9 => 9 | 218 => 128 | 222 => 132 | 228 => 135 | 229 => 136 | n => n, fun | n => n⟩
set_option maxRecDepth 100000 in
theorem laysSortI : Lays.n189 Tryd.prog laysSortI_ren :=
  { mixed := (by kernel_rfl),
    f125 := (Tryd.func56.trans (congrArg some (by kernel_rfl))),
    f128 := (Tryd.func77.trans (congrArg some (by kernel_rfl))),
    f129 := (Tryd.func78.trans (congrArg some (by kernel_rfl))),
    f189 := (Tryd.func41.trans (congrArg some (by kernel_rfl))),
    f215 := (Tryd.func91.trans (congrArg some (by kernel_rfl))),
    f216 := (Tryd.func74.trans (congrArg some (by kernel_rfl))),
    f257 := (Tryd.func55.trans (congrArg some (by kernel_rfl))),
    f294 := (Tryd.func68.trans (congrArg some (by kernel_rfl))),
    f295 := (Tryd.func69.trans (congrArg some (by kernel_rfl))),
    f296 := (Tryd.func70.trans (congrArg some (by kernel_rfl))),
    f297 := (Tryd.func71.trans (congrArg some (by kernel_rfl))),
    f298 := (Tryd.func72.trans (congrArg some (by kernel_rfl))),
    f299 := (Tryd.func73.trans (congrArg some (by kernel_rfl))),
    f300 := (Tryd.func75.trans (congrArg some (by kernel_rfl))),
    f301 := (Tryd.func76.trans (congrArg some (by kernel_rfl))),
    f328 := (Tryd.func86.trans (congrArg some (by kernel_rfl))),
    f329 := (Tryd.func87.trans (congrArg some (by kernel_rfl))),
    f330 := (Tryd.func88.trans (congrArg some (by kernel_rfl))),
    f331 := (Tryd.func89.trans (congrArg some (by kernel_rfl))),
    f332 := (Tryd.func90.trans (congrArg some (by kernel_rfl))),
    f343 := (Tryd.func93.trans (congrArg some (by kernel_rfl))),
    t0 := (Tryd.underlying0),
    a0 := (Tryd.isAgg0),
    z0 := (Tryd.sizeOf0),
    v0 := (Tryd.zeroValue0),
    t3 := (Tryd.underlying3),
    a3 := (Tryd.isAgg3),
    z3 := (Tryd.sizeOf3),
    v3 := (Tryd.zeroValue3),
    t4 := (Tryd.underlying4),
    a4 := (Tryd.isAgg4),
    z4 := (Tryd.sizeOf4),
    v4 := (Tryd.zeroValue4),
    t5 := (Tryd.underlying5),
    a5 := (Tryd.isAgg5),
    z5 := (Tryd.sizeOf5),
    v5 := (Tryd.zeroValue5),
    t9 := (Tryd.underlying9),
    a9 := (Tryd.isAgg9),
    z9 := (Tryd.sizeOf9),
    v9 := (Tryd.zeroValue9),
    t28 := (Tryd.underlying37),
    a28 := (Tryd.isAgg37),
    z28 := (Tryd.sizeOf37),
    v28 := (Tryd.zeroValue37),
    t46 := (Tryd.underlying53),
    a46 := (Tryd.isAgg53),
    z46 := (Tryd.sizeOf53),
    v46 := (Tryd.zeroValue53),
    t51 := (Tryd.underlying68),
    a51 := (Tryd.isAgg68),
    z51 := (Tryd.sizeOf68),
    v51 := (Tryd.zeroValue68),
    t53 := (Tryd.underlying33),
    a53 := (Tryd.isAgg33),
    z53 := (Tryd.sizeOf33),
    v53 := (Tryd.zeroValue33),
    t131 := (Tryd.underlying26),
    a131 := (Tryd.isAgg26),
    z131 := (Tryd.sizeOf26),
    v131 := (Tryd.zeroValue26),
    t182 := (Tryd.underlying116),
    a182 := (Tryd.isAgg116),
    z182 := (Tryd.sizeOf116),
    v182 := (Tryd.zeroValue116),
    t183 := (Tryd.underlying117),
    a183 := (Tryd.isAgg117),
    z183 := (Tryd.sizeOf117),
    v183 := (Tryd.zeroValue117),
    t218 := (Tryd.underlying128),
    a218 := (Tryd.isAgg128),
    z218 := (Tryd.sizeOf128),
    v218 := (Tryd.zeroValue128),
    t222 := (Tryd.underlying132),
    a222 := (Tryd.isAgg132),
    z222 := (Tryd.sizeOf132),
    v222 := (Tryd.zeroValue132),
    t228 := (Tryd.underlying135),
    a228 := (Tryd.isAgg135),
    z228 := (Tryd.sizeOf135),
    v228 := (Tryd.zeroValue135),
    t229 := (Tryd.underlying136),
    a229 := (Tryd.isAgg136),
    z229 := (Tryd.sizeOf136),
    v229 := (Tryd.zeroValue136) }
def laysCompactI_ren : Go.Shelf.Ren := ⟨fun | 20 => 42 | n => n, fun | 22 => 37 | 3 => 3 | 4 => 4 | 0 => 0 | n => n, fun | n => n⟩
set_option maxRecDepth 100000 in
theorem laysCompactI : Lays2.n20 Tryd.prog laysCompactI_ren :=
  { mixed := (by kernel_rfl),
    f20 := (Tryd.func42.trans (congrArg some (by kernel_rfl))),
    t0 := (Tryd.underlying0),
    a0 := (Tryd.isAgg0),
    z0 := (Tryd.sizeOf0),
    v0 := (Tryd.zeroValue0),
    t3 := (Tryd.underlying3),
    a3 := (Tryd.isAgg3),
    z3 := (Tryd.sizeOf3),
    v3 := (Tryd.zeroValue3),
    t4 := (Tryd.underlying4),
    a4 := (Tryd.isAgg4),
    z4 := (Tryd.sizeOf4),
    v4 := (Tryd.zeroValue4),
    t22 := (Tryd.underlying37),
    a22 := (Tryd.isAgg37),
    z22 := (Tryd.sizeOf37),
    v22 := (Tryd.zeroValue37),
    i3 := (by kernel_rfl) }
def laysGrowI_ren : Go.Shelf.Ren := ⟨fun | 4 => 43 | n => n, fun | 22 => 37 | 25 => 3 | 3 => 3 | 4 => 4 | 9 => 9 | 20 => 20 | 0 => 0 | n => n, fun | n => n⟩
set_option maxRecDepth 100000 in
theorem laysGrowI : Lays8.n4 Tryd.prog laysGrowI_ren :=
  { mixed := (by kernel_rfl),
    f4 := (⟨ "slices.Grow[[]int,int]", by decide, Tryd.func43.trans (congrArg some (by kernel_rfl))⟩),
    t0 := (Tryd.underlying0),
    a0 := (Tryd.isAgg0),
    z0 := (Tryd.sizeOf0),
    v0 := (Tryd.zeroValue0),
    t3 := (Tryd.underlying3),
    a3 := (Tryd.isAgg3),
    z3 := (Tryd.sizeOf3),
    v3 := (Tryd.zeroValue3),
    t4 := (Tryd.underlying4),
    a4 := (Tryd.isAgg4),
    z4 := (Tryd.sizeOf4),
    v4 := (Tryd.zeroValue4),
    t9 := (Tryd.underlying9),
    a9 := (Tryd.isAgg9),
    z9 := (Tryd.sizeOf9),
    v9 := (Tryd.zeroValue9),
    t20 := (Tryd.underlying20),
    a20 := (Tryd.isAgg20),
    z20 := (Tryd.sizeOf20),
    v20 := (Tryd.zeroValue20),
    t22 := (Tryd.underlying37),
    a22 := (Tryd.isAgg37),
    z22 := (Tryd.sizeOf37),
    v22 := (Tryd.zeroValue37) }

end
section
set_option linter.unusedVariables false
set_option linter.unusedSimpArgs false

open Go.RowKit
def i64s (l : List Int) : List Value := l.map (Value.int .i64)
set_option maxRecDepth 100000 in
theorem i64s_app (a : List Int) (n : Int) : i64s (a ++ [n]) = i64s a ++ [.int .i64 n] := by unfold i64s; rw [List.map_append]; rfl
set_option maxRecDepth 100000 in
theorem i64s_len (a : List Int) : (i64s a).length = a.length := by simp [i64s]
set_option maxRecDepth 100000 in
theorem i64s_at {l : List Int} {j : Nat} {y : Int} (h : l[j]? = some y) : (i64s l)[j]? = some (.int .i64 y) := by unfold i64s; rw [List.getElem?_map, h]; rfl
set_option maxRecDepth 100000 in
theorem info_i64 : (Tryd.prog.info? 3).map (fun i => (i.zero, i.size, i.bytes)) = some (some (.int .i64 0), 1, 8) := by kernel_rfl
def plN (l : List Int) (s : Int) (k : Nat) : List Int := ((List.range k).filter fun i => decide (l[i]? = some s)).map fun i : Nat => (i : Int)
def placesZ (l : List Int) (s : Int) : List Int := plN l s l.length
set_option maxRecDepth 100000 in
theorem plN_hit {l : List Int} {s : Int} {k : Nat} (h : l[k]? = some s) : plN l s (k + 1) = plN l s k ++ [(k : Int)] := by
  unfold plN; rw [List.range_succ, List.filter_append, List.map_append]; simp [h]
set_option maxRecDepth 100000 in
theorem plN_miss {l : List Int} {s : Int} {k : Nat} (h : ¬ l[k]? = some s) : plN l s (k + 1) = plN l s k := by
  unfold plN; rw [List.range_succ, List.filter_append, List.map_append]; simp [h]
set_option maxRecDepth 100000 in
theorem plN_len (l : List Int) (s : Int) (k : Nat) : (plN l s k).length ≤ k := by
  unfold plN
  rw [List.length_map]
  exact Nat.le_trans (List.length_filter_le ..) (by simp)
set_option maxRecDepth 100000 in
set_option maxHeartbeats 2000000 in
theorem places_any (A : Option Addr) (c B n : Nat) (l : List Int) (s : Int) (w : World) (hs : Sl w B A (i64s l)) (hBw : B ≤ w.heap.size) (hn : l.length = n) (hm : n ≤ 1000) :
    Calls Tryd.prog 30 #[.slice A n c, .int .i64 s] w fun e w' => ∃ v, e = .returned v ∧ w'.ownsRow w.heap.size 3 1 v (placesZ l s).length (i64s (placesZ l s)) ∧ Below w.heap.size w w' := by
  obtain ⟨i0, hi, hz0, hz1, hz2⟩ := info_parts info_i64
  have HS := Lib.hid (fun (w' : World) (k : Below w.heap.size w w') (j : Nat) (y : Int) (hj : l[j]? = some y) => show ∃ ad, A = some ad ∧ w'.cell? (ad.add j) = some (.int .i64 y) from by
    obtain ⟨ad, e1, hb, hc⟩ := hs.at (i64s_at hj)
    exact ⟨ad, e1, by rw [k.cell (by rw [add_block]; omega)]; exact hc⟩)
  have HE := Lib.hid (show placesZ l s = plN l s n by rw [← hn]; rfl)
  have HL := Lib.hid (fun (k : Nat) (h : k < n) => show l[k]? = some (l[k]'(by omega)) from List.getElem?_eq_getElem (by omega))
  rw [HE.out]
  clear hs
  go_enter Tryd.func30, Tryd.ntmps30
  go_wp2
  go_loopw [5, 10] (fun v i wr => ∃ k : Nat, k ≤ n ∧ i = .int .i64 k ∧ wr.ownsRow w.heap.size 3 1 v (plN l s k).length (i64s (plN l s k)) ∧ Below w.heap.size w wr) (fun _ i _ => n - (intOf i).toNat)
  case atStart => exact ⟨0, Nat.zero_le _, rfl, World.ownsRow_nil _ _ _ _, Below.refl _ _⟩
  case round =>
    obtain ⟨k, hk, rfl, hown, hb⟩ := hrel
    by_cases hlt : k < n
    · have hy := HL.out k hlt
      generalize l[k] = y at hy
      obtain ⟨ad, rfl, hc⟩ := HS.out _ hb k y hy
      by_cases hx : y = s
      · subst hx
        have HP := Lib.hid (plN_hit hy)
        have HN := Lib.hid (plN_len l y k)
        clear hy
        have Hh := Lib.hid hb
        have HO := Lib.hid hown
        have hbs := hb.size
        clear hb hown
        generalize plN l y k = ps at *
        go_wp2_with (at_builtin; refine wpList_append_own _ rfl _ _ 37 rfl w.heap.size 3 i0 (.int .i64 0) 1 8 Tryd.underlying37 hi hz0 hz1 hz2 rfl (by decide) _ _ _ rfl (HO.out.alloc _) ⟨wr.heap.size, 0, none⟩ 1 1 [.int .i64 (k : Int)] rfl rfl ?c1 ?c2 ?c3 ?c4 ?c5 ?_)
        case c1 => exact cell_one_new wr _ _
        case c2 => intro u hu; simp at hu; subst hu; rfl
        case c3 => unfold maxLen; have := HN.out; omega
        case c4 => have := HN.out; omega
        case c5 => exact Nat.le_trans hbs (by simp)
        intro v' w1 hown' hgrow _
        have hg2 := hgrow_of HO.out Hh.out hbs (Nat.le_refl _) hgrow
        have ho2 : w1.ownsRow w.heap.size 3 1 v' (plN l y (k + 1)).length (i64s (plN l y (k + 1))) := by
          rw [HP.out, i64s_app, List.length_append]; exact hown'
        clear hown' hgrow
        go_wp2
        go_roundw
        case rel => exact ⟨k + 1, by omega, by go_num, ho2, hg2⟩
        case measure => simp [intOf]; omega
      · have hd : ((y : Int) == s) = false := beq_false_of_ne hx
        have HP := Lib.hid (plN_miss (l := l) (s := s) (k := k) (by rw [hy]; intro h; exact hx (Option.some.inj h)))
        have HO := Lib.hid hown
        have Hh := Lib.hid hb
        clear hx hown hb hy
        go_wp2
        go_roundw
        case rel => exact ⟨k + 1, by omega, by go_num, by rw [HP.out]; exact HO.out, Hh.out⟩
        case measure => simp [intOf]; omega
    · have HO := Lib.hid hown
      have Hh := Lib.hid hb
      have e : k = n := by omega
      subst e
      clear hown hb
      go_wp2
      go_ret
      exact ⟨_, rfl, HO.out, Hh.out⟩
set_option maxRecDepth 100000 in
set_option maxHeartbeats 2000000 in
theorem rplaces_any (A : Option Addr) (c B n : Nat) (l : List Int) (s : Int) (w : World) (hs : Sl w B A (i64s l)) (hBw : B ≤ w.heap.size) (hn : l.length = n) (hm : n ≤ 1000) :
    Calls Tryd.prog 18 #[.slice A n c, .int .i64 s] w fun e w' => ∃ v, e = .returned v ∧ w'.ownsRow w.heap.size 3 1 v (placesZ l s).length (i64s (placesZ l s)) ∧ Below w.heap.size w w' := by
  obtain ⟨i0, hi, hz0, hz1, hz2⟩ := info_parts info_i64
  have HS := Lib.hid (fun (w' : World) (k : Below w.heap.size w w') (j : Nat) (y : Int) (hj : l[j]? = some y) => show ∃ ad, A = some ad ∧ w'.cell? (ad.add j) = some (.int .i64 y) from by
    obtain ⟨ad, e1, hb, hc⟩ := hs.at (i64s_at hj)
    exact ⟨ad, e1, by rw [k.cell (by rw [add_block]; omega)]; exact hc⟩)
  have HE := Lib.hid (show placesZ l s = plN l s n by rw [← hn]; rfl)
  have HL := Lib.hid (fun (k : Nat) (h : k < n) => show l[k]? = some (l[k]'(by omega)) from List.getElem?_eq_getElem (by omega))
  rw [HE.out]
  clear hs
  go_enter Tryd.func18, Tryd.ntmps18
  go_wp2
  go_loopw [5, 6] (fun v i wr => ∃ k : Nat, k ≤ n ∧ i = .int .i64 k ∧ wr.ownsRow w.heap.size 3 1 v (plN l s k).length (i64s (plN l s k)) ∧ Below w.heap.size w wr) (fun _ i _ => n - (intOf i).toNat)
  case atStart => exact ⟨0, Nat.zero_le _, rfl, World.ownsRow_nil _ _ _ _, Below.refl _ _⟩
  case round =>
    obtain ⟨k, hk, rfl, hown, hb⟩ := hrel
    by_cases hlt : k < n
    · have hy := HL.out k hlt
      generalize l[k] = y at hy
      obtain ⟨ad, rfl, hc⟩ := HS.out _ hb k y hy
      by_cases hx : y = s
      · subst hx
        have HP := Lib.hid (plN_hit hy)
        have HN := Lib.hid (plN_len l y k)
        clear hy
        have Hh := Lib.hid hb
        have HO := Lib.hid hown
        have hbs := hb.size
        clear hb hown
        generalize plN l y k = ps at *
        go_wp2_with (at_builtin; refine wpList_append_own _ rfl _ _ 37 rfl w.heap.size 3 i0 (.int .i64 0) 1 8 Tryd.underlying37 hi hz0 hz1 hz2 rfl (by decide) _ _ _ rfl (HO.out.alloc _) ⟨wr.heap.size, 0, none⟩ 1 1 [.int .i64 (k : Int)] rfl rfl ?c1 ?c2 ?c3 ?c4 ?c5 ?_)
        case c1 => exact cell_one_new wr _ _
        case c2 => intro u hu; simp at hu; subst hu; rfl
        case c3 => unfold maxLen; have := HN.out; omega
        case c4 => have := HN.out; omega
        case c5 => exact Nat.le_trans hbs (by simp)
        intro v' w1 hown' hgrow _
        have hg2 := hgrow_of HO.out Hh.out hbs (Nat.le_refl _) hgrow
        have ho2 : w1.ownsRow w.heap.size 3 1 v' (plN l y (k + 1)).length (i64s (plN l y (k + 1))) := by
          rw [HP.out, i64s_app, List.length_append]; exact hown'
        clear hown' hgrow
        go_wp2
        go_roundw
        case rel => exact ⟨k + 1, by omega, by go_num, ho2, hg2⟩
        case measure => simp [intOf]; omega
      · have hd : ((y : Int) == s) = false := beq_false_of_ne hx
        have HP := Lib.hid (plN_miss (l := l) (s := s) (k := k) (by rw [hy]; intro h; exact hx (Option.some.inj h)))
        have HO := Lib.hid hown
        have Hh := Lib.hid hb
        clear hx hown hb hy
        go_wp2
        go_roundw
        case rel => exact ⟨k + 1, by omega, by go_num, by rw [HP.out]; exact HO.out, Hh.out⟩
        case measure => simp [intOf]; omega
    · have HO := Lib.hid hown
      have Hh := Lib.hid hb
      have e : k = n := by omega
      subst e
      clear hown hb
      go_wp2
      go_ret
      exact ⟨_, rfl, HO.out, Hh.out⟩

end
section
set_option linter.unusedVariables false
set_option linter.unusedSimpArgs false

open Go.RowKit
def StopK (p : Prop) : Prop := p
set_option maxRecDepth 100000 in
theorem stopK {p : Prop} (h : StopK p) : p := h
def eaN (l : List Int) (k : Nat) : List Int := ((List.range k).filter fun i : Nat => decide ((i : Int) ∈ l)).map fun i : Nat => (i : Int)
def eachZ (l : List Int) : List Int := eaN l 64
set_option maxRecDepth 100000 in
theorem eaN_hit {l : List Int} {k : Nat} (h : (k : Int) ∈ l) : eaN l (k + 1) = eaN l k ++ [(k : Int)] := by
  unfold eaN; rw [List.range_succ, List.filter_append, List.map_append]; simp [h]
set_option maxRecDepth 100000 in
theorem eaN_miss {l : List Int} {k : Nat} (h : ¬ (k : Int) ∈ l) : eaN l (k + 1) = eaN l k := by
  unfold eaN; rw [List.range_succ, List.filter_append, List.map_append]; simp [h]
set_option maxRecDepth 100000 in
theorem eaN_len (l : List Int) (k : Nat) : (eaN l k).length ≤ k := by
  unfold eaN
  rw [List.length_map]
  exact Nat.le_trans (List.length_filter_le ..) (by simp)
def hasB (l : List Int) (s : Int) : Bool := decide (s ∈ l)
set_option maxRecDepth 100000 in
theorem placesZ_pos (l : List Int) (s : Int) : decide (0 < (placesZ l s).length) = hasB l s := by
  unfold hasB
  apply decide_eq_decide.2
  unfold placesZ plN
  rw [List.length_map, List.length_pos_iff_exists_mem]
  constructor
  · rintro ⟨i, hi⟩
    rw [List.mem_filter] at hi
    exact List.mem_of_getElem? (of_decide_eq_true hi.2)
  · intro h
    obtain ⟨i, hi, e⟩ := List.mem_iff_getElem.1 h
    exact ⟨i, List.mem_filter.2 ⟨List.mem_range.2 hi, decide_eq_true (by rw [List.getElem?_eq_getElem hi, e])⟩⟩
set_option maxRecDepth 100000 in
theorem placesZ_len (l : List Int) (s : Int) : (placesZ l s).length ≤ l.length := plN_len l s _
set_option maxRecDepth 100000 in
set_option maxHeartbeats 2000000 in
theorem has_any (A : Option Addr) (c B n : Nat) (l : List Int) (s : Int) (w : World) (hs : Sl w B A (i64s l)) (hBw : B ≤ w.heap.size) (hn : l.length = n) (hm : n ≤ 1000) :
    Calls Tryd.prog 20 #[.slice A n c, .int .i64 s] w fun e w' => e = .returned (.bool (hasB l s)) ∧ Below w.heap.size w w' := by
  have R := Lib.hid (rplaces_any A c B n l s w hs hBw hn hm)
  have HP := Lib.hid (placesZ_pos l s)
  rw [← HP.out]
  have HL := Lib.hid (placesZ_len l s)
  generalize placesZ l s = ps at *
  obtain ⟨z, hz⟩ : ∃ z, z = ps.length := ⟨_, rfl⟩
  rw [← hz] at R HP HL ⊢
  clear hs
  go_enter Tryd.func20, Tryd.ntmps20
  go_wp2_with (go_at_call 18; refine stopK ?_)
  unfold StopK
  refine R.out.mono ?_
  rintro e w1 ⟨v, rfl, ho, hb⟩
  obtain ⟨A1, c1, rfl, s1, -, hc1, ha1⟩ := own_sl ho
  have Hb := Lib.hid hb
  have hl := HL.out
  clear ho hb s1
  go_wp2
  go_ret
  exact ⟨by simp [hz], Hb.out⟩
set_option maxRecDepth 100000 in
set_option maxHeartbeats 2000000 in
theorem each_any (A : Option Addr) (c B n : Nat) (l : List Int) (w : World) (hs : Sl w B A (i64s l)) (hBw : B ≤ w.heap.size) (hn : l.length = n) (hm : n ≤ 1000) :
    Calls Tryd.prog 12 #[.slice A n c] w fun e w' => ∃ v, e = .returned v ∧ w'.ownsRow w.heap.size 3 1 v (eachZ l).length (i64s (eachZ l)) ∧ Below w.heap.size w w' := by
  obtain ⟨i0, hi, hz0, hz1, hz2⟩ := info_parts info_i64
  have HS := Lib.hid (fun (w' : World) (k : Below w.heap.size w w') (j : Nat) (y : Int) (hj : l[j]? = some y) => show ∃ ad, A = some ad ∧ w'.cell? (ad.add j) = some (.int .i64 y) from by
    obtain ⟨ad, e1, hb, hc⟩ := hs.at (i64s_at hj)
    exact ⟨ad, e1, by rw [k.cell (by rw [add_block]; omega)]; exact hc⟩)
  have HL := Lib.hid (fun (k : Nat) (h : k < n) => show l[k]? = some (l[k]'(by omega)) from List.getElem?_eq_getElem (by omega))
  have HN := Lib.hid hn
  clear hs
  go_enter Tryd.func12, Tryd.ntmps12
  go_wp2
  go_loopw [3, 4] (fun v i wr => ∃ k : Nat, k ≤ 64 ∧ i = .int .i64 k ∧ wr.ownsRow w.heap.size 3 1 v (eaN l k).length (i64s (eaN l k)) ∧ Below w.heap.size w wr) (fun _ i _ => 64 - (intOf i).toNat)
  case atStart => exact ⟨0, Nat.zero_le _, rfl, World.ownsRow_nil _ _ _ _, Below.refl _ _⟩
  case round =>
    obtain ⟨k, hk, rfl, hown, hb⟩ := hrel
    have HO := Lib.hid hown
    have Hh := Lib.hid hb
    have hbs := hb.size
    clear hown hb
    by_cases hlt : k < 64
    · go_upto_region 6 with fail
      obtain ⟨v3, hv3⟩ : ∃ v3, v3 = u3 := ⟨_, rfl⟩
      obtain ⟨w3, hw3⟩ : ∃ w3, w3 = wr := ⟨_, rfl⟩
      rw [← hv3] at HO
      rw [← hw3] at HO Hh hbs
      go_loopw [3, 5] (fun v i wq => v = v3 ∧ wq = w3 ∧ ∃ j : Nat, j ≤ n ∧ i = .int .i64 j ∧ ¬ (k : Int) ∈ l.take j) (fun _ i _ => n - (intOf i).toNat)
      case atStart => exact ⟨hv3.symm, hw3.symm, 0, Nat.zero_le _, rfl, by simp⟩
      case round =>
        obtain ⟨rfl, rfl, j, hj, rfl, hno⟩ := hrel
        clear hv3 hw3
        by_cases hjn : j < n
        · have hy := HL.out j hjn
          generalize l[j] = y at hy
          obtain ⟨ad, rfl, hc⟩ := HS.out _ Hh.out j y hy
          by_cases hx : y = (k : Int)
          · have hmem : (k : Int) ∈ l := by rw [← hx]; exact List.mem_of_getElem? hy
            have HP := Lib.hid (eaN_hit hmem)
            have HE := Lib.hid (eaN_len l k)
            subst hx
            clear hy hmem hno
            generalize eaN l k = ps at *
            go_wp2_with (at_builtin; refine wpList_append_own _ rfl _ _ 37 rfl w.heap.size 3 i0 (.int .i64 0) 1 8 Tryd.underlying37 hi hz0 hz1 hz2 rfl (by decide) _ _ _ rfl (HO.out.alloc _) ⟨wr.heap.size, 0, none⟩ 1 1 [.int .i64 (k : Int)] rfl rfl ?c1 ?c2 ?c3 ?c4 ?c5 ?_)
            case c1 => exact cell_one_new wr _ _
            case c2 => intro u hu; simp at hu; subst hu; rfl
            case c3 => unfold maxLen; have := HE.out; omega
            case c4 => have := HE.out; omega
            case c5 => exact Nat.le_trans hbs (by simp)
            intro v' w1 hown' hgrow _
            have hg2 := hgrow_of HO.out Hh.out hbs (Nat.le_refl _) hgrow
            have ho2 : w1.ownsRow w.heap.size 3 1 v' (eaN l (k + 1)).length (i64s (eaN l (k + 1))) := by
              rw [HP.out, i64s_app, List.length_append]; exact hown'
            clear hown' hgrow
            go_wp2
            go_roundw
            case rel => exact ⟨k + 1, by omega, by go_num, ho2, hg2⟩
            case measure => simp [intOf]; omega
          · have hd : ((y : Int) == (k : Int)) = false := beq_false_of_ne hx
            have HT := Lib.hid (show ¬ (k : Int) ∈ l.take (j + 1) by
              rw [List.take_add_one, hy]
              simp only [Option.toList_some, List.mem_append, List.mem_singleton]
              rintro (h | h)
              · exact hno h
              · exact hx h.symm)
            clear hno hx hy
            go_wp2
            go_roundw
            case rel => exact ⟨by first | rfl | trivial, by first | rfl | trivial, j + 1, by omega, by go_num, HT.out⟩
            case measure => simp [intOf]; omega
        · have hjn' : j = n := by omega
          have HP := Lib.hid (eaN_miss (l := l) (k := k) (by rw [hjn', ← HN.out, List.take_length] at hno; exact hno))
          clear hno
          go_wp2
          go_roundw
          case rel => exact ⟨k + 1, by omega, by go_num, by rw [HP.out]; exact HO.out, Hh.out⟩
          case measure => simp [intOf]; omega
    · have e : k = 64 := by omega
      subst e
      clear hlt hk
      go_wp2
      go_ret
      exact ⟨_, rfl, HO.out, Hh.out⟩

end
section
set_option linter.unusedVariables false
set_option linter.unusedSimpArgs false

open Go.RowKit Go.Sort
def srtZ (zs : List Int) : List Int := zs.mergeSort fun x y => decide (x ≤ y)
def gathZ (zs : List Int) : List Int := Lib.compact (srtZ zs)
set_option maxRecDepth 100000 in
theorem srtZ_len (zs : List Int) : (srtZ zs).length = zs.length := List.length_mergeSort zs
set_option maxRecDepth 100000 in
theorem gathZ_nil : gathZ [] = [] := by
  have : srtZ [] = [] := by unfold srtZ; simp
  unfold gathZ; rw [this]; rfl
set_option maxRecDepth 100000 in
set_option maxHeartbeats 2000000 in
theorem gathered_any (B n : Nat) (v : Value) (zs : List Int) (w : World) (hown : w.ownsRow B 3 1 v n (i64s zs)) (hBw : B ≤ w.heap.size) (hm : n ≤ 1000) :
    Calls Tryd.prog 28 #[v] w fun e w' => ∃ v', e = .returned v' ∧ w'.ownsRow B 3 1 v' (gathZ zs).length (i64s (gathZ zs)) ∧ Below B w w' := by
  by_cases hv : v = .slice none 0 0
  · subst hv
    have hz : zs = [] := by
      have h1 := hown.1
      rcases hown.2 with ⟨_, h0⟩ | ⟨g', cap', cur, h0, _⟩
      · subst h0
        rw [i64s_len] at h1
        exact List.eq_nil_of_length_eq_zero (by omega)
      · cases h0
    subst hz
    rw [gathZ_nil]
    clear hown
    go_enter Tryd.func28, Tryd.ntmps28
    go_wp2_with (first
      | (go_at_call 41; refine (Any.slices_Sort_int_none laysSortI none 0 _).mono ?_; rintro e w' ⟨rfl, rfl⟩)
      | (go_at_call 42; refine (Any.slices_Compact_int_empty laysCompactI none 0 _).mono ?_; rintro e w' ⟨rfl, rfl⟩))
    go_ret
    exact ⟨_, rfl, World.ownsRow_nil _ _ _ _, Below.refl _ _⟩
  · obtain ⟨g, cap, rfl, hbg, hgl, hncap, hcm, hlen, hH⟩ := Lib.holds_of_ownsRow (enc := Value.int .i64) (zs := zs) hown hv
    have HO := Lib.hid hown
    have hsort := Any.slices_Sort_int laysSortI g 0 cap zs w hH hgl (by omega)
    rw [hlen] at hsort
    have HSO := Lib.hid hsort
    have hl2 : (srtZ zs).length = n := by rw [srtZ_len]; exact hlen
    have hle := Lib.compact_length_le (srtZ zs)
    have HC := Lib.hid (fun (nn : Nat) (os : Array Obj) => by
      have hH2 : Holds (Value.int .i64) (grow (putRow (Value.int .i64) (Sort.ahead w nn) g 0 (srtZ zs).toArray) os) g 0 (srtZ zs).toArray :=
        holds_grow (Value.int .i64) _ os g 0 _ (by simpa [putRow, mapBlock, Sort.ahead] using hgl) (holds_putRow (Value.int .i64) _ g 0 _ _ (holds_ahead (Value.int .i64) w nn g 0 _ hH) (by simp [srtZ_len]))
      have := Any.slices_Compact_int laysCompactI g 0 cap (srtZ zs) _ hH2 (by omega) (by omega)
      rw [hl2] at this
      exact this)
    have HLeft := Lib.hid (fun (nn q : Nat) (os : Array Obj) => show World.ownsRow (putRow (Value.int .i64) (Sort.ahead (grow (putRow (Value.int .i64) (Sort.ahead w nn) g 0 (srtZ zs).toArray) os) q) g 0 (gathZ zs ++ List.replicate (n - (gathZ zs).length) 0).toArray) B 3 1 (.slice (some ⟨g, 0, none⟩) (gathZ zs).length cap) (gathZ zs).length (i64s (gathZ zs)) ∧ Below B w (putRow (Value.int .i64) (Sort.ahead (grow (putRow (Value.int .i64) (Sort.ahead w nn) g 0 (srtZ zs).toArray) os) q) g 0 (gathZ zs ++ List.replicate (n - (gathZ zs).length) 0).toArray) from by
      rcases hown.2 with ⟨h0, _⟩ | ⟨g', cap', cur, hv', hbase, hb, h1, h2, h3, h4⟩
      · cases h0
      cases hv'
      have hle' : (gathZ zs).length ≤ n := by have := hle; rw [hl2] at this; exact this
      have hs := ownsRow_sortedI (n := nn) (os := os) (ss := zs) (ts := srtZ zs) (srtZ_len zs) hbase hb (by omega) h2 h3
      rw [hlen] at hs
      have hc := Lib.ownsRow_putRow (q := q) (k := (gathZ zs).length) (ys := gathZ zs ++ List.replicate (n - (gathZ zs).length) 0) hs (by simp; omega) hle'
      rw [List.take_left] at hc
      exact ⟨hc, Lib.below_putRow ((Below.refl B w).grown (grownBy_sortedI _) hBw (fun j hj => by cases hj; exact hbase)) hbase⟩)
    clear hown hH hsort hv hl2 hle
    go_enter Tryd.func28, Tryd.ntmps28
    go_wp2_with (first
      | (go_at_call 41; refine HSO.out.mono ?_; rintro e w2 ⟨rfl, nn, os, rfl⟩)
      | (go_at_call 42; refine (HC.out nn os).mono ?_; rintro e w3 ⟨rfl, q, rfl⟩))
    go_ret
    exact ⟨_, rfl, (HLeft.out nn q os).1, (HLeft.out nn q os).2⟩

end
section
set_option linter.unusedVariables false
set_option linter.unusedSimpArgs false

open Go.RowKit Go.Sort
set_option maxRecDepth 100000 in
theorem srtZ_mem (zs : List Int) (x : Int) : x ∈ srtZ zs ↔ x ∈ zs := (List.mergeSort_perm zs _).mem_iff
set_option maxRecDepth 100000 in
theorem srtZ_le (zs : List Int) : (srtZ zs).Pairwise fun a b => decide (a ≤ b) = true :=
  List.pairwise_mergeSort (fun a b c h1 h2 => by simp at *; omega) (fun a b => by simp; omega) zs
set_option maxRecDepth 100000 in
theorem comp_up (d : Array Int) (hs : ∀ i j, i ≤ j → j < d.size → d[i]! ≤ d[j]!) : ∀ m, m ≤ d.size → (Lib.compactUpTo d m).Pairwise (· < ·) ∧ ∀ x, x ∈ Lib.compactUpTo d m ↔ ∃ j, j < m ∧ d[j]! = x
  | 0, _ => by simp [Lib.compactUpTo]
  | m + 1, hm => by
    obtain ⟨ih1, ih2⟩ := comp_up d hs m (by omega)
    rw [Lib.compactUpTo_succ]
    cases hk : Lib.keeps d m
    · have hk' : ¬ (m = 0 ∨ d[m]! ≠ d[m - 1]!) := by
        unfold Lib.keeps at hk; exact of_decide_eq_false hk
      have h0 : m ≠ 0 := fun h => hk' (.inl h)
      have h1 : d[m]! = d[m - 1]! := Decidable.byContradiction fun h => hk' (.inr h)
      simp only [Bool.false_eq_true, if_false, List.append_nil]
      refine ⟨ih1, fun x => ?_⟩
      rw [ih2]
      constructor
      · rintro ⟨j, hj, e⟩; exact ⟨j, by omega, e⟩
      · rintro ⟨j, hj, e⟩
        by_cases hjm : j = m
        · exact ⟨m - 1, by omega, by rw [← h1, ← hjm]; exact e⟩
        · exact ⟨j, by omega, e⟩
    · have hk' : m = 0 ∨ d[m]! ≠ d[m - 1]! := by
        unfold Lib.keeps at hk; exact of_decide_eq_true hk
      simp only [if_true]
      refine ⟨List.pairwise_append.2 ⟨ih1, List.pairwise_singleton .., fun a ha b hb => ?_⟩, fun x => ?_⟩
      · obtain rfl : b = d[m]! := by simpa using hb
        obtain ⟨j, hj, rfl⟩ := (ih2 a).1 ha
        rcases hk' with h | h
        · omega
        · have h2 := hs j (m - 1) (by omega) (by omega)
          have h3 := hs (m - 1) m (by omega) (by omega)
          have h4 : d[m - 1]! ≠ d[m]! := fun e => h e.symm
          omega
      · rw [List.mem_append, ih2]
        constructor
        · rintro (⟨j, hj, e⟩ | h)
          · exact ⟨j, by omega, e⟩
          · exact ⟨m, by omega, by simpa using Eq.symm (by simpa using h)⟩
        · rintro ⟨j, hj, e⟩
          by_cases hjm : j = m
          · right; rw [← e, hjm]; simp
          · left; exact ⟨j, by omega, e⟩
set_option maxRecDepth 100000 in
theorem strict_ext : ∀ (a b : List Int), a.Pairwise (· < ·) → b.Pairwise (· < ·) → (∀ x, x ∈ a ↔ x ∈ b) → a = b
  | [], [], _, _, _ => rfl
  | [], y :: b, _, _, h => absurd ((h y).2 (List.mem_cons_self ..)) (by simp)
  | x :: a, [], _, _, h => absurd ((h x).1 (List.mem_cons_self ..)) (by simp)
  | x :: a, y :: b, ha, hb, h => by
    rw [List.pairwise_cons] at ha hb
    have hxy : x = y := by
      rcases List.mem_cons.1 ((h x).1 (List.mem_cons_self ..)) with e | e
      · exact e
      · rcases List.mem_cons.1 ((h y).2 (List.mem_cons_self ..)) with e' | e'
        · exact e'.symm
        · have := hb.1 x e; have := ha.1 y e'; omega
    subst hxy
    congr 1
    refine strict_ext a b ha.2 hb.2 fun z => ⟨fun hz => ?_, fun hz => ?_⟩
    · rcases List.mem_cons.1 ((h z).1 (List.mem_cons_of_mem _ hz)) with e | e
      · have := ha.1 z hz; omega
      · exact e
    · rcases List.mem_cons.1 ((h z).2 (List.mem_cons_of_mem _ hz)) with e | e
      · have := hb.1 z hz; omega
      · exact e
set_option maxRecDepth 100000 in
theorem gathZ_up (zs : List Int) : (gathZ zs).Pairwise (· < ·) ∧ ∀ x, x ∈ gathZ zs ↔ x ∈ zs := by
  have h := comp_up (srtZ zs).toArray (fun i j hij hj => by
    have hl : j < (srtZ zs).length := by simpa using hj
    by_cases e : i = j
    · subst e; exact Int.le_refl _
    · have := (List.pairwise_iff_getElem.1 (srtZ_le zs)) i j (by omega) hl (by omega)
      simp only [List.getElem!_toArray]
      rw [getElem!_pos (srtZ zs) i (by omega), getElem!_pos (srtZ zs) j hl]
      exact of_decide_eq_true this) (srtZ zs).length (by simp)
  refine ⟨h.1, fun x => ?_⟩
  show x ∈ Lib.compactUpTo (srtZ zs).toArray (srtZ zs).length ↔ _
  rw [h.2, ← srtZ_mem zs x]
  constructor
  · rintro ⟨j, hj, e⟩
    rw [← e]
    simp only [List.getElem!_toArray]
    rw [getElem!_pos (srtZ zs) j hj]
    exact List.getElem_mem hj
  · intro hx
    obtain ⟨j, hj, e⟩ := List.mem_iff_getElem.1 hx
    exact ⟨j, hj, by simp only [List.getElem!_toArray]; rw [getElem!_pos (srtZ zs) j hj]; exact e⟩
set_option maxRecDepth 100000 in
theorem eaN_up (l : List Int) (k : Nat) : (eaN l k).Pairwise (· < ·) ∧ ∀ x, x ∈ eaN l k ↔ (0 ≤ x ∧ x < k) ∧ x ∈ l := by
  refine ⟨?_, fun x => ?_⟩
  · unfold eaN
    rw [List.pairwise_map]
    exact (List.pairwise_lt_range.filter _).imp (by intro a b h; omega)
  · unfold eaN
    rw [List.mem_map]
    constructor
    · rintro ⟨i, hi, rfl⟩
      rw [List.mem_filter, List.mem_range] at hi
      exact ⟨⟨by omega, by omega⟩, of_decide_eq_true hi.2⟩
    · rintro ⟨⟨h0, h1⟩, h2⟩
      refine ⟨x.toNat, List.mem_filter.2 ⟨List.mem_range.2 (by omega), decide_eq_true ?_⟩, by omega⟩
      rw [show ((x.toNat : Nat) : Int) = x by omega]; exact h2
set_option maxRecDepth 100000 in
theorem gathZ_each (zs : List Int) (h : ∀ z ∈ zs, 0 ≤ z ∧ z < 64) : gathZ zs = eachZ zs := by
  refine strict_ext _ _ (gathZ_up zs).1 (eaN_up zs 64).1 fun x => ?_
  rw [(gathZ_up zs).2, show eachZ zs = eaN zs 64 from rfl, (eaN_up zs 64).2]
  exact ⟨fun hx => ⟨by have := h x hx; omega, hx⟩, fun hx => hx.2⟩

end
section
set_option linter.unusedVariables false
set_option linter.unusedSimpArgs false

open Go.RowKit
set_option maxRecDepth 100000 in
theorem growI_any (n : Nat) (w : World) (hn : n ≤ 2000) :
    Calls Tryd.prog 43 #[.slice none 0 0, .int .i64 n] w fun e w' => ∃ v, e = .returned v ∧ w'.ownsRow w.heap.size 3 1 v 0 [] ∧ Below w.heap.size w w' := by
  obtain ⟨i0, hi, hz0, hz1, hz2⟩ := info_parts info_i64
  by_cases h0 : n = 0
  · subst h0
    exact (Any8.slices_Grow_room laysGrowI none 0 0 0 w (by omega) (by omega) (by omega) (by omega)).mono fun e w' h => ⟨_, h.1, World.ownsRow_nil _ _ _ _, by rw [h.2]; exact Below.refl _ _⟩
  · refine (Any8.slices_Grow_grow laysGrowI i0 (.int .i64 0) hi hz0 (by rw [hz1]; omega) none 0 0 n [] w (by omega) (by omega) (by rw [hz2]; omega) (by omega) (by simp) (fun _ => rfl) (fun a h => by cases h)).mono ?_
    rintro e w' ⟨rfl, rfl⟩
    refine ⟨_, rfl, ⟨by simp, .inr ⟨w.heap.size, _, _, rfl, Nat.le_refl _, heap_alloc_new w.drew _, by omega, ?_, ?_, by simp⟩⟩, (Below.refl _ _).drew.alloc (Nat.le_refl _) _⟩
    · exact grownCap_le_maxLen w _ _ _ (by unfold maxLen; omega)
    · have hg := grownCap_ge w n 0 (laysGrowI_ren.t 25)
      simp [Builtin.zeroCells, Value.cells]
      try omega
def sm2 (n m k : Nat) : Nat := if k = 0 then 0 else if k = 1 then n else n + m
def ap2 (a b : List Int) (k : Nat) : List Int := if k = 0 then [] else if k = 1 then a else a ++ b
set_option maxRecDepth 100000 in
set_option maxHeartbeats 4000000 in
theorem concat_any (B n m g c c' : Nat) (A A' : Option Addr) (a b : List Int) (w : World) (hg : w.heap[g]? = some (.cells #[.slice A n c, .slice A' m c'] 37 (0, 0))) (hA : Sl w B A (i64s a)) (hA' : Sl w B A' (i64s b)) (hBw : B ≤ w.heap.size)
    (hn : a.length = n) (hm : b.length = m) (h0 : A = none → c = 0) (h0' : A' = none → c' = 0) (hn1 : n ≤ 1000) (hm1 : m ≤ 1000) :
    Calls Tryd.prog 29 #[.slice (some ⟨g, 0, none⟩) 2 2] w fun e w' => ∃ v, e = .returned v ∧ w'.ownsRow w.heap.size 3 1 v (a ++ b).length (i64s (a ++ b)) ∧ Below w.heap.size w w' := by
  obtain ⟨i0, hi, hz0, hz1, hz2⟩ := info_parts info_i64
  have HC := Lib.hid (fun (w' : World) (k : Below w.heap.size w w') => show w'.cell? ⟨g, 0, none⟩ = some (.slice A n c) ∧ w'.cell? ⟨g, 1, none⟩ = some (.slice A' m c') from by
    have h := (k.block g (lt_of_block hg)).trans hg
    exact ⟨by rw [cell_of_row _ _ _ _ _ _ h]; rfl, by rw [cell_of_row _ _ _ _ _ _ h]; rfl⟩)
  have HA := Lib.hid (fun (w' : World) (k : Below w.heap.size w w') (j : Nat) (u : Value) (hj : (i64s a)[j]? = some u) => show ∃ ad, A = some ad ∧ w'.cell? (ad.add j) = some u from by
    obtain ⟨ad, e1, hb, hc⟩ := hA.at hj
    exact ⟨ad, e1, by rw [k.cell (by rw [add_block]; omega)]; exact hc⟩)
  have HA' := Lib.hid (fun (w' : World) (k : Below w.heap.size w w') (j : Nat) (u : Value) (hj : (i64s b)[j]? = some u) => show ∃ ad, A' = some ad ∧ w'.cell? (ad.add j) = some u from by
    obtain ⟨ad, e1, hb, hc⟩ := hA'.at hj
    exact ⟨ad, e1, by rw [k.cell (by rw [add_block]; omega)]; exact hc⟩)
  have GR := Lib.hid growI_any
  have H0 := Lib.hid h0
  have H0' := Lib.hid h0'
  have HN := Lib.hid hn
  have HM := Lib.hid hm
  have c0 := (HC.out w (Below.refl _ _)).1
  have c1 := (HC.out w (Below.refl _ _)).2
  clear hg hA hA' h0 h0' hn hm
  go_enter Tryd.func29, Tryd.ntmps29
  go_upto_region 3 with fail
  go_loop [3, 11] (fun x i => ∃ k : Nat, k ≤ 2 ∧ i = .int .i64 k ∧ x = .int .i64 (sm2 n m k : Int)) (fun _ i => 2 - (intOf i).toNat)
  case atStart => exact ⟨0, Nat.zero_le _, rfl, rfl⟩
  case round =>
    obtain ⟨k, hk, rfl, rfl⟩ := hrel
    by_cases hk0 : k = 0
    · subst hk0
      have e : sm2 n m 0 = 0 := rfl
      rw [e]
      go_wp2
      go_round
      case rel => exact ⟨1, by omega, by go_num, by simp [sm2]⟩
      case measure => simp [intOf]
    · by_cases hk1 : k = 1
      · subst hk1
        have e : sm2 n m 1 = n := rfl
        rw [e]
        go_wp2
        go_round
        case rel => exact ⟨2, by omega, by go_num, by simp [sm2]⟩
        case measure => simp [intOf]
      · have hk2 : k = 2 := by omega
        subst hk2
        have e : sm2 n m 2 = n + m := rfl
        rw [e]
        obtain ⟨s, hs⟩ : ∃ s, s = n + m := ⟨_, rfl⟩
        have hs2 : s ≤ 2000 := by omega
        rw [← hs]
        clear hs e hk0 hk1 hk
        go_wp2_with (go_at_call 43; refine stopK ?_)
        unfold StopK
        refine (GR.out s w hs2).mono ?_
        rintro e w1 ⟨v1, rfl, ho1, hb1⟩
        have HO1 := Lib.hid ho1
        have HB1 := Lib.hid hb1
        clear ho1 hb1 c0 c1 hs2
        go_upto_region 11 with fail
        go_loopw [6, 27] (fun v i wr => ∃ k : Nat, k ≤ 2 ∧ i = .int .i64 k ∧ wr.ownsRow w.heap.size 3 1 v (ap2 a b k).length (i64s (ap2 a b k)) ∧ Below w.heap.size w wr) (fun _ i _ => 2 - (intOf i).toNat)
        case atStart => exact ⟨0, Nat.zero_le _, rfl, HO1.out, HB1.out⟩
        case round =>
          obtain ⟨k, hk, rfl, hown, hb⟩ := hrel
          obtain ⟨c0, c1⟩ := HC.out _ hb
          have HO := Lib.hid hown
          have Hh := Lib.hid hb
          have hbs := hb.size
          clear hown hb
          by_cases hk0 : k = 0
          · subst hk0
            go_wp2_with (at_builtin; refine stopK ?_)
            unfold StopK
            refine wpList_append_any (o := ⟨some 33, _, _, _, _, _⟩) rfl _ _ 37 rfl w.heap.size 3 i0 (.int .i64 0) 8 Tryd.underlying37 hi hz0 hz1 hz2 rfl _ _ _ rfl HO.out A n c (i64s a) rfl H0.out (by rw [i64s_len]; exact HN.out) (HA.out _ Hh.out) ?_ ?_ ?_ ?_ ?_
            · intro u hu; simp [i64s] at hu; obtain ⟨x, _, rfl⟩ := hu; rfl
            · unfold maxLen; have : (ap2 a b 0).length = 0 := rfl; omega
            · have : (ap2 a b 0).length = 0 := rfl; omega
            · exact hbs
            intro v' w2 q1 q2
            have hb2 : Below w.heap.size w w2 := Hh.out.grown q2 hbs (fun j hj => (HO.out.lt j hj).1)
            have ho2 : w2.ownsRow w.heap.size 3 1 v' (ap2 a b 1).length (i64s (ap2 a b 1)) := by
              have e : (ap2 a b 1).length = 0 + n := by rw [Nat.zero_add]; exact HN.out
              rw [e]; exact q1
            clear q1 q2
            go_wp2
            go_roundw
            case rel => exact ⟨1, by omega, by go_num, ho2, hb2⟩
            case measure => simp [intOf]
          · by_cases hk1 : k = 1
            · subst hk1
              go_wp2_with (at_builtin; refine stopK ?_)
              unfold StopK
              refine wpList_append_any (o := ⟨some 33, _, _, _, _, _⟩) rfl _ _ 37 rfl w.heap.size 3 i0 (.int .i64 0) 8 Tryd.underlying37 hi hz0 hz1 hz2 rfl _ _ _ rfl HO.out A' m c' (i64s b) rfl H0'.out (by rw [i64s_len]; exact HM.out) (HA'.out _ Hh.out) ?_ ?_ ?_ ?_ ?_
              · intro u hu; simp [i64s] at hu; obtain ⟨x, _, rfl⟩ := hu; rfl
              · unfold maxLen; have : (ap2 a b 1).length = n := HN.out; omega
              · have : (ap2 a b 1).length = n := HN.out; omega
              · exact hbs
              intro v' w2 q1 q2
              have hb2 : Below w.heap.size w w2 := Hh.out.grown q2 hbs (fun j hj => (HO.out.lt j hj).1)
              have ho2 : w2.ownsRow w.heap.size 3 1 v' (ap2 a b 2).length (i64s (ap2 a b 2)) := by
                have e : (ap2 a b 2).length = (ap2 a b 1).length + m := by show (a ++ b).length = a.length + m; rw [List.length_append, HM.out]
                rw [e, show i64s (ap2 a b 2) = i64s (ap2 a b 1) ++ i64s b from List.map_append ..]; exact q1
              clear q1 q2
              go_wp2
              go_roundw
              case rel => exact ⟨2, by omega, by go_num, ho2, hb2⟩
              case measure => simp [intOf]
            · have hk2 : k = 2 := by omega
              subst hk2
              clear hk0 hk1 hk
              go_wp2
              go_ret
              exact ⟨_, rfl, HO.out, Hh.out⟩

end
end Go.Proofs.YtoclfohgchlpnaaDoor
