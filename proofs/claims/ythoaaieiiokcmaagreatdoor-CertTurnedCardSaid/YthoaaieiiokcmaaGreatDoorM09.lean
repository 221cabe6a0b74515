/- Merged: Tags as plain functions; the contracts of the code's 'filled' and 'turned'. The contract of the code's 'turned'. A drawn region in which two operations make a block each, in whatever order: the two blocks are unlike. No program is named here. A region that draws its order, whose operations read and whose calls make memory: one walk in the text's order, over a class of worlds of one's own. No program is named here. The contract of the code's 'Of': the tag of bytes under a key. The document's 'Bytes'; an append that tells the new block from any elder one. -/
import Derived.Test.YthoaaieiiokcmaaGreatDoorM08
import Derived.Test.YthoaaieiiokcmaaGreatDoorM05
import Derived.Test.YthoaaieiiokcmaaGreatDoorM01
import Derived.Stop.BytesEq
import Derived.Test.YthoaaieiiokcmaaGreatDoorM04
import Derived.BigQuiet
import Derived.Deep.MidRow
import Derived.Below
namespace Go.Proofs.YthoaaieiiokcmaaGreatDoor
section
set_option linter.unusedVariables false
open Go.RowKit
/- A tag, plainly. -/
def keyK (key : List B8) : List B8 := if 64 < key.length then dig key else key
def padK (k : List B8) : List B8 := k ++ zeros (64 - k.length)
def fillK (key : List B8) : List B8 := padK (keyK key)
def turnK (x : B8) (l : List B8) : List B8 := l.map (· ^^^ x)
def tagD (key b : List B8) : List B8 := dig (turnK 92 (fillK key) ++ dig (turnK 54 (fillK key) ++ b))
set_option maxRecDepth 100000 in
theorem keyK_le (key : List B8) : (keyK key).length ≤ 64 := by
  unfold keyK; split
  · rw [dig_len]; omega
  · omega
set_option maxRecDepth 100000 in
theorem padK_len (k : List B8) (h : k.length ≤ 64) : (padK k).length = 64 := by simp [padK, zeros_len]; omega
set_option maxRecDepth 100000 in
theorem fillK_len (key : List B8) : (fillK key).length = 64 := padK_len _ (keyK_le key)
set_option maxRecDepth 100000 in
theorem turnK_len (x : B8) (l : List B8) : (turnK x l).length = l.length := by simp [turnK]
set_option maxRecDepth 100000 in
theorem tagD_len (key b : List B8) : (tagD key b).length = 32 := dig_len _
abbrev Z64 : Array Value := ((zeros 64).map bv).toArray
abbrev ZId : Array Value := ((zeros 32).map bv).toArray
set_option maxRecDepth 100000 in
theorem heap_below {w w' : World} (hb : Below w.heap.size w w') {g : Nat} {o : Obj} (h : w.heap[g]? = some o) : w'.heap[g]? = some o := (hb.block g (lt_of_block h)).trans h
set_option maxRecDepth 100000 in
theorem glob_below {w w' : World} {B : Nat} (h : Glob w) (hb : Below B w w') (hB : w.heap.size ≤ B) : Glob w' := h.below (hb.mono hB) h.1
set_option maxRecDepth 100000 in
theorem slice_64 (a : Addr) (w : World) : (Instr.sliceAt 97 (.pointer (some a)) none none none).run Tryz.prog w = .ok (.slice (some a) 64 64) w := by
  have e : Tryz.prog.arrayLen 97 = 64 := by kernel_rfl
  rw [run_sliceAt_array_all (P := Tryz.prog) w 97 a (by kernel_rfl)]
  rw [show Tryz.prog.elem 97 = 5 by kernel_rfl, size_u8, e]
  simp [Result.andThen, slicedAt, Addr.add]
set_option maxRecDepth 100000 in
theorem slice_32 (a : Addr) (w : World) : (Instr.sliceAt 24 (.pointer (some a)) none none none).run Tryz.prog w = .ok (.slice (some a) 32 32) w := by
  have e : Tryz.prog.arrayLen 24 = 32 := by kernel_rfl
  rw [run_sliceAt_array_all (P := Tryz.prog) w 24 a (by kernel_rfl)]
  rw [show Tryz.prog.elem 24 = 5 by kernel_rfl, size_u8, e]
  simp [Result.andThen, slicedAt, Addr.add]
set_option maxRecDepth 100000 in
theorem splice_pad (k : List B8) (h : k.length ≤ 64) : (splice ((zeros 64).map bv) 0 (k.map bv)).toArray = ((padK k).map bv).toArray := by
  unfold splice padK
  rw [List.take_zero, List.nil_append, List.map_append, List.length_map, Nat.zero_add]
  simp only [zeros, List.map_replicate, List.drop_replicate]
set_option maxRecDepth 100000 in
theorem bts_row {w : World} {g : Nat} {xs : List B8} {t : TypeId} {fr : Nat × Nat} (h : w.heap[g]? = some (.cells (xs.map bv).toArray t fr)) : Bts w (some ⟨g, 0, none⟩) xs := fun j u hu => by
  refine ⟨_, rfl, ?_⟩
  rw [add_row, cell_of_row w g j _ _ _ h, List.getElem?_toArray]; exact hu
set_option maxRecDepth 100000 in
theorem bts_copy {w : World} {A : Option Addr} {xs : List B8} (h : Bts w A xs) (hp : 0 < (xs.map bv).length) : ∃ ad, A = some ad ∧ ∀ j v, (xs.map bv)[j]? = some v → w.cell? (ad.add j) = some v := by
  obtain ⟨ad, e, -⟩ := h 0 _ (List.getElem?_eq_getElem hp)
  refine ⟨ad, e, fun j v hj => ?_⟩
  obtain ⟨ad', e', hc⟩ := h j v hj
  rw [e] at e'; injection e' with e'; subst e'; exact hc
end
section
set_option linter.unusedVariables false
open Go.RowKit
def mixT (x : B8) (l : List B8) (k : Nat) : List B8 := (l.take k).map (· ^^^ x) ++ l.drop k
set_option maxRecDepth 100000 in
theorem mixT_zero (x : B8) (l : List B8) : mixT x l 0 = l := by simp [mixT]
set_option maxRecDepth 100000 in
theorem mixT_end (x : B8) (l : List B8) (k : Nat) (h : l.length ≤ k) : mixT x l k = turnK x l := by unfold mixT turnK; rw [List.take_of_length_le h, List.drop_eq_nil_of_le h, List.append_nil]
set_option maxRecDepth 100000 in
theorem mixT_at (x : B8) (l : List B8) (k : Nat) (h : k < l.length) : (mixT x l k)[k]? = some l[k] := by
  unfold mixT
  rw [List.getElem?_append_right (by simp; omega), List.length_map, List.length_take, Nat.min_eq_left (by omega), Nat.sub_self, List.getElem?_drop, Nat.add_zero, List.getElem?_eq_getElem h]
set_option maxRecDepth 100000 in
theorem mixT_set (x : B8) (l : List B8) (k : Nat) (h : k < l.length) : ((mixT x l k).map bv).toArray.setIfInBounds k (bv (l[k] ^^^ x)) = ((mixT x l (k + 1)).map bv).toArray := by
  have e : (mixT x l k).set k (l[k] ^^^ x) = mixT x l (k + 1) := by
    unfold mixT
    rw [List.set_append_right _ _ (by rw [List.length_map, List.length_take]; exact Nat.min_le_left _ _), List.length_map, List.length_take, Nat.min_eq_left (by omega), Nat.sub_self, List.drop_eq_getElem_cons h, List.set_cons_zero, List.take_succ_eq_append_getElem h, List.map_append]
    simp
  rw [← e, List.setIfInBounds_toArray, List.map_set]
end
section
set_option linter.unusedVariables false
section
variable {P : Program} {ops : List Oper} {St : World → World → Prop} {w0 : World}
/-- An operation that makes a block, and answers its address. -/
def Makes (P : Program) (o : Oper) : Prop := (∃ t, o.dst = some t) ∧ ∀ (a : Act) (w : World), ∃ w', (execOp a.eval o).run P w = .ok (.value (.pointer (some ⟨w.heap.size, 0, none⟩))) w'
theorem makes_alloc {o : Oper} {t : Tmp} {ty : TypeId} (hd : o.dst = some t) (ho : o.op = .alloc ty) (h : ∀ w, ∃ w', (execOp (fun _ => undef) o).run P w = .ok (.value (.pointer (some ⟨w.heap.size, 0, none⟩))) w') : Makes P o :=
  ⟨⟨t, hd⟩, fun a w => by
    obtain ⟨w', hw⟩ := h w
    exact ⟨w', by unfold execOp at *; rw [ho] at *; exact hw⟩⟩
def Pt (v : Value) (w : World) : Prop := ∃ g, g < w.heap.size ∧ v = .pointer (some ⟨g, 0, none⟩)
theorem does_makes {o : Oper} {a : Act} {w : World} {R : Value → World → Prop} (hm : Makes P o) (h : doesR P o a w R) : doesR P o a w (fun u w' => R u w' ∧ u = .pointer (some ⟨w.heap.size, 0, none⟩)) := by
  obtain ⟨w', hw⟩ := hm.2 a w
  unfold doesR at *
  rw [hw] at h ⊢
  exact ⟨h, rfl⟩
theorem rel_any2 {Q : Exit → Act → World → Prop} {gs : List Gv} {a0 : Act} (p q : Nat) (op oq : Oper) (hpq : p ≠ q) (hp : ops[p]? = some op) (hq : ops[q]? = some oq) (hmp : Makes P op) (hmq : Makes P oq) (Gp Gq : Value → World → Prop) (hgp : gs[p]? = some (.rel Gp)) (hgq : gs[q]? = some (.rel Gq))
    (hPp : ∀ v w, Gp v w → Pt v w) (hPq : ∀ v w, Gq v w → Pt v w)
    (hr : RelOk ops) (hrefl : ∀ w, St w w) (htrans : ∀ a b c, St a b → St b c → St a c) (hstab : ∀ (i : Nat) G, gs[i]? = some (.rel G) → ∀ v w w', G v w → St w w' → G v w')
    (hin : ∀ (i : Nat) (o : Oper) (t : Tmp), ops[i]? = some o → o.dst = some t → t < a0.tmps.size) (hw : wpR P ops St w0 (fun a' w' => valOf op a' ≠ valOf oq a' → Q .normal a' w') gs ops 0 a0 []) :
    ∀ (fuel : Nat) (listed : Array Bool) (a : Act) (w : World), InvR ops St w0 a0 gs listed a w → (listed.getD p false = true → listed.getD q false = true → valOf op a ≠ valOf oq a) → unl listed ≤ fuel → wpAny P .any ops.toArray Q fuel listed a w := by
  have hg : ∀ (i : Nat) (o : Oper), ops[i]? = some o → ∃ g, gs[i]? = some g := fun i o hi => by
    obtain ⟨g, e, -⟩ := wpR_use (xs := fun _ => undef) gs ops 0 a0 [] hw i o hi; exact ⟨g, e⟩
  have hend : ∀ (listed : Array Bool) (a : Act) (w : World), InvR ops St w0 a0 gs listed a w → (listed.getD p false = true → listed.getD q false = true → valOf op a ≠ valOf oq a) → Region.ready .any ops.toArray listed = [] → Q .normal a w := by
    intro listed a w h hD h0
    have hl := h.all hr h0
    have hw' := wpR_end (xs := xsOf ops a) gs ops 0 a0 [] hw w h.st ((AllF_iff _ _).2 fun p hp => by
      rcases runR_facts _ _ _ _ _ _ p hp with hp | ⟨j, G, hj, hgj, rfl⟩
      · cases hp
      · have hoj : ops[j]? = some (ops[j]'hj) := List.getElem?_eq_getElem hj
        have := h.facts j _ _ hoj hgj (hl j _ hoj)
        show G (xsOf ops a (0 + j)) w
        rw [show xsOf ops a (0 + j) = valOf (ops[j]'hj) a by unfold xsOf; rw [Nat.zero_add, hoj]]
        exact this)
    have he : (runR (xsOf ops a) ops.length gs ops 0 a0 []).1 = a := by
      obtain ⟨s1, s2⟩ := runR_size (xs := xsOf ops a) ops.length gs ops 0 a0 []
      have htm : (runR (xsOf ops a) ops.length gs ops 0 a0 []).1.tmps = a.tmps := by
        apply Array.ext_getElem?
        intro t
        by_cases hc : ∃ (j : Nat) (o : Oper), ops[j]? = some o ∧ o.dst = some t
        · obtain ⟨j, o, hj, hd⟩ := hc
          obtain ⟨g, hgj⟩ := hg j o hj
          have hts := hin j o t hj hd
          have hlen := (List.getElem?_eq_some_iff.1 hj).1
          rw [runR_at t ops.length gs ops 0 a0 [] j o g hlen hj hgj hd hts (fun j' o' hj' ho' e => by have := hr.dst j o j' o' t hj ho' hd e; omega)]
          have hv := h.facts j o g hj hgj (hl j o hj)
          have e1 : valOf o a = a.tmps.getD t undef := by unfold valOf; rw [hd]
          have e2 : xsOf ops a (0 + j) = valOf o a := by unfold xsOf; rw [Nat.zero_add, hj]
          have hta : t < a.tmps.size := by rw [h.size]; exact hts
          have e3 : a.tmps[t]? = some (valOf o a) := by rw [e1, Array.getElem?_eq_getElem hta, Array.getD, dif_pos hta]; rfl
          rw [e3, e2]
          cases g with
          | one v => exact congrArg some hv.symm
          | rel G => rfl
        · rw [runR_out t ops.length gs ops 0 a0 [] (fun j o _ ho e => hc ⟨j, o, ho, e⟩)]
          exact (h.out t fun j o hj _ e => hc ⟨j, o, hj, e⟩).symm
      have hdf := s2.trans h.defers.symm
      generalize (runR (xsOf ops a) ops.length gs ops 0 a0 []).1 = r at htm hdf
      obtain ⟨t1, d1⟩ := r
      obtain ⟨t2, d2⟩ := a
      simp only at htm hdf
      rw [htm, hdf]
    rw [he] at hw'
    exact hw' (hD (hl p op hp) (hl q oq hq))
  intro fuel
  induction fuel with
  | zero =>
    intro listed a w h hD hu
    have h0 : Region.ready .any ops.toArray listed = [] := by
      rw [List.eq_nil_iff_forall_not_mem]
      intro j hj
      have := (mem_ready.1 hj).1
      rw [unl_zero (by omega) j] at this; cases this
    exact ⟨h0, hend listed a w h hD h0⟩
  | succ fuel ih =>
    intro listed a w h hD hu
    refine ⟨hend listed a w h hD, fun i hi => ?_⟩
    obtain ⟨hiu, o, hio, hall⟩ := mem_ready.1 hi
    have hio : ops[i]? = some o := by simpa using hio
    have hlen := (List.getElem?_eq_some_iff.1 hio).1
    have hil : i < listed.size := by rw [h.lsize]; exact hlen
    have hif : listed.getD i false = false := by rw [getD_lt hil] at hiu ⊢; exact hiu
    have hus := unl_set hil hif
    obtain ⟨g, hgi, hO⟩ := wpR_use (xs := xsOf ops a) gs ops 0 a0 [] hw i o hio
    rw [Nat.zero_add] at hO
    have hbl := h.lst hr i o hio hall
    have heq : ∀ t, (∀ (j : Nat) (o' : Oper), ops[j]? = some o' → o'.dst = some t → if j < i then j ∈ (befs ops).getD i [] else (j = i ∨ i ∈ (befs ops).getD j [])) → (runR (xsOf ops a) i gs ops 0 a0 []).1.tmps[t]? = a.tmps[t]? :=
      fun t ht => slot_eq hr h hin hg i t hbl hif ht
    have hev : execOp a.eval o = execOp (runR (xsOf ops a) i gs ops 0 a0 []).1.eval o := by
      refine execOp_congr o (hr.sel i o hio) fun x hx => ?_
      cases x with
      | tmp t =>
        have := heq t (hr.looks i o t hio hx)
        simp only [Act.eval, Array.getD_eq_getD_getElem?, this]
      | _ => rfl
    have hwt : Region.wanted o (yielded ops.toArray (runR (xsOf ops a) i gs ops 0 a0 []).1.tmps) = Region.wanted o (yielded ops.toArray a.tmps) := by
      unfold Region.wanted
      cases hgd : o.guard with
      | none => rfl
      | some gw =>
        obtain ⟨gi, want⟩ := gw
        simp only
        have hgb := hr.guard i o gi want hio hgd
        have hy : yielded ops.toArray (runR (xsOf ops a) i gs ops 0 a0 []).1.tmps gi = yielded ops.toArray a.tmps gi := by
          unfold yielded
          cases hog : ops.toArray[gi]? with
          | none => rfl
          | some og =>
            cases hdg : og.dst with
            | none => simp [hdg]
            | some t =>
              have := heq t fun j o' hj ho' => by
                have : gi = j := hr.dst gi og j o' t (by simpa using hog) hj hdg ho'
                subst this
                rw [if_pos (hr.bef i o hio gi hgb).1]; exact hgb
              simp [hdg, this]
        rw [hy]
    have hF : AllF ((runR (xsOf ops a) i gs ops 0 a0 []).2.filter fun p => ((befs ops).getD i []).contains p.1) w := (AllF_iff _ _).2 fun p hp => by
      obtain ⟨hp1, hp2⟩ := List.mem_filter.1 hp
      rcases runR_facts _ _ _ _ _ _ p hp1 with hp1 | ⟨j, G, hj, hgj, rfl⟩
      · cases hp1
      · have hjl : j < ops.length := by omega
        have hoj : ops[j]? = some (ops[j]'hjl) := List.getElem?_eq_getElem hjl
        have hjb : j ∈ (befs ops).getD i [] := by simpa using hp2
        have := h.facts j _ _ hoj hgj (hbl j hjb)
        show G (xsOf ops a (0 + j)) w
        rw [show xsOf ops a (0 + j) = valOf (ops[j]'hjl) a by unfold xsOf; rw [Nat.zero_add, hoj]]
        exact this
    -- what was laid stays, and a new block is unlike an elder one
    have hold : ∀ (j : Nat) (oj : Oper) (v : Value), ops[j]? = some oj → j ≠ i → valOf oj (a.put o.dst v) = valOf oj a := fun j oj v hj hne => by
      unfold valOf
      cases hd : oj.dst with
      | none => rfl
      | some t =>
        have hn : o.dst ≠ some t := fun e => hne (hr.dst j oj i o t hj hio hd e)
        have := put_ne (a := a) (v := v) hn
        simp only
        simp [Array.getD_eq_getD_getElem?, this]
    have hnew : ∀ (v : Value), (∃ t, o.dst = some t) → valOf o (a.put o.dst v) = v := fun v ⟨t, hd⟩ => by
      have := put_eq (a := a) (v := v) (t := t) (by rw [h.size]; exact hin i o t hio hd)
      unfold valOf
      rw [hd]
      simp [Array.getD_eq_getD_getElem?, this]
    have hDn : ∀ v, (i = p ∨ i = q → v = .pointer (some ⟨w.heap.size, 0, none⟩)) → (listed.setIfInBounds i true).getD p false = true → (listed.setIfInBounds i true).getD q false = true → valOf op (a.put o.dst v) ≠ valOf oq (a.put o.dst v) := by
      intro v hv lp lq
      by_cases hip : i = p
      · subst hip
        rw [hio] at hp; injection hp with hp; subst hp
        have lq' : listed.getD q false = true := by rwa [getD_set_ne false hpq] at lq
        rw [hnew v hmp.1, hold q oq v hq (Ne.symm hpq), hv (.inl rfl)]
        obtain ⟨g, hg1, hg2⟩ := hPq _ _ (h.facts q oq _ hq hgq lq')
        rw [hg2]
        intro e; injection e with e; injection e with e; injection e with e; omega
      · by_cases hiq : i = q
        · subst hiq
          rw [hio] at hq; injection hq with hq; subst hq
          have lp' : listed.getD p false = true := by rwa [getD_set_ne false hip] at lp
          rw [hnew v hmq.1, hold p op v hp (Ne.symm hip), hv (.inr rfl)]
          obtain ⟨g, hg1, hg2⟩ := hPp _ _ (h.facts p op _ hp hgp lp')
          rw [hg2]
          intro e; injection e with e; injection e with e; injection e with e; omega
        · rw [hold p op v hp (Ne.symm hip), hold q oq v hq (Ne.symm hiq)]
          rw [getD_set_ne false hip] at lp
          rw [getD_set_ne false hiq] at lq
          exact hD lp lq
    unfold wpOp
    rw [show ops.toArray[i]? = some o by simpa using hio]
    simp only
    unfold Obl at hO
    by_cases hiF : i = p ∨ i = q
    · obtain ⟨G, hmo, hgr⟩ : ∃ G, Makes P o ∧ g = .rel G ∧ (∀ v w, G v w → Pt v w) := by
        rcases hiF with rfl | rfl
        · rw [hio] at hp; injection hp with hp; subst hp
          rw [hgi] at hgp; injection hgp with hgp
          exact ⟨Gp, hmp, hgp, hPp⟩
        · rw [hio] at hq; injection hq with hq; subst hq
          rw [hgi] at hgq; injection hgq with hgq
          exact ⟨Gq, hmq, hgq, hPq⟩
      obtain ⟨rfl, hPG⟩ := hgr
      have hre : ∀ u, retV o u = u := fun u => by obtain ⟨t, hd⟩ := hmo.1; unfold retV; rw [hd]
      by_cases hwd : Region.wanted o (yielded ops.toArray a.tmps) = true
      · rw [if_pos hwd]
        left
        simp only [hwt, hwd, if_true] at hO
        have hO2 := does_makes hmo (hO w h.st hF)
        exact wp_of_does hev hO2 fun u w' ⟨⟨hu1, hu2⟩, hu3⟩ => ih _ _ _ (h.next hr htrans hstab hin hio hgi hall hu2 hu1) (hDn _ (fun _ => hu3)) (by omega)
      · exfalso
        simp only [hwt, hwd] at hO
        have := hPG _ _ (hO w h.st hF)
        obtain ⟨g, -, e⟩ := this
        cases e
    · by_cases hwd : Region.wanted o (yielded ops.toArray a.tmps) = true
      · rw [if_pos hwd]
        left
        cases g with
        | one v =>
          simp only [hwt, hwd, if_true] at hO
          exact wp_of_does hev (hO w h.st hF) fun u w' ⟨hu1, hu2⟩ => ih _ _ _ (h.next hr htrans hstab hin hio hgi hall hu2 hu1) (hDn _ (fun h => absurd h hiF)) (by omega)
        | rel G =>
          simp only [hwt, hwd, if_true] at hO
          exact wp_of_does hev (hO w h.st hF) fun u w' ⟨hu1, hu2⟩ => ih _ _ _ (h.next hr htrans hstab hin hio hgi hall hu2 hu1) (hDn _ (fun h => absurd h hiF)) (by omega)
      · rw [if_neg hwd]
        have hre : retV o undef = undef := by unfold retV; cases o.dst <;> rfl
        cases g with
        | one v =>
          simp only [hwt, hwd] at hO
          refine ih _ _ _ (h.next hr htrans hstab hin hio hgi hall (hrefl w) (v := undef) ?_) (hDn _ (fun h => absurd h hiF)) (by omega)
          rw [hre]; exact hO.symm
        | rel G =>
          simp only [hwt, hwd] at hO
          refine ih _ _ _ (h.next hr htrans hstab hin hio hgi hall (hrefl w) (v := undef) ?_) (hDn _ (fun h => absurd h hiF)) (by omega)
          rw [hre]; exact hO w h.st hF
variable {l : List Oper} {Q : Exit → Act → World → Prop}
/-- 'wp_region_rel_tail', where operations p and q make a block each. -/
theorem wp_region_rel_tail2 {id : Nat} {a0 : Act} {w : World} (k : Nat) (n : Nat) (p q : Nat) (op oq : Oper) (hpq : decide (p ≠ q) = true) (hp : (l.take k)[p]? = some op) (hq : (l.take k)[q]? = some oq) (hmp : Makes P op) (hmq : Makes P oq)
    (hm : P.follows .mixedOrders = true) (hB : tailB l k = true) (St : World → World → Prop) (gs : List Gv) (Gp Gq : Value → World → Prop) (hgp : gs[p]? = some (.rel Gp)) (hgq : gs[q]? = some (.rel Gq)) (hPp : ∀ v w, Gp v w → Pt v w) (hPq : ∀ v w, Gq v w → Pt v w)
    (hok : relOk (l.take k) = true) (hn : a0.tmps.size = n) (hin : insB (l.take k) n = true)
    (hrefl : ∀ w, St w w) (htrans : ∀ a b c, St a b → St b c → St a c) (hstab : StabL St gs)
    (h : wpR P (l.take k) St w.drew (fun a' w' => valOf op a' ≠ valOf oq a' → wpList P l.toArray Q (l.drop k) a' w') gs (l.take k) 0 a0 []) : (Code.region id l.toArray true).wp P Q a0 w := by
  refine wp_region_any hm (wpAny_tail hB (rel_any2 (Q := QH P l k Q) p q op oq (by simpa using hpq) hp hq hmp hmq Gp Gq hgp hgq hPp hPq (relOk_spec hok) hrefl htrans (stabL_spec gs hstab) (fun i o t hi ht => ?_) h _ _ _ _ ?_ ?_ ?_))
  · unfold insB at hin
    rw [List.all_eq_true] at hin
    have := hin o (List.mem_of_getElem? hi)
    rw [ht] at this
    rw [hn]; simpa using this
  · exact ⟨hrefl _, rfl, rfl, by simp, fun i o hi hl => (by rw [rep_false] at hl; cases hl), fun i o g hi hg hl => (by rw [rep_false] at hl; cases hl), fun t _ => rfl⟩
  · intro hl; rw [rep_false] at hl; cases hl
  · unfold unl
    refine Nat.le_trans (List.countP_le_length) ?_
    simp
end
end
section

open Go.RowKit
section
variable {P : Program} {ops : Array Oper} {C : World → Prop}
theorem cls_load {o : Oper} {a : Act} {K : Act → Prop} (ty : TypeId) (x : Operand) (ho : o.op = .load ty x) (b off : Nat) (hx : a.eval x = .pointer (some ⟨b, off, none⟩)) (cs : List Value) (d : TypeDesc)
    (hS : ∀ w, C w → w.rangeAt b off cs) (hu : P.underlying ty = some d) (hd : d.isRow = true) (hi : (P.info? ty).map (·.size) = some cs.length) (hK : K (a.put o.dst (.agg cs.toArray))) : o.quiet P a C K :=
  ⟨_, fun w hw => by
    unfold Oper.quietAt execOp
    simp only [ho, hx, Instr.loadAt, Instr.sureAddr, Sem.run_bind, Sem.run_pure, Result.andThen_ok, run_loadVar_mid w b off ty cs d (hS w hw) hu hd hi, Oper.quietUpon, and_self], hK⟩
theorem cls_cell {o : Oper} {a : Act} {K : Act → Prop} (v : Value) (hr : ∀ w, C w → (execOp a.eval o).run P w = .ok (.value v) w) (hK : K (a.put o.dst v)) : o.quiet P a C K :=
  ⟨_, fun w hw => by unfold Oper.quietAt; rw [hr w hw]; exact ⟨rfl, rfl⟩, hK⟩
end
end
section
set_option linter.unusedVariables false
open Go.RowKit
set_option maxRecDepth 100000 in
theorem range_row {w : World} {g : Nat} {cs : List Value} {t : TypeId} {fr : Nat × Nat} (h : w.heap[g]? = some (.cells cs.toArray t fr)) : w.rangeAt g 0 cs := fun j v hj => by
  rw [Nat.zero_add, cell_of_row w g j _ _ _ h, List.getElem?_toArray]; exact hj
/-- A block that was made from B on, and its address. -/
def PtrZ (B : Nat) (C : Array Value) (t : TypeId) (v : Value) (w : World) : Prop := ∃ g, B ≤ g ∧ v = .pointer (some ⟨g, 0, none⟩) ∧ w.heap[g]? = some (.cells C t (0, 0))
set_option maxRecDepth 100000 in
theorem PtrZ.stable {B : Nat} {C : Array Value} {t : TypeId} (v : Value) (w w' : World) (h : PtrZ B C t v w) (hs : Stp w w') : PtrZ B C t v w' := by
  obtain ⟨g, hB, e, hg⟩ := h
  exact ⟨g, hB, e, heap_below hs hg⟩
set_option maxRecDepth 100000 in
theorem PtrZ.pt {B : Nat} {C : Array Value} {t : TypeId} (v : Value) (w : World) (h : PtrZ B C t v w) : Pt v w := by
  obtain ⟨g, hB, e, hg⟩ := h
  exact ⟨g, lt_of_block hg, e⟩
set_option maxRecDepth 100000 in
theorem does_ptr {P : Program} {o : Oper} {a : Act} {w : World} {B : Nat} (C : Array Value) (t : TypeId) (d : Tmp) (hd : o.dst = some d) (hB : B ≤ w.heap.size) (hr : ∀ w, (execOp a.eval o).run P w = .ok (.value (.pointer (some ⟨w.heap.size, 0, none⟩))) (w.alloc (.cells C t))) :
    doesR P o a w (fun u w' => PtrZ B C t (retV o u) w' ∧ Stp w w') := by
  refine does_run (hr w) ⟨?_, (Below.refl _ _).alloc (Nat.le_refl _) _⟩
  have e : ∀ u, retV o u = u := fun u => by unfold retV; rw [hd]
  rw [e]
  exact ⟨w.heap.size, hB, rfl, heap_alloc_new w _⟩
set_option maxRecDepth 100000 in
theorem lst_two {w : World} {g : Nat} {A A' : Option Addr} {c c' : Nat} {xs ys : List B8} {n n' : Nat} (hn : n = xs.length) (hn' : n' = ys.length) {t : TypeId} (h : w.heap[g]? = some (.cells #[.slice A n c, .slice A' n' c'] t (0, 0))) (hc : xs.length ≤ c) (hc' : ys.length ≤ c') (hx : Bts w A xs) (hy : Bts w A' ys) : Lst w (some ⟨g, 0, none⟩) [xs, ys] := fun i zs hi => by
  subst hn hn'
  match i, hi with
  | 0, hi =>
    obtain rfl : xs = zs := by simpa using hi
    exact ⟨_, A, c, rfl, by rw [add_row, cell_of_row _ _ _ _ _ _ h]; rfl, hc, hx⟩
  | 1, hi =>
    obtain rfl : ys = zs := by simpa using hi
    exact ⟨_, A', c', rfl, by rw [add_row, cell_of_row _ _ _ _ _ _ h]; rfl, hc', hy⟩
end
section
set_option linter.unusedVariables false
open Go.RowKit
section
variable {P : Program} {w : World}
set_option maxRecDepth 100000 in
/-- An appended row lies where it lay, or in a new block. -/
theorem append_where (base : Nat) (t ty e : TypeId) (i : TypeInfo) (z : Value) (ht : P.underlying t = some (.slice e)) (hi : P.info? e = some i) (hz : i.zero = some z) (hsize : i.size = 1) (hzs : z.cells.size = 1)
    (v : Value) (n : Nat) (xs : List Value) (hown : w.ownsRow base e 1 v n xs) (a : Addr) (m c : Nat) (news : List Value) (hl : news.length = m) (hnews : ∀ j u, news[j]? = some u → w.cell? (a.add j) = some u) (h1 : ∀ u ∈ news, u.oneCell' = true)
    (h63 : n + m ≤ maxLen) (hbytes : (n + m) * i.bytes ≤ 140737488355328) (v' : Value) (w' : World) (hr : (Builtin.append_ #[t, t] ty #[v, .slice (some a) m c]).run P w = .ok v' w') (hnil : v' = .slice none 0 0 ↔ v = .slice none 0 0 ∧ m = 0) :
    v'.ownBlock = v.ownBlock ∨ v'.ownBlock = some w.heap.size := by
  have hsm : n + m ≤ 9223372036854775807 := by unfold maxLen at h63; omega
  have hl1 : news.length = m * i.size := by rw [hsize, Nat.mul_one]; exact hl
  have hx1 : xs.length = n * i.size := by rw [hsize]; exact hown.1
  have fin : ∀ {u : Value} {wu : World}, (Builtin.append_ #[t, t] ty #[v, .slice (some a) m c]).run P w = .ok u wu → v' = u := fun h => by rw [hr] at h; injection h
  rcases hown.2 with ⟨rfl, rfl⟩ | ⟨g, cap, cur, rfl, hbg, hg, hnc, hcm, hcs, htake⟩
  · by_cases hm : m = 0
    · left; rw [hnil.2 ⟨rfl, hm⟩]
    · right
      rw [fin (run_append_nil (P := P) w t ty e i z ht hi hz a m c news hl1 hnews (by omega) (by omega) (by have hb := hbytes; simp only [Nat.zero_add] at hb; omega))]; rfl
  · by_cases hroom : n + m ≤ cap
    · left
      rw [fin (run_append_room (P := P) w t ty e i ht hi g n cap cur hg a m c news hl1 hnews h1 hroom (by rw [hl, hcs, hsize]; omega))]; rfl
    · right
      rw [fin (run_append_grow (P := P) w t ty e i z ht hi hz ⟨g, 0, none⟩ n cap xs hx1 (hown.cells (g := g) rfl) a m c news hl1 hnews (by omega) (by omega) (growslice_fits (by omega) hbytes))]; rfl
set_option maxRecDepth 100000 in
theorem wpList_append_where {ops : Array Oper} {rest : List Oper} {o : Oper} {a : Act} {Q : Exit → Act → World → Prop} (hgd : o.guard = none) (s x : Operand) (t : TypeId)
    (ho : o.op = .call { callee := .builtin .append, args := #[s, x], argTypes := #[t, t] })
    (base : Nat) (e : TypeId) (i : TypeInfo) (z : Value) (ht : P.underlying t = some (.slice e)) (hi : P.info? e = some i) (hz : i.zero = some z) (hsize : i.size = 1) (hzs : z.cells.size = 1)
    (v : Value) (n : Nat) (xs : List Value) (hs : a.eval s = v) (hown : w.ownsRow base e 1 v n xs)
    (ad : Addr) (m c : Nat) (news : List Value) (hx : a.eval x = .slice (some ad) m c) (hl : news.length = m) (hnews : ∀ (j : Nat) (u : Value), news[j]? = some u → w.cell? (ad.add j) = some u) (h1 : ∀ u ∈ news, u.oneCell' = true)
    (h63 : n + m ≤ maxLen) (hbytes : (n + m) * i.bytes ≤ 140737488355328) (hbase : base ≤ w.heap.size)
    (h : ∀ v' w', w'.ownsRow base e 1 v' (n + m) (xs ++ news) → w.grownBy w' v.ownBlock → (v'.ownBlock = v.ownBlock ∨ v'.ownBlock = some w.heap.size) → wpList P ops Q rest (a.put o.dst v') w') : wpList P ops Q (o :: rest) a w := by
  obtain ⟨v', w', hr, h2, h3, h4⟩ := run_append_own (P := P) w base t o.type e i z 1 i.bytes ht hi hz hsize rfl hzs (by decide) v n xs hown ad m c news (by omega) hnews h1 h63 hbytes hbase
  have h5 := append_where base t o.type e i z ht hi hz hsize hzs v n xs hown ad m c news hl hnews h1 h63 hbytes v' w' hr h4
  refine wpList_plain hgd fun K hK => ?_
  unfold Oper.wp execOp
  simp only [ho, resolve, invoke, builtin, Sem.run_bind, Sem.run_pure, Result.andThen_ok, List.map_toArray, List.map_cons, List.map_nil, hs, hx, hr]
  exact hK _ _ (h v' w' h2 h3 h5)
end
set_option maxRecDepth 100000 in
theorem own_all {w : World} {B n : Nat} {e : TypeId} {v : Value} {d : List B8} (h : w.ownsRow (B + 1) e 1 v n ((d.take n).map bv)) (hd : d.length = n) : w.ownsRow B e 1 v n (d.map bv) := by
  have := own_more h (base' := B) (by omega)
  rwa [List.take_of_length_le (by omega)] at this
set_option maxRecDepth 100000 in
set_option maxHeartbeats 2000000 in
theorem rbytesId_any (d : List B8) (w : World) (hd : d.length = 32) :
    Calls Tryz.prog 57 #[.agg (d.map bv).toArray] w fun e w' => ∃ v, e = .returned v ∧ w'.ownsRow w.heap.size 5 1 v 32 (d.map bv) ∧ Below w.heap.size w w' := by
  obtain ⟨i0, hi, hz0, hz1, hz2⟩ := info_parts info_u8
  obtain ⟨D, hD⟩ : ∃ D, D = (d.map bv).toArray := ⟨_, rfl⟩
  rw [← hD]
  obtain ⟨wz, hwz⟩ : ∃ wz, wz = w.alloc (.cells D 24) := ⟨_, rfl⟩
  have HBz := Lib.hid (show Below w.heap.size w wz by rw [hwz]; exact (Below.refl _ _).alloc (Nat.le_refl _) _)
  have HSz := Lib.hid (show wz.heap.size = w.heap.size + 1 by rw [hwz]; simp)
  have HC := Lib.hid (show ∀ (k : Nat) (hk : k < d.length), wz.cell? ⟨w.heap.size, k, none⟩ = some (bv d[k]) from fun k hk => by
    rw [hwz, cell_of_row _ _ _ _ _ _ (heap_alloc_new w _), hD, List.getElem?_toArray, List.getElem?_map, List.getElem?_eq_getElem hk]; rfl)
  have HD := Lib.hid hd
  clear hD hd
  go_enter Tryz.func57, Tryz.ntmps57
  go_upto_region 1 with fail
  change Code.wp _ _ _ _ (w.alloc (.cells D 24))
  rw [← hwz]
  clear hwz
  go_wp2
  go_loopw [3, 4] (fun v i wr => ∃ k : Nat, k ≤ 32 ∧ i = .int .i64 k ∧ wr.ownsRow (w.heap.size + 1) 5 1 v k ((d.take k).map bv) ∧ Below (w.heap.size + 1) wz wr) (fun _ i _ => 32 - (intOf i).toNat)
  case atStart => exact ⟨0, Nat.zero_le _, rfl, World.ownsRow_nil _ _ _ _, Below.refl _ _⟩
  case round =>
    obtain ⟨k, hk, rfl, ho, hb⟩ := hrel
    have HO := Lib.hid ho
    have HB := Lib.hid hb
    clear ho
    have hsz : w.heap.size + 1 ≤ wr.heap.size := by have := hb.size; rw [HSz.out] at this; exact this
    by_cases hlt : k < 32
    · have hkd : k < d.length := by rw [HD.out]; exact hlt
      have hcell : wr.cell? ⟨w.heap.size, k, none⟩ = some (bv d[k]) := (hb.cell (by show w.heap.size < _; omega)).trans (HC.out k hkd)
      have HT := Lib.hid (show (d.take (k + 1)).map bv = (d.take k).map bv ++ [bv d[k]] by rw [List.take_succ_eq_append_getElem hkd, List.map_append]; rfl)
      clear hb
      generalize d[k] = x at *
      unfold bv at hcell
      go_wp2_with (at_builtin; refine stop ?_)
      unfold Stop
      have ha : Below wr.heap.size wr (wr.alloc (.cells #[.int .u8 (x.toNat : Int)] 5)) := (Below.refl _ _).alloc (Nat.le_refl _) _
      have HO2 := Lib.hid (own_below HO.out ha)
      have HB2 := Lib.hid (HB.out.trans (ha.mono hsz))
      clear ha hcell
      refine wpList_append_any (o := ⟨some 14, _, _, _, _, _⟩) rfl _ _ 22 rfl (w.heap.size + 1) 5 i0 (.int .u8 0) 1 Tryz.underlying22 hi hz0 hz1 hz2 rfl _ k _ rfl HO2.out (some ⟨wr.heap.size, 0, none⟩) 1 1 [bv x] rfl (fun h => by cases h) rfl ?_ (bv_one [x]) ?_ ?_ ?_ ?_
      · exact one_new wr (bv x) _
      · unfold maxLen; omega
      · omega
      · simp; omega
      intro v3 w3 g1 g2
      have HO3 := Lib.hid (show w3.ownsRow (w.heap.size + 1) 5 1 v3 (k + 1) ((d.take (k + 1)).map bv) by rw [HT.out]; exact g1)
      have HB3 := Lib.hid (HB2.out.grown g2 (by simp; omega) (fun k hk => (HO2.out.lt k hk).1))
      clear g1 g2
      go_wp2_with fail
      go_roundw
      case rel => exact ⟨k + 1, by omega, by go_num, HO3.out, HB3.out⟩
      case measure => simp [intOf]; omega
    · obtain rfl : k = 32 := by omega
      have HB3 := Lib.hid (HBz.out.trans (HB.out.mono (by omega)))
      have HO3 := Lib.hid (own_all HO.out HD.out)
      clear hb
      go_wp2_with fail
      go_ret
      exact ⟨_, rfl, HO3.out, HB3.out⟩
end
end Go.Proofs.YthoaaieiiokcmaaGreatDoor
