/- A drawn region in which two operations make a block each, in whatever order: the two blocks are unlike. No program is named here. -/
import Derived.Test.YtoagneibaincpaaDoorTail
set_option linter.unusedVariables false
namespace Go.Proofs.YtoagneibaincpaaDoor
section
variable {P : Program} {ops : List Oper} {St : World → World → Prop} {w0 : World}
/-- An operation that makes a block, and answers its address. -/
def Makes (P : Program) (o : Oper) : Prop := (∃ t, o.dst = some t) ∧ ∀ (a : Act) (w : World), ∃ w', (execOp a.eval o).run P w = .ok (.value (.pointer (some ⟨w.heap.size, 0, none⟩))) w'
theorem makes_alloc {o : Oper} {t : Tmp} {ty : TypeId} (hd : o.dst = some t) (ho : o.op = .alloc ty) (h : ∀ w, ∃ w', (execOp (fun _ => undef) o).run P w = .ok (.value (.pointer (some ⟨w.heap.size, 0, none⟩))) w') : Makes P o :=
  ⟨⟨t, hd⟩, fun a w => by
    obtain ⟨w', hw⟩ := h w
    exact ⟨w', by unfold execOp at *; rw [ho] at *; exact hw⟩⟩
def Pt (v : Value) (w : World) : Prop := ∃ g, g < w.heap.size ∧ v = .pointer (some ⟨g, 0, none⟩)
theorem does_makes {o : Oper} {a : Act} {w : World} {R : Value → World → Prop} (hm : Makes P o) (h : doesR P o a w R) : doesR P o a w (fun u w' => R u w' ∧ u = .pointer (some ⟨w.heap.size, 0, none⟩)) := by
  obtain ⟨w', hw⟩ := hm.2 a w
  unfold doesR at *
  rw [hw] at h ⊢
  exact ⟨h, rfl⟩
theorem rel_any2 {Q : Exit → Act → World → Prop} {gs : List Gv} {a0 : Act} (p q : Nat) (op oq : Oper) (hpq : p ≠ q) (hp : ops[p]? = some op) (hq : ops[q]? = some oq) (hmp : Makes P op) (hmq : Makes P oq) (Gp Gq : Value → World → Prop) (hgp : gs[p]? = some (.rel Gp)) (hgq : gs[q]? = some (.rel Gq))
    (hPp : ∀ v w, Gp v w → Pt v w) (hPq : ∀ v w, Gq v w → Pt v w)
    (hr : RelOk ops) (hrefl : ∀ w, St w w) (htrans : ∀ a b c, St a b → St b c → St a c) (hstab : ∀ (i : Nat) G, gs[i]? = some (.rel G) → ∀ v w w', G v w → St w w' → G v w')
    (hin : ∀ (i : Nat) (o : Oper) (t : Tmp), ops[i]? = some o → o.dst = some t → t < a0.tmps.size) (hw : wpR P ops St w0 (fun a' w' => valOf op a' ≠ valOf oq a' → Q .normal a' w') gs ops 0 a0 []) :
    ∀ (fuel : Nat) (listed : Array Bool) (a : Act) (w : World), InvR ops St w0 a0 gs listed a w → (listed.getD p false = true → listed.getD q false = true → valOf op a ≠ valOf oq a) → unl listed ≤ fuel → wpAny P .any ops.toArray Q fuel listed a w := by
  have hg : ∀ (i : Nat) (o : Oper), ops[i]? = some o → ∃ g, gs[i]? = some g := fun i o hi => by
    obtain ⟨g, e, -⟩ := wpR_use (xs := fun _ => undef) gs ops 0 a0 [] hw i o hi; exact ⟨g, e⟩
  have hend : ∀ (listed : Array Bool) (a : Act) (w : World), InvR ops St w0 a0 gs listed a w → (listed.getD p false = true → listed.getD q false = true → valOf op a ≠ valOf oq a) → Region.ready .any ops.toArray listed = [] → Q .normal a w := by
    intro listed a w h hD h0
    have hl := h.all hr h0
    have hw' := wpR_end (xs := xsOf ops a) gs ops 0 a0 [] hw w h.st ((AllF_iff _ _).2 fun p hp => by
      rcases runR_facts _ _ _ _ _ _ p hp with hp | ⟨j, G, hj, hgj, rfl⟩
      · cases hp
      · have hoj : ops[j]? = some (ops[j]'hj) := List.getElem?_eq_getElem hj
        have := h.facts j _ _ hoj hgj (hl j _ hoj)
        show G (xsOf ops a (0 + j)) w
        rw [show xsOf ops a (0 + j) = valOf (ops[j]'hj) a by unfold xsOf; rw [Nat.zero_add, hoj]]
        exact this)
    have he : (runR (xsOf ops a) ops.length gs ops 0 a0 []).1 = a := by
      obtain ⟨s1, s2⟩ := runR_size (xs := xsOf ops a) ops.length gs ops 0 a0 []
      have htm : (runR (xsOf ops a) ops.length gs ops 0 a0 []).1.tmps = a.tmps := by
        apply Array.ext_getElem?
        intro t
        by_cases hc : ∃ (j : Nat) (o : Oper), ops[j]? = some o ∧ o.dst = some t
        · obtain ⟨j, o, hj, hd⟩ := hc
          obtain ⟨g, hgj⟩ := hg j o hj
          have hts := hin j o t hj hd
          have hlen := (List.getElem?_eq_some_iff.1 hj).1
          rw [runR_at t ops.length gs ops 0 a0 [] j o g hlen hj hgj hd hts (fun j' o' hj' ho' e => by have := hr.dst j o j' o' t hj ho' hd e; omega)]
          have hv := h.facts j o g hj hgj (hl j o hj)
          have e1 : valOf o a = a.tmps.getD t undef := by unfold valOf; rw [hd]
          have e2 : xsOf ops a (0 + j) = valOf o a := by unfold xsOf; rw [Nat.zero_add, hj]
          have hta : t < a.tmps.size := by rw [h.size]; exact hts
          have e3 : a.tmps[t]? = some (valOf o a) := by rw [e1, Array.getElem?_eq_getElem hta, Array.getD, dif_pos hta]; rfl
          rw [e3, e2]
          cases g with
          | one v => exact congrArg some hv.symm
          | rel G => rfl
        · rw [runR_out t ops.length gs ops 0 a0 [] (fun j o _ ho e => hc ⟨j, o, ho, e⟩)]
          exact (h.out t fun j o hj _ e => hc ⟨j, o, hj, e⟩).symm
      have hdf := s2.trans h.defers.symm
      generalize (runR (xsOf ops a) ops.length gs ops 0 a0 []).1 = r at htm hdf
      obtain ⟨t1, d1⟩ := r
      obtain ⟨t2, d2⟩ := a
      simp only at htm hdf
      rw [htm, hdf]
    rw [he] at hw'
    exact hw' (hD (hl p op hp) (hl q oq hq))
  intro fuel
  induction fuel with
  | zero =>
    intro listed a w h hD hu
    have h0 : Region.ready .any ops.toArray listed = [] := by
      rw [List.eq_nil_iff_forall_not_mem]
      intro j hj
      have := (mem_ready.1 hj).1
      rw [unl_zero (by omega) j] at this; cases this
    exact ⟨h0, hend listed a w h hD h0⟩
  | succ fuel ih =>
    intro listed a w h hD hu
    refine ⟨hend listed a w h hD, fun i hi => ?_⟩
    obtain ⟨hiu, o, hio, hall⟩ := mem_ready.1 hi
    have hio : ops[i]? = some o := by simpa using hio
    have hlen := (List.getElem?_eq_some_iff.1 hio).1
    have hil : i < listed.size := by rw [h.lsize]; exact hlen
    have hif : listed.getD i false = false := by rw [getD_lt hil] at hiu ⊢; exact hiu
    have hus := unl_set hil hif
    obtain ⟨g, hgi, hO⟩ := wpR_use (xs := xsOf ops a) gs ops 0 a0 [] hw i o hio
    rw [Nat.zero_add] at hO
    have hbl := h.lst hr i o hio hall
    have heq : ∀ t, (∀ (j : Nat) (o' : Oper), ops[j]? = some o' → o'.dst = some t → if j < i then j ∈ (befs ops).getD i [] else (j = i ∨ i ∈ (befs ops).getD j [])) → (runR (xsOf ops a) i gs ops 0 a0 []).1.tmps[t]? = a.tmps[t]? :=
      fun t ht => slot_eq hr h hin hg i t hbl hif ht
    have hev : execOp a.eval o = execOp (runR (xsOf ops a) i gs ops 0 a0 []).1.eval o := by
      refine execOp_congr o (hr.sel i o hio) fun x hx => ?_
      cases x with
      | tmp t =>
        have := heq t (hr.looks i o t hio hx)
        simp only [Act.eval, Array.getD_eq_getD_getElem?, this]
      | _ => rfl
    have hwt : Region.wanted o (yielded ops.toArray (runR (xsOf ops a) i gs ops 0 a0 []).1.tmps) = Region.wanted o (yielded ops.toArray a.tmps) := by
      unfold Region.wanted
      cases hgd : o.guard with
      | none => rfl
      | some gw =>
        obtain ⟨gi, want⟩ := gw
        simp only
        have hgb := hr.guard i o gi want hio hgd
        have hy : yielded ops.toArray (runR (xsOf ops a) i gs ops 0 a0 []).1.tmps gi = yielded ops.toArray a.tmps gi := by
          unfold yielded
          cases hog : ops.toArray[gi]? with
          | none => rfl
          | some og =>
            cases hdg : og.dst with
            | none => simp [hdg]
            | some t =>
              have := heq t fun j o' hj ho' => by
                have : gi = j := hr.dst gi og j o' t (by simpa using hog) hj hdg ho'
                subst this
                rw [if_pos (hr.bef i o hio gi hgb).1]; exact hgb
              simp [hdg, this]
        rw [hy]
    have hF : AllF ((runR (xsOf ops a) i gs ops 0 a0 []).2.filter fun p => ((befs ops).getD i []).contains p.1) w := (AllF_iff _ _).2 fun p hp => by
      obtain ⟨hp1, hp2⟩ := List.mem_filter.1 hp
      rcases runR_facts _ _ _ _ _ _ p hp1 with hp1 | ⟨j, G, hj, hgj, rfl⟩
      · cases hp1
      · have hjl : j < ops.length := by omega
        have hoj : ops[j]? = some (ops[j]'hjl) := List.getElem?_eq_getElem hjl
        have hjb : j ∈ (befs ops).getD i [] := by simpa using hp2
        have := h.facts j _ _ hoj hgj (hbl j hjb)
        show G (xsOf ops a (0 + j)) w
        rw [show xsOf ops a (0 + j) = valOf (ops[j]'hjl) a by unfold xsOf; rw [Nat.zero_add, hoj]]
        exact this
    -- what was laid stays, and a new block is unlike an elder one
    have hold : ∀ (j : Nat) (oj : Oper) (v : Value), ops[j]? = some oj → j ≠ i → valOf oj (a.put o.dst v) = valOf oj a := fun j oj v hj hne => by
      unfold valOf
      cases hd : oj.dst with
      | none => rfl
      | some t =>
        have hn : o.dst ≠ some t := fun e => hne (hr.dst j oj i o t hj hio hd e)
        have := put_ne (a := a) (v := v) hn
        simp only
        simp [Array.getD_eq_getD_getElem?, this]
    have hnew : ∀ (v : Value), (∃ t, o.dst = some t) → valOf o (a.put o.dst v) = v := fun v ⟨t, hd⟩ => by
      have := put_eq (a := a) (v := v) (t := t) (by rw [h.size]; exact hin i o t hio hd)
      unfold valOf
      rw [hd]
      simp [Array.getD_eq_getD_getElem?, this]
    have hDn : ∀ v, (i = p ∨ i = q → v = .pointer (some ⟨w.heap.size, 0, none⟩)) → (listed.setIfInBounds i true).getD p false = true → (listed.setIfInBounds i true).getD q false = true → valOf op (a.put o.dst v) ≠ valOf oq (a.put o.dst v) := by
      intro v hv lp lq
      by_cases hip : i = p
      · subst hip
        rw [hio] at hp; injection hp with hp; subst hp
        have lq' : listed.getD q false = true := by rwa [getD_set_ne false hpq] at lq
        rw [hnew v hmp.1, hold q oq v hq (Ne.symm hpq), hv (.inl rfl)]
        obtain ⟨g, hg1, hg2⟩ := hPq _ _ (h.facts q oq _ hq hgq lq')
        rw [hg2]
        intro e; injection e with e; injection e with e; injection e with e; omega
      · by_cases hiq : i = q
        · subst hiq
          rw [hio] at hq; injection hq with hq; subst hq
          have lp' : listed.getD p false = true := by rwa [getD_set_ne false hip] at lp
          rw [hnew v hmq.1, hold p op v hp (Ne.symm hip), hv (.inr rfl)]
          obtain ⟨g, hg1, hg2⟩ := hPp _ _ (h.facts p op _ hp hgp lp')
          rw [hg2]
          intro e; injection e with e; injection e with e; injection e with e; omega
        · rw [hold p op v hp (Ne.symm hip), hold q oq v hq (Ne.symm hiq)]
          rw [getD_set_ne false hip] at lp
          rw [getD_set_ne false hiq] at lq
          exact hD lp lq
    unfold wpOp
    rw [show ops.toArray[i]? = some o by simpa using hio]
    simp only
    unfold Obl at hO
    by_cases hiF : i = p ∨ i = q
    · obtain ⟨G, hmo, hgr⟩ : ∃ G, Makes P o ∧ g = .rel G ∧ (∀ v w, G v w → Pt v w) := by
        rcases hiF with rfl | rfl
        · rw [hio] at hp; injection hp with hp; subst hp
          rw [hgi] at hgp; injection hgp with hgp
          exact ⟨Gp, hmp, hgp, hPp⟩
        · rw [hio] at hq; injection hq with hq; subst hq
          rw [hgi] at hgq; injection hgq with hgq
          exact ⟨Gq, hmq, hgq, hPq⟩
      obtain ⟨rfl, hPG⟩ := hgr
      have hre : ∀ u, retV o u = u := fun u => by obtain ⟨t, hd⟩ := hmo.1; unfold retV; rw [hd]
      by_cases hwd : Region.wanted o (yielded ops.toArray a.tmps) = true
      · rw [if_pos hwd]
        left
        simp only [hwt, hwd, if_true] at hO
        have hO2 := does_makes hmo (hO w h.st hF)
        exact wp_of_does hev hO2 fun u w' ⟨⟨hu1, hu2⟩, hu3⟩ => ih _ _ _ (h.next hr htrans hstab hin hio hgi hall hu2 hu1) (hDn _ (fun _ => hu3)) (by omega)
      · exfalso
        simp only [hwt, hwd] at hO
        have := hPG _ _ (hO w h.st hF)
        obtain ⟨g, -, e⟩ := this
        cases e
    · by_cases hwd : Region.wanted o (yielded ops.toArray a.tmps) = true
      · rw [if_pos hwd]
        left
        cases g with
        | one v =>
          simp only [hwt, hwd, if_true] at hO
          exact wp_of_does hev (hO w h.st hF) fun u w' ⟨hu1, hu2⟩ => ih _ _ _ (h.next hr htrans hstab hin hio hgi hall hu2 hu1) (hDn _ (fun h => absurd h hiF)) (by omega)
        | rel G =>
          simp only [hwt, hwd, if_true] at hO
          exact wp_of_does hev (hO w h.st hF) fun u w' ⟨hu1, hu2⟩ => ih _ _ _ (h.next hr htrans hstab hin hio hgi hall hu2 hu1) (hDn _ (fun h => absurd h hiF)) (by omega)
      · rw [if_neg hwd]
        have hre : retV o undef = undef := by unfold retV; cases o.dst <;> rfl
        cases g with
        | one v =>
          simp only [hwt, hwd] at hO
          refine ih _ _ _ (h.next hr htrans hstab hin hio hgi hall (hrefl w) (v := undef) ?_) (hDn _ (fun h => absurd h hiF)) (by omega)
          rw [hre]; exact hO.symm
        | rel G =>
          simp only [hwt, hwd] at hO
          refine ih _ _ _ (h.next hr htrans hstab hin hio hgi hall (hrefl w) (v := undef) ?_) (hDn _ (fun h => absurd h hiF)) (by omega)
          rw [hre]; exact hO w h.st hF
variable {l : List Oper} {Q : Exit → Act → World → Prop}
/-- 'wp_region_rel_tail', where operations p and q make a block each. -/
theorem wp_region_rel_tail2 {id : Nat} {a0 : Act} {w : World} (k : Nat) (n : Nat) (p q : Nat) (op oq : Oper) (hpq : decide (p ≠ q) = true) (hp : (l.take k)[p]? = some op) (hq : (l.take k)[q]? = some oq) (hmp : Makes P op) (hmq : Makes P oq)
    (hm : P.follows .mixedOrders = true) (hB : tailB l k = true) (St : World → World → Prop) (gs : List Gv) (Gp Gq : Value → World → Prop) (hgp : gs[p]? = some (.rel Gp)) (hgq : gs[q]? = some (.rel Gq)) (hPp : ∀ v w, Gp v w → Pt v w) (hPq : ∀ v w, Gq v w → Pt v w)
    (hok : relOk (l.take k) = true) (hn : a0.tmps.size = n) (hin : insB (l.take k) n = true)
    (hrefl : ∀ w, St w w) (htrans : ∀ a b c, St a b → St b c → St a c) (hstab : StabL St gs)
    (h : wpR P (l.take k) St w.drew (fun a' w' => valOf op a' ≠ valOf oq a' → wpList P l.toArray Q (l.drop k) a' w') gs (l.take k) 0 a0 []) : (Code.region id l.toArray true).wp P Q a0 w := by
  refine wp_region_any hm (wpAny_tail hB (rel_any2 (Q := QH P l k Q) p q op oq (by simpa using hpq) hp hq hmp hmq Gp Gq hgp hgq hPp hPq (relOk_spec hok) hrefl htrans (stabL_spec gs hstab) (fun i o t hi ht => ?_) h _ _ _ _ ?_ ?_ ?_))
  · unfold insB at hin
    rw [List.all_eq_true] at hin
    have := hin o (List.mem_of_getElem? hi)
    rw [ht] at this
    rw [hn]; simpa using this
  · exact ⟨hrefl _, rfl, rfl, by simp, fun i o hi hl => (by rw [rep_false] at hl; cases hl), fun i o g hi hg hl => (by rw [rep_false] at hl; cases hl), fun t _ => rfl⟩
  · intro hl; rw [rep_false] at hl; cases hl
  · unfold unl
    refine Nat.le_trans (List.countP_le_length) ?_
    simp
end
end Go.Proofs.YtoagneibaincpaaDoor
