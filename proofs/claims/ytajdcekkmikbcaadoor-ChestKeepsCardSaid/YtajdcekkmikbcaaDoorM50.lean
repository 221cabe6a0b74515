/- Merged: ChestKeeps: the law's list of tries in memory. ChestKeeps: a head laid keeps what the sides may tell; a new chest. ChestKeeps: what is so between two acts. The document's Pick. ChestKeeps: one try more. ChestKeeps: a chest beside the tries' block; an act's end with one try more. ChestKeeps: a list that is kept longer: appends in a region that draws its order; a try's list exchanged. A list that is kept longer, in a region that draws its order: rows made here, one of which may come to hold one element more. -/
import Derived.Test.YtajdcekkmikbcaaDoorM49
import Derived.Maps.AppendAt
namespace Go.Proofs.YtajdcekkmikbcaaDoor
section
set_option linter.unusedVariables false
set_option linter.unusedSimpArgs false
open Go.RowKit
set_option maxRecDepth 100000
/-- Tries as cells: a turn and a list, over blocks outside N. -/
def TrV (w : World) (N : Nat → Prop) (ts : List (Nat × List (List B8))) (vs : List Value) : Prop :=
  vs.length = ts.length * 2 ∧ ∀ (i : Nat) (t : Nat) (l : List (List B8)), ts[i]? = some (t, l) → vs[i * 2]? = some (.int .i64 (t : Int)) ∧ ∃ Al cl, vs[i * 2 + 1]? = some (.slice Al l.length cl) ∧ l.length ≤ cl ∧ (Al = none → cl = 0) ∧ LstQ w N Al l
theorem TrV.turn {S N N' : Nat → Prop} {w w' : World} {ts : List (Nat × List (List B8))} {vs : List Value} (h : TrV w N ts vs) (t : Turn S w w') (hS : ∀ i, S i → N i) (hN : ∀ i, i < w.heap.size → N' i → N i) : TrV w' N' ts vs := ⟨h.1, fun i a l hi => by
  obtain ⟨h1, Al, cl, h2, h3, h4, h5⟩ := h.2 i a l hi
  exact ⟨h1, Al, cl, h2, h3, h4, h5.turn t hS hN⟩⟩
theorem TrV.add {w : World} {N : Nat → Prop} {ts : List (Nat × List (List B8))} {vs : List Value} (h : TrV w N ts vs) {t : Nat} {l : List (List B8)} {A : Option Addr} {c : Nat} (h1 : l.length ≤ c) (h2 : A = none → c = 0) (h3 : LstQ w N A l) : TrV w N (ts ++ [(t, l)]) (vs ++ [.int .i64 (t : Int), .slice A l.length c]) := by
  obtain ⟨hl, hv⟩ := h
  refine ⟨by rw [List.length_append, List.length_append, hl, List.length_singleton]; simp; omega, fun i a m hi => ?_⟩
  rw [List.getElem?_append] at hi
  split at hi
  · rename_i hlt
    obtain ⟨g1, Al, cl, g2, g3⟩ := hv i a m hi
    exact ⟨by rw [List.getElem?_append_left (by omega)]; exact g1, Al, cl, by rw [List.getElem?_append_left (by omega)]; exact g2, g3⟩
  · rename_i hge
    have hi0 : i = ts.length := by
      have := (List.getElem?_eq_some_iff.1 hi).1
      simp at this
      omega
    subst hi0
    rw [Nat.sub_self] at hi
    injection hi with hi
    injection hi with ha hm
    subst ha; subst hm
    refine ⟨?_, A, c, ?_, h1, h2, h3⟩
    · rw [List.getElem?_append_right (by omega), hl, Nat.sub_self]; rfl
    · rw [List.getElem?_append_right (by omega), hl, show ts.length * 2 + 1 - ts.length * 2 = 1 by omega]; rfl
/-- One try's list is another one. -/
theorem TrV.set {w : World} {N : Nat → Prop} {ts : List (Nat × List (List B8))} {vs : List Value} (h : TrV w N ts vs) {k t : Nat} {l l' : List (List B8)} {A : Option Addr} {c : Nat} (hk : ts[k]? = some (t, l)) (h1 : l'.length ≤ c) (h2 : A = none → c = 0) (h3 : LstQ w N A l') : TrV w N (ts.set k (t, l')) (vs.set (k * 2 + 1) (.slice A l'.length c)) := by
  obtain ⟨hl, hv⟩ := h
  have hkl := (List.getElem?_eq_some_iff.1 hk).1
  refine ⟨by rw [List.length_set, List.length_set, hl], fun i a m hi => ?_⟩
  rw [List.getElem?_set] at hi
  split at hi
  · rename_i e
    subst e
    injection hi with hi
    injection hi with ha hm
    subst ha; subst hm
    obtain ⟨g1, -⟩ := hv k _ _ hk
    exact ⟨by rw [List.getElem?_set_ne (by omega)]; exact g1, A, c, by rw [List.getElem?_set_self (by omega)], h1, h2, h3⟩
  · rename_i e
    obtain ⟨g1, Al, cl, g2, g3⟩ := hv i a m hi
    exact ⟨by rw [List.getElem?_set_ne (by omega)]; exact g1, Al, cl, by rw [List.getElem?_set_ne (by omega)]; exact g2, g3⟩
/-- No cell that is a byte. -/
def NoB (cs : List Value) : Prop := ∀ v ∈ cs, ∀ x : B8, v ≠ bv x
/-- A block where no byte lies. -/
def NBk (w : World) (bb : Nat) : Prop := ∃ cur t, w.heap[bb]? = some (.cells cur t (0, 0)) ∧ NoB cur.toList
theorem NBk.turn {S : Nat → Prop} {w w' : World} {bb : Nat} (h : NBk w bb) (t : Turn S w w') (hS : ¬ S bb) : NBk w' bb := by
  obtain ⟨cur, ty, h1, h2⟩ := h
  exact ⟨cur, ty, t.heap h1 hS, h2⟩
/-- Bytes that are read don't lie there. -/
theorem NBk.apart {w : World} {bb : Nat} (h : NBk w bb) {ad : Addr} {x : B8} (hc : w.cell? ad = some (bv x)) : ad.block ≠ bb := by
  obtain ⟨cur, ty, h1, h2⟩ := h
  intro e
  obtain ⟨b, o, q⟩ := ad
  cases q with
  | none =>
    have e : b = bb := e
    subst e
    rw [cell_of_row w b o _ _ _ h1] at hc
    exact h2 _ (Array.mem_toList_iff.2 (Array.mem_of_getElem? hc)) x rfl
  | some q =>
    have e : b = bb := e
    subst e
    simp [World.cell?, h1] at hc
/-- The slice of tries. -/
def TrS (w : World) (bb cc : Nat) (N : Nat → Prop) (ts : List (Nat × List (List B8))) : Prop :=
  ∃ vs, w.ownsRow 0 53 2 (.slice (some ⟨bb, 0, none⟩) ts.length cc) ts.length vs ∧ ¬ N bb ∧ 2 ≤ bb ∧ TrV w (fun j => N j ∨ j = bb) ts vs ∧ NBk w bb
theorem TrS.lt {w : World} {bb cc : Nat} {N : Nat → Prop} {ts : List (Nat × List (List B8))} (h : TrS w bb cc N ts) : bb < w.heap.size := by
  obtain ⟨vs, ho, -⟩ := h
  exact (ho.lt bb rfl).2
theorem TrS.turn {S N N' : Nat → Prop} {w w' : World} {bb cc : Nat} {ts : List (Nat × List (List B8))} (h : TrS w bb cc N ts) (t : Turn S w w') (hS : ∀ i, S i → N i) (hN : ∀ i, i < w.heap.size → N' i → N i) : TrS w' bb cc N' ts := by
  have hlt := h.lt
  obtain ⟨vs, ho, hb, h2, hv, nb⟩ := h
  refine ⟨vs, own_turn t ho (fun g e hg => ?_), fun h => hb (hN _ hlt h), h2, hv.turn t (fun i hi => .inl (hS i hi)) (fun i hi h => h.imp (hN i hi) (fun h => h)), nb.turn t (fun h => hb (hS _ h))⟩
  injection e with e
  have e : bb = g := e
  subst e
  exact hb (hS _ hg)
theorem TrS.tryL {w : World} {bb cc : Nat} {N : Nat → Prop} {ts : List (Nat × List (List B8))} (h : TrS w bb cc N ts) : TryL w (some ⟨bb, 0, none⟩) ts := fun i t l hi => by
  obtain ⟨vs, ho, hb, h2, hv, nb⟩ := h
  obtain ⟨g1, Al, cl, g2, g3, g4, g5⟩ := hv.2 i t l hi
  refine ⟨bb, 0, Al, cl, rfl, ?_, ?_, g3, g5.lstN.lst⟩
  · obtain ⟨A, c, e, hc⟩ := own_cells ho
    injection e with e
    subst e
    obtain ⟨g, e2, -, h9⟩ := hc _ _ g1
    injection e2 with e2
    injection e2 with e2
    subst e2
    rw [Nat.zero_add]
    exact h9
  · obtain ⟨A, c, e, hc⟩ := own_cells ho
    injection e with e
    subst e
    obtain ⟨g, e2, -, h9⟩ := hc _ _ g2
    injection e2 with e2
    injection e2 with e2
    subst e2
    rw [Nat.zero_add]
    exact h9
end
section
set_option linter.unusedVariables false
set_option linter.unusedSimpArgs false
open Go.RowKit
set_option maxRecDepth 100000
theorem layR_wi {d : Dr} {a t : Nat} {b : List B8} (ha : a ≤ 1) (ht : 1 ≤ t) (h2 : t ≤ 200) (hpar : t % 2 = (a + 1) % 2) (hE : formE13 (t : Int) ((0 : Nat) : Int) b = 0) (w0 : WI d 0) (w1 : WI d 1) :
    WI (layR d (a * (24 / 2)) (24 / 2) t b).1 0 ∧ WI (layR d (a * (24 / 2)) (24 / 2) t b).1 1 := by
  have hV : formV13 (t : Int) ((0 : Nat) : Int) b = formS t 0 b := (formV_ok hE).1
  obtain ⟨g1, g2⟩ := form_first ht h2 b
  refine layR_keeps (fun x => WI x 0 ∧ WI x 1) d (a * (24 / 2)) (24 / 2) t b
    (fun j x hj hk => ⟨hk.1.write _ _ (fun _ => Wd.zero 0), hk.2.write _ _ (fun _ => Wd.zero 1)⟩)
    (fun x hk => ⟨hk.1.sync, hk.2.sync⟩)
    (fun hq i x e hx hk => ?_) ⟨w0, w1⟩
  rw [hV] at hx
  have hi : i < secsOf (formS t 0 b) := by
    obtain ⟨hi, -⟩ := List.getElem?_eq_some_iff.1 hx
    rwa [chunks_len] at hi
  have hr : secsOf (formS t 0 b) ≤ 12 := by
    unfold Scr.pre at hq
    split at hq
    · cases hq
    · split at hq
      · rename_i h2; exact absurd hq h2
      · split at hq
        · cases hq
        · rename_i h3
          have h3 : ¬ a * (24 / 2) + 24 / 2 < a * (24 / 2) + secsOf (formV13 (t : Int) ((0 : Nat) : Int) b) := h3
          rw [hV] at h3
          omega
  have hx0 : i = 0 → Wd a x := fun h0 => by
    subst h0
    obtain ⟨m, hm⟩ : ∃ m, secsOf (formS t 0 b) = m + 1 := ⟨_, (Nat.succ_pred_eq_of_pos hi).symm⟩
    rw [hm, chunks] at hx
    have hx : some ((formS t 0 b).take 64) = some x := hx
    injection hx with hx
    right
    refine ⟨by rw [← hx, List.getElem?_take_of_lt (by omega), g1], BitVec.ofNat 8 t, by rw [← hx, List.getElem?_take_of_lt (by omega), g2], ?_⟩
    rw [BitVec.toNat_ofNat]
    omega
  refine ⟨hk.1.write _ _ fun e0 => ?_, hk.2.write _ _ fun e1 => ?_⟩
  · have := hx0 (by omega)
    rwa [show a = 0 by omega] at this
  · have := hx0 (by omega)
    rwa [show a = 1 by omega] at this
theorem new_wi (h : (fnd (Dr.new 24) 24).2 < 1) : WI (begR (Dr.new 24) 24).1 0 ∧ WI (begR (Dr.new 24) 24).1 1 := by
  have hR : begR (Dr.new 24) 24 = layR (Dr.new 24) (0 * (24 / 2)) (24 / 2) 1 [] := by unfold begR; rw [if_pos h]
  rw [hR]
  exact layR_wi (Nat.zero_le _) (by omega) (by omega) rfl form_nil.1 (.new 0 (by omega)) (.new 1 (by omega))
end
section
set_option linter.unusedVariables false
set_option linter.unusedSimpArgs false
open Go.RowKit
set_option maxRecDepth 100000
theorem HSt.quiet {w w' : World} {g c i t sure len : Nat} {on : Bool} {D E : Nat → Prop} (h : HSt w g c i t sure len on D E) (tt : Turn (fun _ => False) w w') : HSt w' g c i t sure len on D E := by
  unfold HSt at h ⊢
  cases on with
  | true =>
    rw [if_pos rfl] at h ⊢
    obtain ⟨h1, d, k, h2, h3⟩ := h
    exact ⟨h1, d, k, h2.quiet tt, h3⟩
  | false =>
    rw [if_neg (by simp)] at h ⊢
    obtain ⟨h1, d, h2, h3, h4, ⟨PS, half, a', t', H, NV, h5⟩, h6, h7, h8⟩ := h
    exact ⟨h1, d, h2.quiet tt, h3, h4, ⟨PS, half, a', t', H, NV, h5.turn tt (fun h => h)⟩, h6, Nat.lt_of_lt_of_le h7 tt.size, h8⟩
theorem try_first {w2 w3 : World} {b0 : Nat} {N : Nat → Prop} (hw3 : w3 = ((w2.alloc (.cells #[] 5)).alloc (.cells #[.slice (some ⟨w2.heap.size, 0, none⟩) 0 0] 36)).alloc (.cells #[.int .i64 1, .slice (some ⟨w2.heap.size + 1, 0, none⟩) 1 1] 53)) (hb0 : b0 = w2.heap.size + 1 + 1) (hN : ∀ j, N j → j < w2.heap.size) (h2 : 2 ≤ b0) : TrS w3 b0 1 N [(1, [[]])] := by
  have e1 : (w2.alloc (.cells #[] 5)).heap.size = w2.heap.size + 1 := Array.size_push _
  have e2 : ((w2.alloc (.cells #[] 5)).alloc (.cells #[.slice (some ⟨w2.heap.size, 0, none⟩) 0 0] 36)).heap.size = w2.heap.size + 1 + 1 := (Array.size_push _).trans (congrArg (· + 1) (Array.size_push _))
  have h3 : w3.heap[b0]? = some (.cells #[.int .i64 1, .slice (some ⟨w2.heap.size + 1, 0, none⟩) 1 1] 53 (0, 0)) := by
    rw [hb0, hw3, ← e2]; exact heap_alloc_new _ _
  have h1 : w3.heap[w2.heap.size + 1]? = some (.cells #[.slice (some ⟨w2.heap.size, 0, none⟩) 0 0] 36 (0, 0)) := by
    have hq : ((w2.alloc (.cells #[] 5)).alloc (.cells #[.slice (some ⟨w2.heap.size, 0, none⟩) 0 0] 36)).heap[w2.heap.size + 1]? = some (.cells #[.slice (some ⟨w2.heap.size, 0, none⟩) 0 0] 36 (0, 0)) := by
      rw [← e1]; exact heap_alloc_new _ _
    rw [hw3]
    exact ((Turn.refl (fun _ => False) _).alloc _).heap hq (fun h => h)
  refine ⟨[.int .i64 1, .slice (some ⟨w2.heap.size + 1, 0, none⟩) 1 1], ⟨rfl, .inr ⟨b0, 1, _, rfl, Nat.zero_le _, h3, Nat.le_refl _, by unfold maxLen; omega, rfl, rfl⟩⟩, fun h => by have := hN _ h; omega, h2, ⟨rfl, fun i t l hi => ?_⟩, ⟨_, _, h3, fun v hv x e => (by simp at hv; rcases hv with rfl | rfl <;> (unfold bv at e; cases e))⟩⟩
  have hi0 : i = 0 := by
    have := (List.getElem?_eq_some_iff.1 hi).1
    simp at this
    omega
  subst hi0
  injection hi with hi
  injection hi with ha hm
  subst ha; subst hm
  refine ⟨rfl, some ⟨w2.heap.size + 1, 0, none⟩, 1, rfl, Nat.le_refl _, fun h => (by cases h), fun j xs hj => ?_⟩
  have hj0 : j = 0 := by
    have := (List.getElem?_eq_some_iff.1 hj).1
    simp at this
    omega
  subst hj0
  injection hj with hj
  subst hj
  refine ⟨_, some ⟨w2.heap.size, 0, none⟩, 0, rfl, fun h => ?_, ?_, Nat.le_refl _, (fun h => by cases h), fun j u hu => (by simp at hu)⟩
  · rcases h with h | h
    · have := hN _ h
      have : w2.heap.size + 1 < w2.heap.size := this
      omega
    · have h : w2.heap.size + 1 = b0 := h
      omega
  · rw [show (⟨w2.heap.size + 1, 0, none⟩ : Addr).add 0 = ⟨w2.heap.size + 1, 0, none⟩ from rfl, cell_of_row _ _ _ _ _ _ h1]; rfl
/-- What is so between two acts. -/
structure KpI (w wr : World) (g c i t sure len : Nat) (on : Bool) (bb cc cur : Nat) (ts : List (Nat × List (List B8))) (D E : Nat → Prop) : Prop where
  st : HSt wr g c i t sure len on D E
  tr : TrS wr bb cc (fun j => D j ∨ E j) ts
  cu : cur < ts.length
  nt : ts.length ≤ 1 + i
  bd : ∀ p ∈ ts, p.1 ≤ 1 + i ∧ p.2.length ≤ 13 + i ∧ ∀ x ∈ p.2, x.length ≤ 65524
  ln : on = true → ∃ p, ts[cur]? = some p ∧ p.2.length = len
  de : (∀ j, D j → w.heap.size ≤ j) ∧ (∀ j, E j → w.heap.size ≤ j)
  bl : w.heap.size ≤ bb
  tw : Turn (fun _ => False) w wr
theorem KpI.quiet {w wr w' : World} {g c i t sure len : Nat} {on : Bool} {bb cc cur : Nat} {ts : List (Nat × List (List B8))} {D E : Nat → Prop} (h : KpI w wr g c i t sure len on bb cc cur ts D E) (tt : Turn (fun _ => False) wr w') : KpI w w' g c i t sure len on bb cc cur ts D E :=
  ⟨h.st.quiet tt, h.tr.turn tt (fun _ h => h.elim) (fun _ _ h => h), h.cu, h.nt, h.bd, h.ln, h.de, h.bl, h.tw.trans tt (fun _ _ h => h)⟩
theorem HSt.lt {w : World} {g c i t sure len : Nat} {on : Bool} {D E : Nat → Prop} (h : HSt w g c i t sure len on D E) : ∀ j, D j ∨ E j → j < w.heap.size := by
  unfold HSt at h
  cases on with
  | true =>
    rw [if_pos rfl] at h
    obtain ⟨-, d, k, ka, -⟩ := h
    exact fun j hj => hj.elim (ka.ld.lt j) (ka.lt j)
  | false =>
    rw [if_neg (by simp)] at h
    obtain ⟨-, d, ld, -, -, -, -, hc, -, hE⟩ := h
    exact fun j hj => hj.elim (ld.lt j) (fun h => by rw [(hE j).1 h]; exact hc)
theorem KpI.fresh {w wr : World} {g c i t sure len : Nat} {on : Bool} {bb cc cur : Nat} {ts : List (Nat × List (List B8))} {D E : Nat → Prop} (h : KpI w wr g c i t sure len on bb cc cur ts D E) : ¬ (D wr.heap.size ∨ E wr.heap.size) ∧ wr.heap.size ≠ bb :=
  ⟨fun hj => Nat.lt_irrefl _ (h.st.lt _ hj), fun e => by have := h.tr.lt; omega⟩
theorem KpI.step {w w6 w7 : World} {g c i t sure len t' sure' len' : Nat} {on on' : Bool} {bb cc cur : Nat} {ts : List (Nat × List (List B8))} {D E D' E' : Nat → Prop} (h : KpI w w6 g c i t sure len on bb cc cur ts D E) (st : HSt w7 g c (i + 1) t' sure' len' on' D' E') (hD : ∀ j, D' j → Dn D w6 w7 j) (hE : ∀ j, E' j → Dn E w6 w7 j) (tt : Turn (fun j => D j ∨ E j) w6 w7) (hln : on' = true → ∃ p, ts[cur]? = some p ∧ p.2.length = len') :
    KpI w w7 g c (i + 1) t' sure' len' on' bb cc cur ts D' E' := by
  have hsz := h.tw.size
  refine ⟨st, h.tr.turn tt (fun _ h => h) (fun j hj h => ?_), h.cu, by have := h.nt; omega, fun p hp => ?_, hln, ⟨fun j hj => ?_, fun j hj => ?_⟩, h.bl, h.tw.trans tt (fun j hj h' => ?_)⟩
  · rcases h with h | h
    · rcases hD j h with h | h
      · exact .inl h
      · have := h.1; omega
    · rcases hE j h with h | h
      · exact .inr h
      · have := h.1; omega
  · obtain ⟨b1, b2, b3⟩ := h.bd p hp
    exact ⟨by omega, by omega, b3⟩
  · rcases hD j hj with h' | h'
    · exact h.de.1 j h'
    · have := h'.1; omega
  · rcases hE j hj with h' | h'
    · exact h.de.2 j h'
    · have := h'.1; omega
  · rcases h' with h' | h'
    · have := h.de.1 j h'; omega
    · have := h.de.2 j h'; omega
theorem TrS.cellL {w : World} {bb cc : Nat} {N : Nat → Prop} {ts : List (Nat × List (List B8))} (h : TrS w bb cc N ts) {k t : Nat} {l : List (List B8)} (hk : ts[k]? = some (t, l)) : ∃ Al cl, w.cell? ⟨bb, k * 2 + 1, none⟩ = some (.slice Al l.length cl) ∧ l.length ≤ cl ∧ (Al = none → cl = 0) ∧ LstQ w (fun j => N j ∨ j = bb) Al l := by
  obtain ⟨vs, ho, hb, h2, hv, -⟩ := h
  obtain ⟨g1, Al, cl, g2, g3, g4, g5⟩ := hv.2 k t l hk
  refine ⟨Al, cl, ?_, g3, g4, g5⟩
  obtain ⟨A, c, e, hc⟩ := own_cells ho
  injection e with e
  subst e
  obtain ⟨g, e2, -, h9⟩ := hc _ _ g2
  injection e2 with e2
  injection e2 with e2
  subst e2
  exact h9
end
section
set_option linter.unusedVariables false
open Go.RowKit
theorem pick_any (x : Int) (n : Nat) (w : World) (h1 : 1 ≤ n) (h2 : n ≤ 1099511627776) :
    Calls Tryd.prog 21 #[.int .i64 x, .int .i64 (n : Int)] w fun e w' => (∃ k : Nat, k < n ∧ e = .returned (.int .i64 (k : Int))) ∧ w' = w := by
  have b1 : -(n : Int) < x.tmod n := Int.lt_tmod_of_pos x (by omega)
  have b2 : x.tmod n < (n : Int) := Int.tmod_lt_of_pos x (by omega)
  have hn : ¬ (n : Int) < 1 := by omega
  obtain ⟨r, hr⟩ : ∃ r, r = x.tmod n := ⟨_, rfl⟩
  rw [← hr] at b1 b2
  have hr2 := hr.symm
  have HR := Lib.hid hr
  clear hr
  by_cases h0 : r < 0
  · go_enter Tryd.func21, Tryd.ntmps21
    go_wp2
    go_ret
    refine ⟨⟨(r + n).toNat, by omega, ?_⟩, rfl⟩
    show Ending.returned (Value.int .i64 (r + (n : Int))) = _
    rw [Int.toNat_of_nonneg (by omega)]
  · go_enter Tryd.func21, Tryd.ntmps21
    go_wp2
    go_ret
    refine ⟨⟨r.toNat, by omega, ?_⟩, rfl⟩
    show Ending.returned (Value.int .i64 r) = _
    rw [Int.toNat_of_nonneg (by omega)]
end
section
set_option linter.unusedVariables false
set_option linter.unusedSimpArgs false
open Go.RowKit
set_option maxRecDepth 100000
theorem try_parts : ∃ i z, Tryd.prog.info? 53 = some i ∧ i.zero = some z ∧ i.size = 2 ∧ i.bytes = 32 ∧ z.cells.size = 2 := by
  obtain ⟨i, h1, h2, h3, h4⟩ := info_parts (show (Tryd.prog.info? 53).map (fun i => (i.zero, i.size, i.bytes)) = some (some (.agg #[.int .i64 0, .slice none 0 0]), 2, 32) by kernel_rfl)
  exact ⟨i, _, h1, h2, h3, h4, rfl⟩
theorem zero_mem {z : Array Value} {n : Nat} {v : Value} (h : v ∈ (Builtin.zeroCells z n).toList) : v ∈ z.toList := by
  simp only [Builtin.zeroCells, Array.toList_map, List.mem_map] at h
  obtain ⟨i, hi, rfl⟩ := h
  have hi : i < n * z.size := by simpa using hi
  have hz : 0 < z.size := by
    rcases Nat.eq_zero_or_pos z.size with h0 | h0
    · rw [h0] at hi; omega
    · exact h0
  have hlt := Nat.mod_lt i hz
  rw [getElem!_pos z (i % z.size) hlt]
  exact Array.mem_toList_iff.2 (Array.getElem_mem hlt)
theorem nob_try (t : Nat) (Al : Option Addr) (n cl : Nat) : NoB [.int .i64 (t : Int), .slice Al n cl] := fun v hv x e => by
  simp at hv
  rcases hv with rfl | rfl <;> (unfold bv at e; cases e)
theorem try_push {w : World} {bb cc : Nat} {N : Nat → Prop} {ts : List (Nat × List (List B8))} (ty : TypeId) (h : TrS w bb cc N ts) {t : Nat} {l : List (List B8)} {Al : Option Addr} {cl x : Nat} (hx : w.heap[x]? = some (.cells #[.int .i64 (t : Int), .slice Al l.length cl] 53 (0, 0))) (hl : l.length ≤ cl) (hA : Al = none → cl = 0) (hq : LstQ w (fun j => N j ∨ j = bb) Al l) (hn : ts.length ≤ 1000) (hN : ∀ j, N j → j < w.heap.size) :
    ∃ bb' cc' w', (Builtin.append_ #[54, 54] ty #[.slice (some ⟨bb, 0, none⟩) ts.length cc, .slice (some ⟨x, 0, none⟩) 1 1]).run Tryd.prog w = .ok (.slice (some ⟨bb', 0, none⟩) (ts.length + 1) cc') w' ∧ TrS w' bb' cc' N (ts ++ [(t, l)]) ∧ Turn (fun j => j = bb) w w' ∧ (bb' = bb ∨ bb' = w.heap.size) := by
  obtain ⟨i, z, hi, hz, h2, hb, hzs⟩ := try_parts
  have hlt := h.lt
  obtain ⟨vs, ho, hbN, hb2, hv, cur, ty0, hcur, hnb⟩ := h
  have hnews : ∀ j u, ([.int .i64 (t : Int), .slice Al l.length cl] : List Value)[j]? = some u → w.cell? ((⟨x, 0, none⟩ : Addr).add j) = some u := fun j u hj => by
    rw [show (⟨x, 0, none⟩ : Addr).add j = ⟨x, j, none⟩ by unfold Addr.add; split <;> simp_all, cell_of_row _ _ _ _ _ _ hx]
    rw [← List.getElem?_toArray] at hj
    exact hj
  have hone : ∀ u ∈ ([.int .i64 (t : Int), .slice Al l.length cl] : List Value), u.oneCell' = true := fun u hu => by simp at hu; rcases hu with rfl | rfl <;> rfl
  obtain ⟨v', w', hr, ho', hg, -, hob⟩ := Go.run_append_own_at w 0 54 ty 53 i z 2 32 Tryd.underlying54 hi hz h2 hb hzs (by omega) _ ts.length vs ho ⟨x, 0, none⟩ 1 1 [.int .i64 (t : Int), .slice Al l.length cl] rfl
    hnews hone (by unfold maxLen; omega) (by omega) (Nat.zero_le _)
  have hzn : NoB z.cells.toList := by
    have e := info_parts (show (Tryd.prog.info? 53).map (fun i => (i.zero, i.size, i.bytes)) = some (some (.agg #[.int .i64 0, .slice none 0 0]), 2, 32) by kernel_rfl)
    obtain ⟨i', e1, e2, -⟩ := e
    rw [hi] at e1
    injection e1 with e1
    subst e1
    rw [hz] at e2
    injection e2 with e2
    subst e2
    exact nob_try 0 none 0 0
  obtain ⟨g, cap, rfl⟩ : ∃ g cap, v' = .slice (some ⟨g, 0, none⟩) (ts.length + 1) cap := by
    obtain ⟨-, h9⟩ := ho'
    rcases h9 with ⟨-, h9⟩ | ⟨g, c, cur, e, -⟩
    · omega
    · exact ⟨g, c, e⟩
  have hnb' : NBk w' g := by
    rcases ho.2 with ⟨e, -⟩ | ⟨g', cap', cur', e, hB, hg', hc, hm, hcs, ht⟩
    · cases e
    · injection e with e1 e2 e3
      injection e1 with e1
      injection e1 with e1
      subst e1; subst e3
      rw [hcur] at hg'
      injection hg' with hg'
      injection hg' with e5 e6
      subst e5; subst e6
      by_cases hroom : ts.length + 1 ≤ cc
      · have hfit : ts.length * i.size + ([.int .i64 (t : Int), .slice Al l.length cl] : List Value).length ≤ cur.size := by rw [h2, hcs]; show _ * 2 + 2 ≤ _; omega
        have hr2 := run_append_room (P := Tryd.prog) w 54 ty 53 i Tryd.underlying54 hi bb ts.length cc cur hcur ⟨x, 0, none⟩ 1 1 [.int .i64 (t : Int), .slice Al l.length cl] (by rw [h2]; rfl) hnews hone hroom hfit
        rw [hr] at hr2
        injection hr2 with e7 e8
        injection e7 with e7
        injection e7 with e7
        injection e7 with e7
        subst e7
        rw [e8]
        refine ⟨_, _, setRow_heap w g cur _ 53 (0, 0) hcur, fun v hv x e => ?_⟩
        simp only [List.mem_append] at hv
        rcases hv with (hv | hv) | hv
        · exact hnb v (List.mem_of_mem_take hv) x e
        · exact nob_try _ _ _ _ v hv x e
        · exact hnb v (List.mem_of_mem_drop hv) x e
      · have hr2 := run_append_grow (P := Tryd.prog) w 54 ty 53 i z Tryd.underlying54 hi hz ⟨bb, 0, none⟩ ts.length cc vs (by rw [h2]; exact ho.1) (ho.cells (g := bb) rfl) ⟨x, 0, none⟩ 1 1 [.int .i64 (t : Int), .slice Al l.length cl] (by rw [h2]; rfl) hnews (by omega) (by omega) (growslice_fits (by omega) (by rw [hb]; omega))
        rw [hr] at hr2
        injection hr2 with e7 e8
        injection e7 with e7
        injection e7 with e7
        injection e7 with e7
        subst e7
        rw [e8]
        refine ⟨_, _, heap_alloc_new w.drew _, fun v hv x e => ?_⟩
        simp only [Array.toList_append, List.mem_append] at hv
        rcases hv with (hv | hv) | hv
        · have hv : v ∈ vs := by simpa using hv
          rw [← ht] at hv
          exact hnb v (List.mem_of_mem_take hv) x e
        · exact nob_try _ _ _ _ v (by simpa using hv) x e
        · exact hzn v (zero_mem hv) x e
  have tt : Turn (fun j => j = bb) w w' := (Turn.refl _ _).grown hg (fun k hk e => by
    have e : some k = some bb := e
    injection e)
  have hgc : g = bb ∨ g = w.heap.size := by
    rcases hob with e | e
    · have e : some g = some bb := e
      injection e with e; exact .inl e
    · have e : some g = some w.heap.size := e
      injection e with e; exact .inr e
  refine ⟨g, cap, w', hr, ⟨_, ?_, ?_, ?_, TrV.add (hv.turn tt (fun _ e => .inr e) (fun k hk e => ?_)) hl hA (hq.turn tt (fun _ e => .inr e) (fun k hk e => ?_)), hnb'⟩, tt, hgc⟩
  · rw [List.length_append, List.length_singleton]; exact ho'
  · rcases hgc with rfl | rfl
    · exact hbN
    · exact fun h => Nat.lt_irrefl _ (hN _ h)
  · omega
  · rcases e with e | e
    · exact .inl e
    · have e : k = g := e
      right
      show k = bb
      omega
  · rcases e with e | e
    · exact .inl e
    · have e : k = g := e
      right
      show k = bb
      omega
end
section
set_option linter.unusedVariables false
set_option linter.unusedSimpArgs false
open Go.RowKit
set_option maxRecDepth 100000
theorem sln_beside {w w' : World} {bb : Nat} (h : NBk w bb) (k : Turn (fun j => j = bb) w w') {N : Nat → Prop} {A : Option Addr} {b : List B8} (hs : SlN w N A (b.map bv)) : SlN w' N A (b.map bv) := fun j u hu => by
  obtain ⟨ad, e, hb, hc⟩ := hs j u hu
  rw [List.getElem?_map] at hu
  obtain ⟨y, hy, rfl⟩ := Option.map_eq_some_iff.1 hu
  exact ⟨ad, e, hb, k.cell hc (h.apart hc)⟩
theorem KAt.beside {w w' : World} {g c n : Nat} {d : Dr} {k : Ck} {D E : Nat → Prop} {x : Nat} (h : KAt w g c n d k D E) (nb : NBk w x) (tt : Turn (fun j => j = x) w w') (hD : ¬ D x) (hE : ¬ E x) (h2 : 2 ≤ x) : KAt w' g c n d k D E := by
  obtain ⟨ld, ok, ⟨s, hd, Ah, ch, NV, o, vs, h1, h2', h3, h4, h5, h6, h7, h8, h9, h10, h11⟩, own, two, dj, lt⟩ := h
  exact ⟨ld.keep tt (fun j hj e => by have e : j = x := e; subst e; exact hD hj) (fun j e => by have e : j = x := e; omega), ok, ⟨s, hd, Ah, ch, NV, o, vs, h1.turn tt (fun e => by have e : c = x := e; subst e; exact hE own), sbp_keep h2' tt (fun j hj e => by have e : j = x := e; subst e; subst hj; exact hE h10), h3, sln_beside nb tt h4, h5, h6, ownsO_turn h7 tt (fun j hj e => by have e : j = x := e; subst e; exact hE (h11 _ hj).1), ⟨h8.1, fun i y hy => by
    obtain ⟨Ai, ci, g1, g2, g3, g4⟩ := h8.2 i y hy
    exact ⟨Ai, ci, g1, g2, g3, sln_beside nb tt g4⟩⟩, h9, h10, h11⟩, own, two, dj, fun j hj => Nat.lt_of_lt_of_le (lt j hj) tt.size⟩
theorem HSt.beside {w w' : World} {g c i t sure len : Nat} {on : Bool} {D E : Nat → Prop} {bb : Nat} (h : HSt w g c i t sure len on D E) (nb : NBk w bb) (tt : Turn (fun j => j = bb) w w') (hD : ¬ (D bb ∨ E bb)) (hb : 2 ≤ bb) : HSt w' g c i t sure len on D E := by
  unfold HSt at h ⊢
  cases on with
  | true =>
    rw [if_pos rfl] at h ⊢
    obtain ⟨h1, d, k, h2, h3⟩ := h
    exact ⟨h1, d, k, h2.beside nb tt (fun h => hD (.inl h)) (fun h => hD (.inr h)) hb, h3⟩
  | false =>
    rw [if_neg (by simp)] at h ⊢
    obtain ⟨h1, d, h2, h3, h4, ⟨PS, half, a', t', H, NV, h5⟩, h6, h7, h8, h9⟩ := h
    exact ⟨h1, d, h2.keep tt (fun j hj e => by have e : j = bb := e; subst e; exact hD (.inl hj)) (fun j e => by have e : j = bb := e; omega), h3, h4, ⟨PS, half, a', t', H, NV, h5.turn tt (fun e => by have e : c = bb := e; exact hD (.inr ((h9 bb).2 e.symm)))⟩, h6, Nat.lt_of_lt_of_le h7 tt.size, h8, h9⟩
theorem TrS.nbk {w : World} {bb cc : Nat} {N : Nat → Prop} {ts : List (Nat × List (List B8))} (h : TrS w bb cc N ts) : NBk w bb ∧ ¬ N bb ∧ 2 ≤ bb := by
  obtain ⟨vs, h1, h2, h3, h4, h5⟩ := h
  exact ⟨h5, h2, h3⟩
/-- An act's end with one try more. -/
theorem KpI.push {w wm wp : World} {g c c' i t sure len t' sure' len' : Nat} {on on' : Bool} {bb cc bb' cc' cur cur' : Nat} {ts : List (Nat × List (List B8))} {D E D' E' : Nat → Prop} {w5 : World} {T : Nat} {L : List (List B8)}
    (h : KpI w w5 g c i t sure len on bb cc cur ts D E) (st : HSt wm g c' (i + 1) t' sure' len' on' D' E') (trm : TrS wm bb cc (fun j => D' j ∨ E' j) ts) (trp : TrS wp bb' cc' (fun j => D' j ∨ E' j) (ts ++ [(T, L)])) (tp : Turn (fun j => j = bb) wm wp) (hbb : bb' = bb ∨ bb' = wm.heap.size)
    (twm : Turn (fun _ => False) w wm) (hT : T ≤ 2 + i) (hL : L.length ≤ 14 + i) (hx : ∀ x ∈ L, x.length ≤ 65524) (hcur : cur' < ts.length + 1) (hln : on' = true → ∃ p, (ts ++ [(T, L)])[cur']? = some p ∧ p.2.length = len') (hde : (∀ j, D' j → w.heap.size ≤ j) ∧ (∀ j, E' j → w.heap.size ≤ j)) :
    KpI w wp g c' (i + 1) t' sure' len' on' bb' cc' cur' (ts ++ [(T, L)]) D' E' := by
  obtain ⟨n1, n2, n3⟩ := trm.nbk
  have hbl := h.bl
  refine ⟨st.beside n1 tp n2 n3, trp, by rw [List.length_append, List.length_singleton]; exact hcur, by rw [List.length_append, List.length_singleton]; have := h.nt; omega, fun p hp => ?_, hln, hde, ?_, twm.trans tp (fun j hj e => ?_)⟩
  · rw [List.mem_append, List.mem_singleton] at hp
    rcases hp with hp | rfl
    · obtain ⟨b1, b2, b3⟩ := h.bd p hp
      exact ⟨by omega, by omega, b3⟩
    · exact ⟨by show T ≤ _; omega, by show L.length ≤ _; omega, hx⟩
  · rcases hbb with e | e
    · omega
    · have := twm.size; omega
  · have e : j = bb := e
    omega
end
section
set_option linter.unusedVariables false
set_option linter.unusedSimpArgs false
open Go.RowKit
set_option maxRecDepth 100000
theorem own_at {w : World} {H B : Nat} {e : TypeId} (h : w.heap[H]? = some (.cells #[] e (0, 0))) (hB : B ≤ H) : w.ownsRow B e 1 (.slice (some ⟨H, 0, none⟩) 0 0) 0 [] := by
  refine ⟨rfl, .inr ⟨H, 0, #[], rfl, hB, h, ?_⟩⟩
  simp
theorem news_at {w : World} {H : Nat} {x : Value} {e : TypeId} (h : w.heap[H]? = some (.cells #[x] e (0, 0))) (j : Nat) (u : Value) (hu : [x][j]? = some u) : ∃ ad, some (⟨H, 0, none⟩ : Addr) = some ad ∧ w.cell? (ad.add j) = some u :=
  ⟨_, rfl, World.news_of_block h j u hu⟩
theorem own_set2 {w : World} {base n : Nat} {e : TypeId} {g c : Nat} {xs : List Value} (h : w.ownsRow base e 2 (.slice (some ⟨g, 0, none⟩) n c) n xs) (k : Nat) (u : Value) :
    (w.setCell ⟨g, k, none⟩ u).ownsRow base e 2 (.slice (some ⟨g, 0, none⟩) n c) n (xs.set k u) := by
  obtain ⟨h1, h2⟩ := h
  rcases h2 with ⟨e, -⟩ | ⟨g', cap, cur, e, hg, hh, hn, hcap, hsz, ht⟩
  · cases e
  · injection e with e1 e2 e3
    injection e1 with e1
    injection e1 with e1
    subst e1; subst e3
    refine ⟨by simpa using h1, .inr ⟨g, c, _, rfl, hg, heap_setCell_same _ g k _ _ _ hh, hn, hcap, by simpa using hsz, ?_⟩⟩
    rw [Array.toList_setIfInBounds, List.take_set, ht]
theorem NBk.set {w : World} {bb k n c : Nat} {A : Option Addr} (h : NBk w bb) : NBk (w.setCell ⟨bb, k, none⟩ (.slice A n c)) bb := by
  obtain ⟨cur, ty, h1, h2⟩ := h
  refine ⟨_, ty, heap_setCell_same _ bb k _ _ _ h1, fun v hv x e => ?_⟩
  rw [Array.toList_setIfInBounds] at hv
  rcases List.mem_or_eq_of_mem_set hv with hv | hv
  · exact h2 v hv x e
  · rw [hv] at e; unfold bv at e; cases e
theorem TrS.set {w : World} {bb cc k t c : Nat} {N : Nat → Prop} {ts : List (Nat × List (List B8))} {l l' : List (List B8)} {A : Option Addr} (h : TrS w bb cc N ts) (hk : ts[k]? = some (t, l)) (h1 : l'.length ≤ c) (h2 : A = none → c = 0) (h3 : LstQ w (fun j => N j ∨ j = bb) A l') :
    TrS (w.setCell ⟨bb, k * 2 + 1, none⟩ (.slice A l'.length c)) bb cc N (ts.set k (t, l')) ∧ Turn (fun j => j = bb) w (w.setCell ⟨bb, k * 2 + 1, none⟩ (.slice A l'.length c)) := by
  obtain ⟨vs, ho, hb, hb2, hv, nb⟩ := h
  have tt : Turn (fun j => j = bb) w (w.setCell ⟨bb, k * 2 + 1, none⟩ (.slice A l'.length c)) := (Turn.refl _ _).setCell _ _ (fun _ => rfl)
  refine ⟨⟨_, by rw [List.length_set]; exact own_set2 ho (k * 2 + 1) _, hb, hb2, (hv.set hk h1 h2 h3).turn tt (fun _ e => .inr e) (fun _ _ h => h), nb.set⟩, tt⟩
theorem lstq_of {w : World} {B n c : Nat} {e : TypeId} {N : Nat → Prop} {A : Option Addr} {vs : List Value} {ls : List (List B8)} (ho : w.ownsRow B e 1 (.slice A n c) n vs) (tx : TxtV w N ls vs) (hN : ∀ j, N j → j < B) : LstQ w N A ls := fun i xs hi => by
  obtain ⟨Ai, ci, h1, h2, h3, h4⟩ := tx.2 i xs hi
  obtain ⟨ad, e1, hb, hc⟩ := own_sln ho hN i _ h1
  exact ⟨ad, Ai, ci, e1, hb, hc, h2, h3, h4⟩
/-- The tries behind an operation of the chest. -/
theorem KpI.mid {w w6 w7 : World} {g c i t sure len : Nat} {on : Bool} {bb cc cur : Nat} {ts : List (Nat × List (List B8))} {D E D' E' : Nat → Prop} (h : KpI w w6 g c i t sure len on bb cc cur ts D E) (hD : ∀ j, D' j → Dn D w6 w7 j) (hE : ∀ j, E' j → Dn E w6 w7 j) (tt : Turn (fun j => D j ∨ E j) w6 w7) :
    TrS w7 bb cc (fun j => D' j ∨ E' j) ts ∧ ((∀ j, D' j → w.heap.size ≤ j) ∧ (∀ j, E' j → w.heap.size ≤ j)) ∧ Turn (fun _ => False) w w7 := by
  have hsz := h.tw.size
  refine ⟨h.tr.turn tt (fun _ h => h) (fun j hj h => ?_), ⟨fun j hj => ?_, fun j hj => ?_⟩, h.tw.trans tt (fun j hj h' => ?_)⟩
  · rcases h with h | h
    · rcases hD j h with h | h
      · exact .inl h
      · have := h.1; omega
    · rcases hE j h with h | h
      · exact .inr h
      · have := h.1; omega
  · rcases hD j hj with h' | h'
    · exact h.de.1 j h'
    · have := h'.1; omega
  · rcases hE j hj with h' | h'
    · exact h.de.2 j h'
    · have := h'.1; omega
  · rcases h' with h' | h'
    · have := h.de.1 j h'; omega
    · have := h.de.2 j h'; omega
/-- An act's end with a longer list. -/
theorem KpI.kept {w wq : World} {g c i t sure len t' sure' len' : Nat} {on on' : Bool} {bb cc cur : Nat} {ts : List (Nat × List (List B8))} {D E D' E' : Nat → Prop} {w5 : World} {pt cn : Nat} {pl : List (List B8)} {fb : List B8} {A : Option Addr}
    (h : KpI w w5 g c i t sure len on bb cc cur ts D E) (hp : ts[cur]? = some (pt, pl)) (st : HSt wq g c (i + 1) t' sure' len' on' D' E') (tr : TrS wq bb cc (fun j => D' j ∨ E' j) ts) (tw : Turn (fun _ => False) w wq)
    (h1 : (pl ++ [fb]).length ≤ cn) (h2 : A = none → cn = 0) (h3 : LstQ wq (fun j => (D' j ∨ E' j) ∨ j = bb) A (pl ++ [fb])) (hfb : fb.length ≤ 300) (hln : on' = true → pl.length + 1 = len') (hde : (∀ j, D' j → w.heap.size ≤ j) ∧ (∀ j, E' j → w.heap.size ≤ j)) :
    KpI w (wq.setCell ⟨bb, cur * 2 + 1, none⟩ (.slice A (pl ++ [fb]).length cn)) g c (i + 1) t' sure' len' on' bb cc cur (ts.set cur (pt, pl ++ [fb])) D' E' := by
  obtain ⟨n1, n2, n3⟩ := tr.nbk
  obtain ⟨s1, s2⟩ := tr.set hp h1 h2 h3
  have hbl := h.bl
  have hcu := h.cu
  refine ⟨st.beside n1 s2 n2 n3, s1, by rw [List.length_set]; exact hcu, by rw [List.length_set]; have := h.nt; omega, fun p hm => ?_, fun e => ⟨_, by rw [List.getElem?_set_self hcu], by rw [List.length_append]; exact hln e⟩, hde, hbl, tw.trans s2 (fun j hj e => ?_)⟩
  · rcases List.mem_or_eq_of_mem_set hm with hm | rfl
    · obtain ⟨b1, b2, b3⟩ := h.bd p hm
      exact ⟨by omega, by omega, b3⟩
    · obtain ⟨b1, b2, b3⟩ := h.bd _ (List.mem_of_getElem? hp)
      refine ⟨by show pt ≤ _; have : pt ≤ 1 + i := b1; omega, by show (pl ++ [fb]).length ≤ _; rw [List.length_append]; have : pl.length ≤ 13 + i := b2; show pl.length + 1 ≤ _; omega, fun x hx => ?_⟩
      rw [List.mem_append, List.mem_singleton] at hx
      rcases hx with hx | rfl
      · exact b3 x hx
      · omega
  · have e : j = bb := e
    omega
theorem lst_one {w : World} {N : Nat → Prop} {A : Option Addr} {c n : Nat} {b : List B8} (hs : SlN w N A (b.map bv)) (hA : A = none → c = 0) (hc : b.length ≤ c) (hn : n = b.length) (hN : ∀ j, N j → j < w.heap.size) : LstQ (w.alloc (.cells #[.slice A n c] 36)) N (some ⟨w.heap.size, 0, none⟩) [b] := by
  subst hn
  have tt : Turn (fun _ => False) w (w.alloc (.cells #[.slice A b.length c] 36)) := (Turn.refl _ _).alloc _
  intro i xs hi
  have hi0 : i = 0 := by
    have := (List.getElem?_eq_some_iff.1 hi).1
    simp at this
    omega
  subst hi0
  injection hi with hi
  subst hi
  refine ⟨_, A, c, rfl, fun h => ?_, ?_, hc, hA, hs.turn tt (fun _ h => h.elim) (fun _ _ h => h)⟩
  · have := hN _ h
    have : w.heap.size < w.heap.size := this
    omega
  · rw [show (⟨w.heap.size, 0, none⟩ : Addr).add 0 = ⟨w.heap.size, 0, none⟩ from rfl, cell_of_row _ _ _ _ _ _ (heap_alloc_new w _)]; rfl
end
section
set_option linter.unusedVariables false
set_option linter.unusedSimpArgs false
open Go.RowKit
set_option maxRecDepth 100000
/-- Below B nothing turns; a row made from B on may come to hold X behind its first q cells. -/
structure Gw (B q : Nat) (X : Value) (w w' : World) : Prop where
  b : Below B w w'
  r : ∀ k cur ty, B ≤ k → w.heap[k]? = some (.cells cur ty (0, 0)) → ∃ cur' : Array Value, w'.heap[k]? = some (.cells cur' ty (0, 0)) ∧ cur'.size = cur.size ∧ ∀ j, cur'[j]? = cur[j]? ∨ (q ≤ j ∧ cur'[j]? = some X)
section
variable {B q n : Nat} {X : Value} {E : TypeId} {xs : List Value}
theorem Gw.refl (w : World) : Gw B q X w w := ⟨Below.refl _ _, fun k cur ty _ h => ⟨cur, h, rfl, fun _ => .inl rfl⟩⟩
theorem Gw.trans (a b c : World) (h : Gw B q X a b) (k : Gw B q X b c) : Gw B q X a c := ⟨Below.trans h.b k.b, fun i cur ty hi hc => by
  obtain ⟨c1, g1, g2, g3⟩ := h.r i cur ty hi hc
  obtain ⟨c2, f1, f2, f3⟩ := k.r i c1 ty hi g1
  refine ⟨c2, f1, f2.trans g2, fun j => ?_⟩
  rcases f3 j with e | ⟨e1, e2⟩
  · rcases g3 j with e' | ⟨e1', e2'⟩
    · exact .inl (e.trans e')
    · exact .inr ⟨e1', e.trans e2'⟩
  · exact .inr ⟨e1, e2⟩⟩
theorem Gw.of {w w' : World} (h : Stp w w') (hB : B ≤ w.heap.size) : Gw B q X w w' := ⟨Below.mono h hB, fun k cur ty _ hk => ⟨cur, (h.block k (lt_of_block hk)).trans hk, rfl, fun _ => .inl rfl⟩⟩
theorem Gw.size {w w' : World} (h : Gw B q X w w') : w.heap.size ≤ w'.heap.size := h.b.size
/-- An empty row; a row of n; a row of one; a row of one more. -/
def G0 (B : Nat) (E : TypeId) (v : Value) (w : World) : Prop := ∃ g, B ≤ g ∧ v = .slice (some ⟨g, 0, none⟩) 0 0 ∧ w.heap[g]? = some (.cells #[] E (0, 0))
def GR (B : Nat) (E : TypeId) (n : Nat) (xs : List Value) (v : Value) (w : World) : Prop := ∃ g cap cur, B ≤ g ∧ v = .slice (some ⟨g, 0, none⟩) n cap ∧ w.heap[g]? = some (.cells cur E (0, 0)) ∧ cur.size = cap ∧ n ≤ cap ∧ cap ≤ maxLen ∧ cur.toList.take n = xs ∧ (n = 0 → cap = 0)
def G1 (B : Nat) (E : TypeId) (X : Value) (v : Value) (w : World) : Prop := ∃ g, B ≤ g ∧ v = .slice (some ⟨g, 0, none⟩) 1 1 ∧ w.heap[g]? = some (.cells #[X] E (0, 0))
def GA (B : Nat) (E : TypeId) (n : Nat) (xs : List Value) (X : Value) (v : Value) (w : World) : Prop := ∃ g cap cur, B ≤ g ∧ v = .slice (some ⟨g, 0, none⟩) (n + 1) cap ∧ w.heap[g]? = some (.cells cur E (0, 0)) ∧ cur.size = cap ∧ n + 1 ≤ cap ∧ cap ≤ maxLen ∧ cur.toList.take (n + 1) = xs ++ [X]
theorem take_same {a b : List Value} {m : Nat} (h : ∀ j, j < m → a[j]? = b[j]?) : a.take m = b.take m := by
  apply List.ext_getElem?
  intro j
  rw [List.getElem?_take, List.getElem?_take]
  split
  · exact h j (by assumption)
  · rfl
theorem G0.stable (v : Value) (w w' : World) (h : G0 B E v w) (hs : Gw B q X w w') : G0 B E v w' := by
  obtain ⟨g, h1, h2, h3⟩ := h
  obtain ⟨c, e1, e2, -⟩ := hs.r g _ _ h1 h3
  have : c = #[] := Array.eq_empty_of_size_eq_zero (by simpa using e2)
  subst this
  exact ⟨g, h1, h2, e1⟩
theorem G1.stable (hq : 1 ≤ q) (v : Value) (w w' : World) (h : G1 B E X v w) (hs : Gw B q X w w') : G1 B E X v w' := by
  obtain ⟨g, h1, h2, h3⟩ := h
  obtain ⟨c, e1, e2, e3⟩ := hs.r g _ _ h1 h3
  have : c = #[X] := by
    apply Array.ext
    · exact e2
    · intro i h5 h6
      have hi : i = 0 := by simp at h6; omega
      subst hi
      rcases e3 0 with e | ⟨e, -⟩
      · rw [Array.getElem?_eq_getElem h5] at e
        simpa using e
      · omega
  subst this
  exact ⟨g, h1, h2, e1⟩
theorem GR.stable (hq : n ≤ q) (v : Value) (w w' : World) (h : GR B E n xs v w) (hs : Gw B q X w w') : GR B E n xs v w' := by
  obtain ⟨g, cap, cur, h1, h2, h3, h4, h5, h6, h7, h8⟩ := h
  obtain ⟨c, e1, e2, e3⟩ := hs.r g _ _ h1 h3
  refine ⟨g, cap, c, h1, h2, e1, e2.trans h4, h5, h6, ?_, h8⟩
  rw [← h7]
  refine take_same fun j hj => ?_
  rcases e3 j with e | ⟨e, -⟩
  · rw [Array.getElem?_toList, Array.getElem?_toList]; exact e
  · omega
theorem GA.stable (hq : n ≤ q) (hx : xs.length = n) (v : Value) (w w' : World) (h : GA B E n xs X v w) (hs : Gw B q X w w') : GA B E n xs X v w' := by
  obtain ⟨g, cap, cur, h1, h2, h3, h4, h5, h6, h7⟩ := h
  obtain ⟨c, e1, e2, e3⟩ := hs.r g _ _ h1 h3
  refine ⟨g, cap, c, h1, h2, e1, e2.trans h4, h5, h6, ?_⟩
  rw [← h7]
  refine take_same fun j hj => ?_
  rcases e3 j with e | ⟨e, e'⟩
  · rw [Array.getElem?_toList, Array.getElem?_toList]; exact e
  · have hjn : j = n := by omega
    subst hjn
    have h8 : (cur.toList.take (j + 1))[j]? = some X := by
      rw [h7, List.getElem?_append_right (by omega), hx, Nat.sub_self]; rfl
    rw [List.getElem?_take, if_pos (by omega)] at h8
    rw [h8, Array.getElem?_toList]; exact e'
theorem G0.new (w : World) (hB : B ≤ w.heap.size) : G0 B E (.slice (some ⟨w.heap.size, 0, none⟩) 0 0) (w.alloc (.cells #[] E)) ∧ Gw B q X w (w.alloc (.cells #[] E)) :=
  ⟨⟨w.heap.size, hB, rfl, heap_alloc_new _ _⟩, Gw.of ((Below.refl _ _).alloc (Nat.le_refl _) _) hB⟩
theorem G1.new (w : World) (hB : B ≤ w.heap.size) : G1 B E X (.slice (some ⟨w.heap.size, 0, none⟩) 1 1) (w.alloc (.cells #[X] E)) ∧ Gw B q X w (w.alloc (.cells #[X] E)) :=
  ⟨⟨w.heap.size, hB, rfl, heap_alloc_new _ _⟩, Gw.of ((Below.refl _ _).alloc (Nat.le_refl _) _) hB⟩
end
theorem listAppend (ty : TypeId) (B q : Nat) (X : Value) (w : World) (v : Value) (h : G0 B 36 v w) (hB : B ≤ w.heap.size) (A : Option Addr) (c n : Nat) (xs : List Value) (hl : xs.length = n) (hs : ∀ (j : Nat) (u : Value), xs[j]? = some u → ∃ ad, A = some ad ∧ w.cell? (ad.add j) = some u) (hA : A = none → c = 0) (hc : n ≤ c) (h1 : ∀ u ∈ xs, u.oneCell' = true) (hn : n ≤ 1000) :
    ∃ v' w', (Builtin.append_ #[31, 31] ty #[v, .slice A n c]).run Tryd.prog w = .ok v' w' ∧ GR B 36 n xs v' w' ∧ Gw B q X w w' := by
  obtain ⟨g, hB0, rfl, hg⟩ := h
  obtain ⟨i, hi, hz, hs1, hby⟩ := info_parts info_sl
  cases A with
  | none =>
    obtain rfl := hA rfl
    obtain rfl : n = 0 := by omega
    obtain rfl : xs = [] := List.eq_nil_of_length_eq_zero hl
    have ho : w.ownsRow B 36 1 (.slice (some ⟨g, 0, none⟩) 0 0) 0 [] := own_at hg hB0
    have hr := run_append_owned_none (P := Tryd.prog) (w := w) B 31 ty 36 i 1 Tryd.underlying31 hi _ 0 [] ho
    exact ⟨_, w, hr, ⟨g, 0, #[], hB0, rfl, hg, rfl, Nat.le_refl _, by unfold maxLen; omega, rfl, fun _ => rfl⟩, Gw.refl _⟩
  | some ad =>
    have hn2 : ∀ j u, xs[j]? = some u → w.cell? (ad.add j) = some u := fun j u hu => by
      obtain ⟨ad', e, hc⟩ := hs j u hu
      injection e with e; subst e; exact hc
    by_cases hp : n = 0
    · subst hp
      obtain rfl : xs = [] := List.eq_nil_of_length_eq_zero hl
      have hr := run_append_room (P := Tryd.prog) w 31 ty 36 i Tryd.underlying31 hi g 0 0 #[] hg ad 0 c [] (by simp) (by simp) (by simp) (by omega) (by simp)
      have e0 : ((#[] : Array Value).toList.take (0 * i.size) ++ [] ++ (#[] : Array Value).toList.drop (0 * i.size + ([] : List Value).length)).toArray = #[] := by simp
      rw [e0] at hr
      refine ⟨_, _, hr, ⟨g, 0, #[], hB0, rfl, setRow_heap w g #[] #[] _ _ hg, rfl, Nat.le_refl _, by unfold maxLen; omega, rfl, fun _ => rfl⟩, Gw.of ⟨rfl, rfl, rfl, by simp, fun k hk => ?_⟩ hB⟩
      by_cases hkg : k = g
      · subst hkg
        rw [setRow_heap w k #[] #[] _ _ hg, hg]
      · exact setRow_other w g k #[] hkg
    · have hr := run_append_grow (P := Tryd.prog) w 31 ty 36 i (.slice none 0 0) Tryd.underlying31 hi hz ⟨g, 0, none⟩ 0 0 [] (by simp) (by intro j u hu; simp at hu) ad n c xs (by rw [hs1, hl]; omega) hn2 (by omega) (by omega) (growslice_fits (by omega) (by rw [hby]; omega))
      rw [Nat.zero_add] at hr
      have hge := grownCap_ge w n 0 36
      have hcm := grownCap_le_maxLen w n 0 36 (by unfold maxLen; omega)
      refine ⟨_, _, hr, ⟨w.heap.size, _, _, hB, rfl, heap_alloc_new w.drew _, ?_, hge, hcm, ?_, fun h => absurd h hp⟩, Gw.of (((Below.refl w.heap.size w).drew).alloc (Nat.le_refl _) _) hB⟩
      · have hz32 : (Value.slice none 0 0).cells.size = 1 := rfl
        simp only [Array.size_append, List.size_toArray, size_zeroCells, hz32, hl]
        simp only [List.length_nil]
        omega
      · simp only [Array.toList_append, List.nil_append]
        rw [← hl]
        exact List.take_left
theorem listPush (ty : TypeId) (B q : Nat) (X : Value) (w : World) (v u : Value) (n : Nat) (xs : List Value) (h : GR B 36 n xs v w) (hu : G1 B 36 X u w) (hB : B ≤ w.heap.size) (hl : xs.length = n) (hX : X.oneCell' = true) (hn : n ≤ 1000) (hq : q ≤ n ∨ n = 0) :
    ∃ v' w', (Builtin.append_ #[31, 31] ty #[v, u]).run Tryd.prog w = .ok v' w' ∧ GA B 36 n xs X v' w' ∧ Gw B q X w w' := by
  obtain ⟨g, cap, cur, h1, rfl, h3, h4, h5, h6, h7, h8⟩ := h
  obtain ⟨g', k1, rfl, k3⟩ := hu
  obtain ⟨i, hi, hz, hs1, hby⟩ := info_parts info_sl
  have hnews : ∀ j u, ([X] : List Value)[j]? = some u → w.cell? ((⟨g', 0, none⟩ : Addr).add j) = some u := fun j u hj => by
    obtain ⟨ad, e, hc⟩ := news_at k3 j u hj
    injection e with e; subst e; exact hc
  have hone : ∀ u ∈ ([X] : List Value), u.oneCell' = true := fun u hu => by rw [List.mem_singleton] at hu; rw [hu]; exact hX
  by_cases hroom : n + 1 ≤ cap
  · have hq' : q ≤ n := by
      rcases hq with h | h
      · exact h
      · have := h8 h; omega
    have hfit : n * i.size + ([X] : List Value).length ≤ cur.size := by rw [hs1, h4]; simp; omega
    have hr := run_append_room (P := Tryd.prog) w 31 ty 36 i Tryd.underlying31 hi g n cap cur h3 ⟨g', 0, none⟩ 1 1 [X] (by rw [hs1]; rfl) hnews hone hroom hfit
    rw [hs1, Nat.mul_one] at hr
    obtain ⟨C, hC⟩ : ∃ C : Array Value, C = (cur.toList.take n ++ [X] ++ cur.toList.drop (n + ([X] : List Value).length)).toArray := ⟨_, rfl⟩
    rw [← hC] at hr
    have hCs : C.size = cur.size := by
      rw [hC]
      simp only [List.size_toArray, List.length_append, List.length_take, List.length_drop, List.length_singleton, Array.length_toList]
      omega
    have hCt : C.toList = cur.toList.take n ++ ([X] ++ cur.toList.drop (n + 1)) := by rw [hC, List.toList_toArray, List.append_assoc]; rfl
    have htl : (cur.toList.take n).length = n := by rw [List.length_take, Array.length_toList]; omega
    have hsr := setRow_heap w g cur C 36 (0, 0) h3
    refine ⟨_, _, hr, ⟨g, cap, C, h1, rfl, hsr, hCs.trans h4, hroom, h6, ?_⟩, ⟨⟨rfl, rfl, rfl, by simp, fun k hk => setRow_other w g k C (by omega)⟩, fun k c2 ty2 hk hkc => ?_⟩⟩
    · have e9 : xs ++ [X] = (cur.toList.take n ++ [X]) := by rw [h7]
      rw [hCt, ← List.append_assoc, e9]
      have : (cur.toList.take n ++ [X]).length = n + 1 := by rw [List.length_append, htl]; rfl
      rw [← this]
      exact List.take_left
    · by_cases hkg : k = g
      · subst hkg
        rw [h3] at hkc
        injection hkc with hkc
        injection hkc with e1 e2
        subst e1; subst e2
        refine ⟨C, hsr, hCs, fun j => ?_⟩
        rw [← Array.getElem?_toList, ← Array.getElem?_toList, hCt]
        rcases Nat.lt_trichotomy j n with hj | hj | hj
        · left
          rw [List.getElem?_append_left (by omega), List.getElem?_take, if_pos hj]
        · right
          subst hj
          refine ⟨hq', ?_⟩
          rw [List.getElem?_append_right (by omega), htl, Nat.sub_self]; rfl
        · left
          rw [List.getElem?_append_right (by omega), htl]
          rw [List.getElem?_append_right (by simp; omega), List.length_singleton, List.getElem?_drop]
          congr 1; omega
      · exact ⟨c2, (setRow_other w g k C hkg).trans hkc, rfl, fun _ => .inl rfl⟩
  · have holds : ∀ j u, xs[j]? = some u → w.cell? ((⟨g, 0, none⟩ : Addr).add j) = some u := fun j u hj => by
      have hj2 : cur[j]? = some u := by
        rw [← Array.getElem?_toList]
        rw [← h7, List.getElem?_take] at hj
        split at hj
        · exact hj
        · cases hj
      rw [show (⟨g, 0, none⟩ : Addr).add j = ⟨g, j, none⟩ by unfold Addr.add; split <;> simp_all, cell_of_row _ _ _ _ _ _ h3]
      exact hj2
    have hr := run_append_grow (P := Tryd.prog) w 31 ty 36 i (.slice none 0 0) Tryd.underlying31 hi hz ⟨g, 0, none⟩ n cap xs (by rw [hs1, hl]; omega) holds ⟨g', 0, none⟩ 1 1 [X] (by rw [hs1]; rfl) hnews (by omega) (by omega) (growslice_fits (by omega) (by rw [hby]; omega))
    have hge := grownCap_ge w (n + 1) cap 36
    have hcm := grownCap_le_maxLen w (n + 1) cap 36 (by unfold maxLen; omega)
    refine ⟨_, _, hr, ⟨w.heap.size, _, _, hB, rfl, heap_alloc_new w.drew _, ?_, hge, hcm, ?_⟩, Gw.of (((Below.refl w.heap.size w).drew).alloc (Nat.le_refl _) _) hB⟩
    · have hz32 : (Value.slice none 0 0).cells.size = 1 := rfl
      simp only [Array.size_append, List.size_toArray, size_zeroCells, hz32, hl, List.length_singleton]
      omega
    · simp only [Array.toList_append]
      have : (xs ++ [X]).length = n + 1 := by rw [List.length_append, hl]; rfl
      rw [← this]
      exact List.take_left
theorem build_sl0 (w : World) : (Instr.buildSlice 31 0 #[]).run Tryd.prog w = .ok (.slice (some ⟨w.heap.size, 0, none⟩) 0 0) (w.alloc (.cells #[] 36)) := by
  first | kernel_rfl | simp [go_sem]
theorem does_list0 {o : Oper} {a : Act} {w : World} {R : Value → World → Prop} (ho : o.op = .buildSlice 31 0 #[]) (h : R (.slice (some ⟨w.heap.size, 0, none⟩) 0 0) (w.alloc (.cells #[] 36))) : doesR Tryd.prog o a w R := by
  unfold doesR execOp
  simp only [ho]
  simp only [List.map_toArray, List.map_nil, Sem.run_bind, build_sl0, Result.andThen_ok, Sem.run_pure]
  exact h
theorem GA.own {B n : Nat} {xs : List Value} {X v : Value} {w : World} (h : GA B 36 n xs X v w) (hl : xs.length = n) : ∃ g cap, v = .slice (some ⟨g, 0, none⟩) (n + 1) cap ∧ w.ownsRow B 36 1 (.slice (some ⟨g, 0, none⟩) (n + 1) cap) (n + 1) (xs ++ [X]) := by
  obtain ⟨g, cap, cur, h1, h2, h3, h4, h5, h6, h7⟩ := h
  refine ⟨g, cap, h2, by rw [List.length_append, hl]; simp, .inr ⟨g, cap, cur, rfl, h1, h3, h5, h6, by omega, ?_⟩⟩
  rw [Nat.mul_one]; exact h7
end
end Go.Proofs.YtajdcekkmikbcaaDoor
