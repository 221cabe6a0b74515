/- The contracts of the pen. -/
import Derived.Test.YtmkpoodhhpfgpaaFldB
import Derived.Maps.AppendAt
import Derived.Deep.AppendLies
import Derived.Deep.RegionLaw
set_option linter.unusedVariables false
namespace Go.Proofs.Ytmkpoodhhpfgpaa
open Go.RowKit
set_option maxRecDepth 100000 in
theorem wpList_append_any_at {P : Program} {w : World} {ops : Array Oper} {rest : List Oper} {o : Oper} {a : Act} {Q : Exit → Act → World → Prop} (hgd : o.guard = none) (s x : Operand) (t : TypeId)
    (ho : o.op = .call { callee := .builtin .append, args := #[s, x], argTypes := #[t, t] })
    (base : Nat) (e : TypeId) (i : TypeInfo) (z : Value) (bytes : Nat) (ht : P.underlying t = some (.slice e)) (hi : P.info? e = some i) (hz : i.zero = some z)
    (hsize : i.size = 1) (hby : i.bytes = bytes) (hzs : z.cells.size = 1)
    (v : Value) (n : Nat) (xs : List Value) (hs : a.eval s = v) (hown : w.ownsRow base e 1 v n xs)
    (A : Option Addr) (m c : Nat) (news : List Value) (hx : a.eval x = .slice A m c) (hA : A = none → c = 0) (hl : news.length = m) (hnews : ∀ (j : Nat) (u : Value), news[j]? = some u → ∃ ad, A = some ad ∧ w.cell? (ad.add j) = some u) (h1 : ∀ u ∈ news, u.oneCell' = true)
    (h63 : n + m ≤ maxLen) (hbytes : (n + m) * bytes ≤ 140737488355328) (hbase : base ≤ w.heap.size)
    (h : ∀ v' w', w'.ownsRow base e 1 v' (n + m) (xs ++ news) → w.grownBy w' v.ownBlock → (v'.ownBlock = v.ownBlock ∨ v'.ownBlock = some w.heap.size) → wpList P ops Q rest (a.put o.dst v') w') : wpList P ops Q (o :: rest) a w := by
  cases A with
  | none =>
    obtain rfl := hA rfl
    have hn : news = [] := by
      cases news with
      | nil => rfl
      | cons u l => obtain ⟨ad, e, _⟩ := hnews 0 u rfl; cases e
    subst hn
    obtain rfl : m = 0 := by simpa using hl.symm
    refine wpList_append_own_none hgd s x t ho base e i 1 ht hi v n xs hs hown hx ?_
    exact h v w (by simpa using hown) ⟨rfl, rfl, rfl, Nat.le_refl _, fun _ _ _ => rfl⟩ (.inl rfl)
  | some ad =>
    refine wpList_append_own_at w hgd s x t ho base e i z 1 bytes ht hi hz hsize hby hzs (by decide) v n xs hs hown ad m c news hx (by omega) (fun j u hu => ?_) h1 h63 hbytes hbase (fun v' w' h2 h3 _ h5 => h v' w' h2 h3 h5)
    obtain ⟨ad', e, hc⟩ := hnews j u hu
    injection e with e; subst e; exact hc
/-- A pen in block p that has written xs: they lie in a row of its own, v, from block B on. -/
def PenAt (w : World) (p B : Nat) (v : Value) (xs : List B8) : Prop := w.heap[p]? = some (.cells #[v] 61 (0, 0)) ∧ w.ownsRow B 5 1 v xs.length (xs.map bv) ∧ p < B ∧ B ≤ w.heap.size
/-- What a pen's writing turns: the pen, and its row; its new row is the old one, or a new one. -/
def PenStep (w w' : World) (p : Nat) (v v' : Value) : Prop := Turn (fun i => i = p ∨ some i = v.ownBlock) w w' ∧ (v'.ownBlock = v.ownBlock ∨ ∃ g, v'.ownBlock = some g ∧ w.heap.size ≤ g)
set_option maxRecDepth 100000 in
theorem PenStep.refl (w : World) (p : Nat) (v : Value) : PenStep w w p v v := ⟨Turn.refl _ _, .inl rfl⟩
set_option maxRecDepth 100000 in
theorem PenStep.trans {a b c : World} {p : Nat} {v v' v'' : Value} (h : PenStep a b p v v') (k : PenStep b c p v' v'') : PenStep a c p v v'' := by
  refine ⟨h.1.trans k.1 (fun i hi hs => ?_), ?_⟩
  · rcases hs with hs | hs
    · exact .inl hs
    · rcases h.2 with e | ⟨g, e, hg⟩
      · rw [e] at hs; exact .inr hs
      · rw [e] at hs; injection hs with hs; omega
  · rcases k.2 with e | ⟨g, e, hg⟩
    · rw [e]; exact h.2
    · exact .inr ⟨g, e, by have := h.1.size; omega⟩
set_option maxRecDepth 100000 in
theorem PenAt.cell {w : World} {p B : Nat} {v : Value} {xs : List B8} (h : PenAt w p B v xs) : w.cell? ⟨p, 0, none⟩ = some v ∧ w.frozen? ⟨p, 0, none⟩ = false := ⟨by rw [cell_of_row w p 0 _ _ _ h.1]; rfl, frozen_of_row w p 0 _ _ h.1⟩
set_option maxRecDepth 100000 in
theorem PenAt.ne {w : World} {p B : Nat} {v : Value} {xs : List B8} (h : PenAt w p B v xs) : ¬ some p = v.ownBlock := by
  intro e
  have := (h.2.1.lt p e.symm).1
  have := h.2.2.1
  omega
set_option maxRecDepth 100000 in
theorem PenAt.turn {S : Nat → Prop} {w w' : World} {p B : Nat} {v : Value} {xs : List B8} (h : PenAt w p B v xs) (t : Turn S w w') (h1 : ¬ S p) (h2 : ∀ g, v.ownBlock = some g → ¬ S g) : PenAt w' p B v xs :=
  ⟨t.heap h.1 h1, t.own h.2.1 h2, h.2.2.1, Nat.le_trans h.2.2.2 t.size⟩
set_option maxRecDepth 100000 in
theorem pen_store {w wa w1 : World} {p B : Nat} {v v1 : Value} {xs ys : List B8} (h : PenAt w p B v xs) (ta : Turn (fun _ => False) w wa) (own1 : w1.ownsRow B 5 1 v1 (xs.length + ys.length) (xs.map bv ++ ys.map bv))
    (gr : wa.grownBy w1 v.ownBlock) (at1 : v1.ownBlock = v.ownBlock ∨ ∃ g, v1.ownBlock = some g ∧ w.heap.size ≤ g) : PenAt (w1.setCell ⟨p, 0, none⟩ v1) p B v1 (xs ++ ys) ∧ PenStep w (w1.setCell ⟨p, 0, none⟩ v1) p v v1 := by
  have hp1 : w1.heap[p]? = some (.cells #[v] 61 (0, 0)) := (gr.block p (Nat.lt_of_lt_of_le (lt_of_block h.1) ta.size) h.ne).trans (ta.heap h.1 (fun h => h))
  refine ⟨⟨by rw [heap_setCell_same _ p 0 _ _ _ hp1]; rfl, ?_, h.2.2.1, ?_⟩, ?_, at1⟩
  · rw [List.length_append, List.map_append]
    exact ownsRow_setCell_below own1 (by exact h.2.2.1) _
  · have := gr.size; have := ta.size; have := h.2.2.2; simp [World.setCell]; omega
  · exact ((ta.mono (S := fun i => i = p ∨ some i = v.ownBlock) (fun _ _ h => h.elim)).grown gr (fun i _ e => .inr e)).setCell _ _ (fun _ => .inl rfl)
set_option maxRecDepth 100000 in
theorem pen_cell {w wa w1 : World} {p B : Nat} {v : Value} {xs : List B8} (h : PenAt w p B v xs) (ta : Turn (fun _ => False) w wa) (gr : wa.grownBy w1 v.ownBlock) : w1.cell? ⟨p, 0, none⟩ = some v ∧ w1.frozen? ⟨p, 0, none⟩ = false := by
  have hp1 : w1.heap[p]? = some (.cells #[v] 61 (0, 0)) := (gr.block p (Nat.lt_of_lt_of_le (lt_of_block h.1) ta.size) h.ne).trans (ta.heap h.1 (fun h => h))
  exact ⟨by rw [cell_of_row w1 p 0 _ _ _ hp1]; rfl, frozen_of_row w1 p 0 _ _ hp1⟩
set_option maxRecDepth 100000 in
set_option maxHeartbeats 1000000 in
theorem pnum_any (p B : Nat) (v : Value) (xs : List B8) (n : Nat) (w : World) (h : PenAt w p B v xs) (hn : n < 18446744073709551616) (hlen : xs.length + 9 ≤ 1099511627776) :
    Calls Try.prog 29 #[.pointer (some ⟨p, 0, none⟩), .int .u64 (n : Int)] w fun r w' => r = .returned (.tuple #[]) ∧ ∃ v', PenAt w' p B v' (xs ++ numB n) ∧ PenStep w w' p v v' := by
  obtain ⟨i0, hi, hz0, hz1, hz2⟩ := info_parts info_u8
  have c0 : w.cell? ⟨p, 0, none⟩ = some v := by rw [cell_of_row w p 0 _ _ _ h.1]; rfl
  have z0 := frozen_of_row w p 0 _ _ h.1
  obtain ⟨L, hL, hL64⟩ : ∃ L, L = Lib.bitLen n ∧ L ≤ 64 := ⟨_, rfl, bitLen_le n hn⟩
  have hk := klen_bitLen n hn
  have e1 := fun w => len64_any n w hn
  rw [← hL] at hk e1
  have E1 := Lib.hid e1
  obtain ⟨k, hkk⟩ : ∃ k, k = klen n := ⟨_, rfl⟩
  have hk8 : k ≤ 8 := by rw [hkk]; exact klen_eight hn
  have hq : ((L : Int) + 7).tdiv 8 = (k : Int) := by rw [Int.tdiv_eq_ediv_of_nonneg (by omega)]; omega
  have HK := Lib.hid hkk
  have HH := Lib.hid h
  clear h hL hk e1 hkk
  go_enter Try.func29, Try.ntmps29
  go_upto_region 1 with (go_at_call 40; refine (E1.out _).mono ?_; rintro r w' ⟨rfl, rfl⟩)
  go_step
  iterate 24 go_step
  have hkb : Value.int IntKind.u8 (k : Int) = bv (BitVec.ofNat 8 k) := by unfold bv; rw [BitVec.toNat_ofNat, Nat.mod_eq_of_lt (by omega)]
  have ta : Turn (fun _ => False) w' (w'.alloc (.cells #[Value.int IntKind.u8 (k : Int)] 5)) := (Turn.refl _ _).alloc _
  refine wpList_append_any_at (o := ⟨some 18, _, _, _, _, _⟩) rfl _ _ 42 rfl B 5 i0 (.int .u8 0) 1 Try.underlying42 hi hz0 hz1 hz2 rfl v xs.length (xs.map bv) rfl (HH.out.2.1.alloc _) (some ⟨w'.heap.size, 0, none⟩) 1 1 [bv (BitVec.ofNat 8 k)] rfl (fun h => by cases h) rfl ?_ (bv_one [BitVec.ofNat 8 k]) ?_ ?_ ?_ ?_
  · intro j u hu
    rw [← hkb] at hu
    exact ⟨_, rfl, World.news_of_block (heap_alloc_new w' (.cells #[Value.int IntKind.u8 (k : Int)] 5)) j u hu⟩
  · unfold maxLen; omega
  · omega
  · have := HH.out.2.2.2; simp; omega
  intro v1 w1 own1 gr1 at1
  have hps := pen_store (ys := [BitVec.ofNat 8 k]) HH.out ta own1 gr1 (at1.imp id (fun e => ⟨_, e, by simp⟩))
  have hg1 : w1.heap[p]? = some (.cells #[v] 61 (0, 0)) := (gr1.block p (by have := lt_of_block HH.out.1; simp; omega) HH.out.ne).trans (ta.heap HH.out.1 (fun h => h))
  have c1 : w1.cell? ⟨p, 0, none⟩ = some v := by rw [cell_of_row w1 p 0 _ _ _ hg1]; rfl
  have z1 := frozen_of_row w1 p 0 _ _ hg1
  have HPS := Lib.hid hps
  obtain ⟨A1, n1, rfl, -⟩ := own_sl own1
  clear own1 gr1 at1 ta hg1 c0 z0 hps hkb
  go_wp2
  obtain ⟨w2, hw2⟩ : ∃ w2, w2 = w1.setCell ⟨p, 0, none⟩ (.slice A1 (xs.length + 1) n1) := ⟨_, rfl⟩
  change PenAt (w1.setCell ⟨p, 0, none⟩ (.slice A1 (xs.length + 1) n1)) _ _ _ _ ∧ PenStep _ (w1.setCell ⟨p, 0, none⟩ (.slice A1 (xs.length + 1) n1)) _ _ _ at HPS
  rw [← hw2] at HPS ⊢
  clear hw2 c1 z1
  have HN := Lib.hid (show numB n = BitVec.ofNat 8 k :: beN k n by rw [HK.out]; rfl)
  go_loopw [5] (fun i wr => ∃ (m : Nat) (z : Int) (u : Value) (W : List B8), i = .int .i64 z ∧ z ≤ (m : Int) - 1 ∧ (m : Int) - 1 ≤ z ∧ m ≤ k ∧ W ++ beN m n = xs ++ numB n ∧ PenAt wr p B u W ∧ PenStep w' wr p v u) (fun i _ => (intOf i + 1).toNat)
  case atStart => exact ⟨k, _, _, xs ++ [BitVec.ofNat 8 k], rfl, by omega, by omega, Nat.le_refl _, by rw [HN.out]; simp, HPS.1, HPS.2⟩
  case round =>
    clear HPS
    obtain ⟨m, z, u, W, rfl, hz1', hz2', hmk, hW, hP, hS⟩ := hrel
    have hWl : W.length + m = xs.length + 1 + k := by
      have := congrArg List.length hW
      rw [HN.out] at this
      simp [beN_len] at this; omega
    have HW := Lib.hid hW
    have HP := Lib.hid hP
    have HS := Lib.hid hS
    clear hW hP hS
    by_cases h0 : m = 0
    · subst h0
      obtain rfl : z = -1 := by omega
      have hW := HW.out
      rw [beN, List.append_nil] at hW
      subst hW
      go_wp2
      first | go_end0 | refine bodyPost_ret (results_none rfl _ _ _) rfl ?_
      exact ⟨rfl, _, HP.out, HS.out⟩
    · obtain ⟨q, rfl⟩ : ∃ q, m = q + 1 := ⟨m - 1, by omega⟩
      obtain rfl : z = (q : Int) := by omega
      have hq8 : (8 * (q : Int)).toNat = 8 * q := by omega
      obtain ⟨c0, z0⟩ := HP.out.cell
      have hwr : IntKind.i64.wrap (8 * (q : Int)) = 8 * (q : Int) := IntWalk.i64_in _ (by omega)
      obtain ⟨y, hyy⟩ : ∃ y, y = BitVec.ofNat 8 (n / 256 ^ q) := ⟨_, rfl⟩
      have hy : IntKind.u8.wrap ((n : Int) / 2 ^ (8 * q)) = (y.toNat : Int) := by
        rw [IntKind.wrap_u8, hyy, BitVec.toNat_ofNat, show (2 : Int) ^ (8 * q) = ((256 ^ q : Nat) : Int) by rw [Int.natCast_pow, Int.pow_mul]; rfl]
        omega
      have HY := Lib.hid hyy
      have hl9 : B ≤ wr.heap.size + 1 := by have := HP.out.2.2.2; omega
      have hn9 : W.length + 1 ≤ maxLen := by unfold maxLen; omega
      have HN9 := Lib.hid hn9
      have HO := Lib.hid HP.out.2.1
      have c6 : ∀ o, (wr.alloc o).cell? ⟨p, 0, none⟩ = some u := fun o => (World.cell?_of_block (w := wr) (Below.heap_alloc wr o p (lt_of_block HP.out.1))).trans c0
      clear hyy hn9
      go_wp2
      go_region_law ((refine step_append_lies _ (by rfl) _ _ _ (by rfl) B 5 i0 _ 1 1 Try.underlying42 hi hz0 hz1 hz2 rfl (by omega) u W.length (W.map bv) (by rfl) ((HO.out.alloc _).drew) ⟨wr.heap.size, 0, none⟩ 1 1 [bv y] (by rfl) (by rfl) (World.news_of_block (cs := #[bv y]) (t := 5) (fr := (0, 0)) (heap_alloc_new wr _)) (bv_one [y]) (by omega) HN9.out (by omega) (by simpa using hl9) (wr.heap.size + 1) (by simp) ?_; intro gg cap w5 hown5 hgrow5 hat5 hlt5; have HPS5 := Lib.hid (pen_store (ys := [y]) HP.out (((Turn.refl _ wr).alloc (.cells #[bv y] 5)).drew) hown5 hgrow5 (hat5.imp (fun e => e.symm) (fun e => ⟨gg, rfl, by omega⟩))); have c5 := pen_cell HP.out (((Turn.refl _ wr).alloc (.cells #[bv y] 5)).drew) hgrow5; obtain ⟨c5, z5⟩ := c5; clear hown5 hgrow5 hat5))
      all_goals
        go_wp2
        go_roundw
        case rel =>
          refine ⟨q, _, _, W ++ [y], rfl, by omega, by omega, by omega, ?_, HPS5.out.1, HS.out.trans HPS5.out.2⟩
          rw [← HW.out, HY.out]; simp [beN]
        case measure => simp [intOf]
end Go.Proofs.Ytmkpoodhhpfgpaa
