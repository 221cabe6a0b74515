/- The contract of the document's 'Put'. -/
import Derived.Test.YtjfjminfpdgcmaaFwB
import Derived.Deep.RegionLaw
set_option linter.unusedVariables false
namespace Go.Proofs.Ytjfjminfpdgcmaa
open Go.RowKit
theorem step_append_any_at {P : Program} {w : World} {ops : Array Oper} {o : Oper} {a : Act} {K : Act → World → Prop} {Q : Exit → Act → World → Prop} {E : Prop} (hgd : o.guard = none) (s x : Operand) (t : TypeId)
    (ho : o.op = .call { callee := .builtin .append, args := #[s, x], argTypes := #[t, t] })
    (base : Nat) (e : TypeId) (i : TypeInfo) (z : Value) (bytes : Nat) (ht : P.underlying t = some (.slice e)) (hi : P.info? e = some i) (hz : i.zero = some z)
    (hsize : i.size = 1) (hby : i.bytes = bytes) (hzs : z.cells.size = 1)
    (v : Value) (n : Nat) (xs : List Value) (hs : a.eval s = v) (hown : w.ownsRow base e 1 v n xs)
    (A : Option Addr) (m c : Nat) (news : List Value) (hx : a.eval x = .slice A m c) (hA : A = none → c = 0) (hl : news.length = m) (hnews : ∀ (j : Nat) (u : Value), news[j]? = some u → ∃ ad, A = some ad ∧ w.cell? (ad.add j) = some u) (h1 : ∀ u ∈ news, u.oneCell' = true)
    (h63 : n + m ≤ maxLen) (hbytes : (n + m) * bytes ≤ 140737488355328) (hbase : base ≤ w.heap.size)
    (h : ∀ v' w', w'.ownsRow base e 1 v' (n + m) (xs ++ news) → w.grownBy w' v.ownBlock → (v'.ownBlock = v.ownBlock ∨ v'.ownBlock = some w.heap.size) → K (a.put o.dst v') w') :
    if Region.wanted o (yielded ops a.tmps) = true then Oper.wp P o a w K Q else E := by
  have hw : Region.wanted o (yielded ops a.tmps) = true := by simp [Region.wanted, hgd]
  rw [if_pos hw]
  cases A with
  | none =>
    obtain rfl := hA rfl
    have hn : news = [] := by
      cases news with
      | nil => rfl
      | cons u l => obtain ⟨ad, e, _⟩ := hnews 0 u rfl; cases e
    subst hn
    obtain rfl : m = 0 := by simpa using hl.symm
    have hrun := run_append_owned_none (P := P) (w := w) base t o.type e i 1 ht hi v n xs hown
    unfold Oper.wp
    simp [execOp, ho, resolve, invoke, builtin, hs, hx, hrun, Result.andThen]
    exact h v w (by simpa using hown) ⟨rfl, rfl, rfl, Nat.le_refl _, fun _ _ _ => rfl⟩ (.inl rfl)
  | some ad =>
    obtain ⟨v', w', hr, h2, h3, h4, h5⟩ := run_append_own_at (P := P) w base t o.type e i z 1 bytes ht hi hz hsize hby hzs (by decide) v n xs hown ad m c news (by omega) (fun j u hu => by
      obtain ⟨ad', e, hc⟩ := hnews j u hu
      injection e with e; subst e; exact hc) h1 h63 hbytes hbase
    unfold Oper.wp execOp
    simp only [ho, resolve, invoke, builtin, Sem.run_bind, Sem.run_pure, Result.andThen_ok, List.map_toArray, List.map_cons, List.map_nil, hs, hx, hr]
    exact h v' w' h2 h3 h5
def putB (f : Fd) : List B8 := if f.k = 0 then numB f.n else if f.k = 1 then numB f.b.length ++ f.b else f.d
theorem put0 (f : Fd) (w : World) (hk : f.k = 0) (hn : f.n < 18446744073709551616) (hd : f.d.length = 32) :
    Calls Try.prog 9 #[.agg f.cells.toArray] w fun e w' => ∃ v, e = .returned v ∧ w'.ownsRow w.heap.size 5 1 v (putB f).length ((putB f).map bv) ∧ Turn (fun _ => False) w w' := by
  have hp : putB f = numB f.n := by rw [putB, if_pos hk]
  rw [hp]
  obtain ⟨C, hC⟩ : ∃ C, C = f.cells.toArray := ⟨_, rfl⟩
  have g1 := heap_alloc_new w (.cells C 31)
  have c0 : (w.alloc (.cells C 31)).cell? ⟨w.heap.size, 0, none⟩ = some (.int .i64 0) := by rw [cell_of_row _ _ _ _ _ _ g1, hC]; simp [Fd.cells, hk]
  have c1 : (w.alloc (.cells C 31)).cell? ⟨w.heap.size, 1, none⟩ = some (.int .u64 (f.n : Int)) := by rw [cell_of_row _ _ _ _ _ _ g1, hC]; simp [Fd.cells]
  rw [← hC]
  have T := Lib.hid (fun w => rnum_any f.n w hn)
  have T0 := Lib.hid ((Turn.refl (fun _ => False) w).alloc (.cells C 31))
  have S0 := Lib.hid (show w.heap.size ≤ (w.alloc (.cells C 31)).heap.size by simp)
  clear hC g1 hp
  go_enter Try.func9, Try.ntmps9
  go_wp2_with (go_at_call 22; refine (T.out _).mono ?_; rintro r w1 ⟨v1, rfl, ho1, ht1⟩; have HO1 := Lib.hid ho1; have HT1 := Lib.hid ht1; clear ho1 ht1)
  go_ret
  exact ⟨v1, rfl, own_more HO1.out S0.out, T0.out.trans HT1.out (fun _ _ h => h)⟩
set_option maxHeartbeats 1000000 in
theorem put1 (f : Fd) (w : World) (hk : f.k = 1) (hok : f.ok w w.heap.size) (hb : f.b.length ≤ 1000) :
    Calls Try.prog 9 #[.agg f.cells.toArray] w fun e w' => ∃ v, e = .returned v ∧ w'.ownsRow w.heap.size 5 1 v (putB f).length ((putB f).map bv) ∧ Turn (fun _ => False) w w' := by
  obtain ⟨i0, hi, hz0, hz1, hz2⟩ := info_parts info_u8
  have hp : putB f = numB f.b.length ++ f.b := by rw [putB, if_neg (by omega), if_pos hk]
  rw [hp]
  obtain ⟨C, hC⟩ : ∃ C, C = f.cells.toArray := ⟨_, rfl⟩
  have g1 := heap_alloc_new w (.cells C 31)
  have c0 : (w.alloc (.cells C 31)).cell? ⟨w.heap.size, 0, none⟩ = some (.int .i64 1) := by rw [cell_of_row _ _ _ _ _ _ g1, hC]; simp [Fd.cells, hk]
  have c2 : (w.alloc (.cells C 31)).cell? ⟨w.heap.size, 2, none⟩ = some (.slice f.A f.b.length f.c) := by rw [cell_of_row _ _ _ _ _ _ g1, hC]; simp [Fd.cells]
  rw [← hC]
  have T := Lib.hid (fun w => rnum_any f.b.length w (by omega))
  have hs := hok.s
  have hA := hok.a
  have T0 := Lib.hid ((Turn.refl (fun _ => False) w).alloc (.cells C 31))
  have HS := Lib.hid hs
  have hnl := numB_le (n := f.b.length) (by omega)
  have hb64 : f.b.length < 9223372036854775808 := by omega
  have hw64 : IntKind.u64.wrap (f.b.length : Int) = (f.b.length : Int) := by rw [IntKind.wrap_u64]; omega
  have h63 : (numB f.b.length).length + f.b.length ≤ maxLen := by unfold maxLen; omega
  have hby : ((numB f.b.length).length + f.b.length) * 1 ≤ 140737488355328 := by omega
  have H63 := Lib.hid h63
  have HBY := Lib.hid hby
  clear hC g1 hp hk hok hs h63 hby
  have S0 : w.heap.size ≤ (w.alloc (.cells C 31)).heap.size := by simp
  go_enter Try.func9, Try.ntmps9
  go_wp2_with fail
  generalize w.alloc (.cells C 31) = w2 at *
  go_region_law (first
    | (refine step_enter rfl 22 #[.int .u64 (f.b.length : Int)] (by go_simp) ?_; refine (T.out _).mono ?_; rintro r w1 ⟨v1, rfl, ho1, ht1⟩; have HO1 := Lib.hid ho1; have HT1 := Lib.hid ht1; have c3 := ht1.cell c2 (fun h => h); have hb3 := Lib.hid (fun (j : Nat) (u : Value) (hu : (f.b.map bv)[j]? = some u) => show ∃ ad, f.A = some ad ∧ w1.cell? (ad.add j) = some u from (HS.out j u hu).elim fun ad h => ⟨ad, h.1, ht1.cell (T0.out.cell h.2.2 (fun h => h)) (fun h => h)⟩); have S1 := Lib.hid (Nat.le_trans S0 ht1.size); clear ho1 ht1)
    | (refine step_append_any_at rfl _ _ 24 rfl w.heap.size 5 i0 (.int .u8 0) 1 Try.underlying24 hi hz0 hz1 hz2 rfl v1 (numB f.b.length).length ((numB f.b.length).map bv) rfl (own_more HO1.out S0) f.A f.b.length f.c (f.b.map bv) rfl hA (List.length_map ..) hb3.out (bv_one f.b) H63.out HBY.out S1.out ?_; intro v5 w5 own5 gr5 at5; have HO5 := Lib.hid own5; have HG5 := Lib.hid gr5; clear own5 gr5 at5))
  all_goals
    go_wp2
    go_ret
    refine ⟨v5, rfl, by rw [List.length_append, List.map_append]; exact HO5.out, (T0.out.drew.trans HT1.out (fun _ _ h => h)).grown HG5.out (fun i hi e => ?_)⟩
    have h1 : w2.heap.size ≤ i := (HO1.out.lt i e.symm).1
    omega
set_option maxHeartbeats 1000000 in
theorem put2 (f : Fd) (w : World) (hk : f.k = 2) (hd : f.d.length = 32) :
    Calls Try.prog 9 #[.agg f.cells.toArray] w fun e w' => ∃ v, e = .returned v ∧ w'.ownsRow w.heap.size 5 1 v (putB f).length ((putB f).map bv) ∧ Turn (fun _ => False) w w' := by
  obtain ⟨i0, hi, hz0, hz1, hz2⟩ := info_parts info_u8
  have hp : putB f = f.d := by rw [putB, if_neg (by omega), if_neg (by omega)]
  rw [hp]
  obtain ⟨C, hC⟩ : ∃ C, C = f.cells.toArray := ⟨_, rfl⟩
  have g1 := heap_alloc_new w (.cells C 31)
  have c0 : (w.alloc (.cells C 31)).cell? ⟨w.heap.size, 0, none⟩ = some (.int .i64 2) := by rw [cell_of_row _ _ _ _ _ _ g1, hC]; simp [Fd.cells, hk]
  have c3 : ∀ i (h : i < f.d.length), (w.alloc (.cells C 31)).cell? ⟨w.heap.size, 3 + i, none⟩ = some (bv f.d[i]) := fun i h => by
    rw [cell_of_row _ _ _ _ _ _ g1, hC]
    simp only [Fd.cells, List.getElem?_toArray]
    rw [List.getElem?_append_right (by simp)]
    simp [h]
  rw [← hC]
  have C3 := Lib.hid c3
  have T0 := Lib.hid ((Turn.refl (fun _ => False) w).alloc (.cells C 31))
  have HD := Lib.hid hd
  have S0 := Lib.hid (show w.heap.size + 1 = (w.alloc (.cells C 31)).heap.size by simp)
  clear hC g1 hp hk c3 hd
  go_enter Try.func9, Try.ntmps9
  go_wp2_with fail
  generalize w.alloc (.cells C 31) = w2 at *
  go_loopw [3, 4] (fun v i wr => ∃ k : Nat, k ≤ 32 ∧ i = .int .i64 k ∧ wr.ownsRow (w.heap.size + 1) 5 1 v k ((f.d.take k).map bv) ∧ Turn (fun i => w.heap.size + 1 ≤ i) w2 wr) (fun _ i _ => 32 - (intOf i).toNat)
  case atStart => exact ⟨0, Nat.zero_le _, rfl, World.ownsRow_nil _ _ _ _, Turn.refl _ _⟩
  case round =>
    obtain ⟨k, hk, rfl, hown, ht⟩ := hrel
    by_cases hlt : k < 32
    · have hl : k < f.d.length := by rw [HD.out]; exact hlt
      have hc := ht.cell (C3.out k hl) (by simp)
      have HX := Lib.hid (show f.d.take (k + 1) = f.d.take k ++ [f.d[k]] from List.take_succ_eq_append_getElem hl)
      have HO := Lib.hid hown
      have HT := Lib.hid ht
      clear hown ht
      unfold bv at hc
      generalize f.d[k] = y at *
      go_upto_region 9 with fail
      go_step
      iterate 18 go_step
      refine wpList_append_any_at (o := ⟨some 32, _, _, _, _, _⟩) rfl _ _ 24 rfl (w.heap.size + 1) 5 i0 (.int .u8 0) 1 Try.underlying24 hi hz0 hz1 hz2 rfl u3 k _ rfl (HO.out.alloc _) (some ⟨wr.heap.size, 0, none⟩) 1 1 (([y] : List B8).map bv) rfl (fun h => by cases h) rfl ?_ (bv_one [y]) ?_ ?_ ?_ ?_
      · intro j u hu
        exact ⟨_, rfl, World.news_of_block (heap_alloc_new wr (.cells #[.int .u8 (y.toNat : Int)] 5)) j u hu⟩
      · unfold maxLen; omega
      · omega
      · have := HT.out.size; have := S0.out; simp; omega
      intro v1 w1 own1 gr1 at1
      have HO1 := Lib.hid own1
      have HT1 := Lib.hid ((HT.out.alloc (.cells #[.int .u8 (y.toNat : Int)] 5)).grown gr1 (fun i hi e => (HO.out.lt i e.symm).1))
      clear own1 gr1 at1
      go_wp2
      go_roundw
      case rel => exact ⟨k + 1, by omega, by go_num, by rw [HX.out, List.map_append]; exact HO1.out, HT1.out⟩
      case measure => simp [intOf]; omega
    · obtain rfl : k = 32 := by omega
      rw [List.take_of_length_le (by rw [HD.out]; omega)] at hown
      have HO := Lib.hid hown
      have HT := Lib.hid ht
      clear hown ht
      go_wp2
      go_ret
      exact ⟨_, rfl, by rw [HD.out]; exact own_more HO.out (by omega), T0.out.trans HT.out (fun i hi h => by omega)⟩
theorem put_any (f : Fd) (w : World) (h0 : 0 ≤ f.k) (h3 : f.k < 3) (hok : f.ok w w.heap.size) (hb : f.b.length ≤ 1000) :
    Calls Try.prog 9 #[.agg f.cells.toArray] w fun e w' => ∃ v, e = .returned v ∧ w'.ownsRow w.heap.size 5 1 v (putB f).length ((putB f).map bv) ∧ Turn (fun _ => False) w w' := by
  have hk : f.k = 0 ∨ f.k = 1 ∨ f.k = 2 := by omega
  rcases hk with hk | hk | hk
  · exact put0 f w hk hok.n hok.d
  · exact put1 f w hk hok hb
  · exact put2 f w hk hok.d
end Go.Proofs.Ytjfjminfpdgcmaa
