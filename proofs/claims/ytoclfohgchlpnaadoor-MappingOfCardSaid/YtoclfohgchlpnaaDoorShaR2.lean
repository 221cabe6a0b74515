/- The contract of the document's 'Long': a length as four bytes, and the bytes. -/
import Derived.Test.YtoclfohgchlpnaaDoorShaR0
import Derived.Laws.AppendOwnNone
import Derived.Deep.Cut
namespace Go.Proofs.YtoclfohgchlpnaaDoor
open Go.RowKit

set_option maxRecDepth 100000 in
theorem wpList_append_any {P : Program} {w : World} {ops : Array Oper} {rest : List Oper} {o : Oper} {a : Act} {Q : Exit → Act → World → Prop} (hgd : o.guard = none) (s x : Operand) (t : TypeId)
    (ho : o.op = .call { callee := .builtin .append, args := #[s, x], argTypes := #[t, t] })
    (base : Nat) (e : TypeId) (i : TypeInfo) (z : Value) (bytes : Nat) (ht : P.underlying t = some (.slice e)) (hi : P.info? e = some i) (hz : i.zero = some z)
    (hsize : i.size = 1) (hby : i.bytes = bytes) (hzs : z.cells.size = 1)
    (v : Value) (n : Nat) (xs : List Value) (hs : a.eval s = v) (hown : w.ownsRow base e 1 v n xs)
    (A : Option Addr) (m c : Nat) (news : List Value) (hx : a.eval x = .slice A m c) (hA : A = none → c = 0) (hl : news.length = m) (hnews : ∀ (j : Nat) (u : Value), news[j]? = some u → ∃ ad, A = some ad ∧ w.cell? (ad.add j) = some u) (h1 : ∀ u ∈ news, u.oneCell' = true)
    (h63 : n + m ≤ maxLen) (hbytes : (n + m) * bytes ≤ 140737488355328) (hbase : base ≤ w.heap.size)
    (h : ∀ v' w', w'.ownsRow base e 1 v' (n + m) (xs ++ news) → w.grownBy w' v.ownBlock → wpList P ops Q rest (a.put o.dst v') w') : wpList P ops Q (o :: rest) a w := by
  cases A with
  | none =>
    obtain rfl := hA rfl
    have hn : news = [] := by
      cases news with
      | nil => rfl
      | cons u l => obtain ⟨ad, e, _⟩ := hnews 0 u rfl; cases e
    subst hn
    obtain rfl : m = 0 := by simpa using hl.symm
    refine wpList_append_own_none hgd s x t ho base e i 1 ht hi v n xs hs hown hx ?_
    exact h v w (by simpa using hown) (grown_refl _ _)
  | some ad =>
    refine wpList_append_own w hgd s x t ho base e i z 1 bytes ht hi hz hsize hby hzs (by decide) v n xs hs hown ad m c news hx (by omega) (fun j u hu => ?_) h1 h63 hbytes hbase (fun v' w' h2 h3 _ => h v' w' h2 h3)
    obtain ⟨ad', e, hc⟩ := hnews j u hu
    injection e with e; subst e; exact hc
set_option maxRecDepth 100000 in
theorem bv_one (l : List B8) : ∀ u ∈ l.map bv, u.oneCell' = true := by
  intro u hu; simp only [List.mem_map] at hu; obtain ⟨q, _, rfl⟩ := hu; rfl
set_option maxRecDepth 100000 in
theorem own_new (w : World) (B : Nat) (e : TypeId) (cs : List Value) (n : Nat) (hn : cs.length = n) (hB : B ≤ w.heap.size) (hm : n ≤ maxLen) : (w.alloc (.cells cs.toArray e)).ownsRow B e 1 (.slice (some ⟨w.heap.size, 0, none⟩) n n) n cs := by
  refine ⟨by omega, .inr ⟨w.heap.size, n, cs.toArray, rfl, hB, heap_alloc_new _ _, Nat.le_refl _, hm, by simp [hn], ?_⟩⟩
  rw [List.take_of_length_le (by simp; omega)]
set_option maxRecDepth 100000 in
theorem four_eq (n : Nat) : [Value.int .u8 ((n : Int) / 16777216 % 256), .int .u8 ((n : Int) / 65536 % 256), .int .u8 ((n : Int) / 256 % 256), .int .u8 ((n : Int) % 256)] = (wb (BitVec.ofNat 32 n)).map bv := by
  have h : ∀ k : Nat, (((BitVec.ofNat 32 n) >>> k).setWidth 8).toNat = n % 4294967296 / 2 ^ k % 256 := fun k => by
    simp [Nat.shiftRight_eq_div_pow]
  have h0 : ((BitVec.ofNat 32 n).setWidth 8).toNat = n % 256 := by simp
  simp only [wb, List.map_cons, List.map_nil, bv, h, h0]
  congr 1
  · congr 1; omega
  congr 1
  · congr 1; omega
  congr 1
  · congr 1; omega
set_option maxRecDepth 100000 in
theorem long_any (A : Option Addr) (c : Nat) (b : List B8) (w : World) (hb : Bts w A b) (hA : A = none → c = 0) (hlen : b.length ≤ 1099511627000) :
    Calls Tryd.prog 23 #[.slice A b.length c] w fun e w' => ∃ v, e = .returned v ∧ w'.ownsRow w.heap.size 5 1 v (4 + b.length) ((longB b).map bv) ∧ Below w.heap.size w w' := by
  obtain ⟨i0, hi, hz0, hz1, hz2⟩ := info_parts info_u8
  have HA := Lib.hid hA
  have Hb := Lib.hid hb
  clear hA hb
  go_enter Tryd.func23, Tryd.ntmps23
  go_upto_region 2 with fail
  go_step
  iterate 39 go_step
  have ho := own_new w w.heap.size 5 [Value.int .u8 ((b.length : Int) / 16777216 % 256), .int .u8 ((b.length : Int) / 65536 % 256), .int .u8 ((b.length : Int) / 256 % 256), .int .u8 ((b.length : Int) % 256)] 4 rfl (Nat.le_refl _) (by unfold maxLen; omega)
  have hb1 : Below w.heap.size w (w.alloc (.cells [Value.int .u8 ((b.length : Int) / 16777216 % 256), .int .u8 ((b.length : Int) / 65536 % 256), .int .u8 ((b.length : Int) / 256 % 256), .int .u8 ((b.length : Int) % 256)].toArray 5)) := (Below.refl _ _).alloc (Nat.le_refl _) _
  refine wpList_append_any (o := ⟨some 19, _, _, _, _, _⟩) rfl _ _ 52 rfl w.heap.size 5 i0 (.int .u8 0) 1 Tryd.underlying52 hi hz0 hz1 hz2 rfl _ 4 _ rfl ho A b.length c (b.map bv) rfl HA.out (List.length_map ..) (Hb.out.below hb1) (bv_one b) ?_ ?_ ?_ ?_
  · unfold maxLen; omega
  · omega
  · simp
  intro v1 w1 g1 g2
  have HO := Lib.hid (show w1.ownsRow w.heap.size 5 1 v1 (4 + b.length) ((longB b).map bv) by
    rw [longB, List.map_append, ← four_eq]; exact g1)
  have HB := Lib.hid (show Below w.heap.size w w1 from hb1.grown g2 (by simp) (fun k hk => (ho.lt k hk).1))
  clear g1 g2 ho hb1
  go_wp2_with fail
  go_ret
  exact ⟨v1, rfl, HO.out, HB.out⟩
end Go.Proofs.YtoclfohgchlpnaaDoor
