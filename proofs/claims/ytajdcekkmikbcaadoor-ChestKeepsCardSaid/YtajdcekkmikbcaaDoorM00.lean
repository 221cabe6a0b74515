/- Merged: SHA-256 as plain functions on words of 32 bits, bytes of 8: what both texts (the program's, the document's) are held against. No program is named here. What each law's proof wants besides its walk: the law's row out of 'true is returned, and below the old heap nothing has turned'; slices that came in, read as lists. No program is named here. -/
import Derived.Below
import Derived.Laws.Entries
import Derived.Laws.BitsLemmas
import Derived.KernelRfl
import Derived.Carry
import Derived.ChangeSame
import Derived.ChangeSlices
import Derived.OpenShut
import Derived.ProofKit
namespace Go.Proofs.YtajdcekkmikbcaaDoor
section

open Go.RowKit

abbrev W := BitVec 32
abbrev B8 := BitVec 8
def rotr (x : W) (n : Nat) : W := (x >>> n) ||| (x <<< (32 - n))
def ss0 (x : W) : W := rotr x 7 ^^^ rotr x 18 ^^^ (x >>> 3)
def ss1 (x : W) : W := rotr x 17 ^^^ rotr x 19 ^^^ (x >>> 10)
def bs0 (x : W) : W := rotr x 2 ^^^ rotr x 13 ^^^ rotr x 22
def bs1 (x : W) : W := rotr x 6 ^^^ rotr x 11 ^^^ rotr x 25
def chW (e f g : W) : W := (e &&& f) ^^^ ((~~~e) &&& g)
def majW (a b c : W) : W := (a &&& b) ^^^ (a &&& c) ^^^ (b &&& c)
def t1W (e f g h k w : W) : W := h + bs1 e + chW e f g + k + w
def t2W (a b c : W) : W := bs0 a + majW a b c
structure V8 where
  a : W
  b : W
  c : W
  d : W
  e : W
  f : W
  g : W
  h : W
def V8.list (v : V8) : List W := [v.a, v.b, v.c, v.d, v.e, v.f, v.g, v.h]
def V8.step (v : V8) (k w : W) : V8 := ⟨t1W v.e v.f v.g v.h k w + t2W v.a v.b v.c, v.a, v.b, v.c, v.d + t1W v.e v.f v.g v.h k w, v.e, v.f, v.g⟩
def V8.run (K M : List W) (v : V8) : Nat → V8
  | 0 => v
  | n + 1 => (V8.run K M v n).step (K.getD n 0) (M.getD n 0)
def V8.add (v u : V8) : V8 := ⟨v.a + u.a, v.b + u.b, v.c + u.c, v.d + u.d, v.e + u.e, v.f + u.f, v.g + u.g, v.h + u.h⟩
def be4 (a b c d : B8) : W := (a.setWidth 32 <<< 24) ||| (b.setWidth 32 <<< 16) ||| (c.setWidth 32 <<< 8) ||| d.setWidth 32
def wordAt (m : List B8) (i : Nat) : W := be4 (m.getD (4 * i) 0) (m.getD (4 * i + 1) 0) (m.getD (4 * i + 2) 0) (m.getD (4 * i + 3) 0)
def nextW (l : List W) (n : Nat) : W := l.getD (n - 16) 0 + ss0 (l.getD (n - 15) 0) + l.getD (n - 7) 0 + ss1 (l.getD (n - 2) 0)
def sch (m : List B8) : Nat → List W
  | 0 => []
  | n + 1 => sch m n ++ [if n < 16 then wordAt m n else nextW (sch m n) n]
def comp (K : List W) (v : V8) (m : List B8) : V8 := v.add (V8.run K (sch m 64) v 64)
def absorb (K : List W) (v : V8) (m : List B8) : Nat → V8
  | 0 => v
  | n + 1 => comp K (absorb K v m n) ((m.drop (64 * n)).take 64)
def be8 (n : Nat) : List B8 := (List.range 8).map fun i => BitVec.ofNat 8 (n / 2 ^ (8 * (7 - i)))
def zeros (n : Nat) : List B8 := List.replicate n 0
def pad (m : List B8) : List B8 := m ++ [128] ++ zeros ((119 - m.length % 64) % 64) ++ be8 (8 * m.length)
def wb (x : W) : List B8 := [(x >>> 24).setWidth 8, (x >>> 16).setWidth 8, (x >>> 8).setWidth 8, x.setWidth 8]
def V8.bytes (v : V8) : List B8 := v.list.flatMap wb
def digK (K : List W) (v : V8) (m : List B8) : List B8 := (absorb K v (pad m) ((pad m).length / 64)).bytes
def K64 : List W := [1116352408, 1899447441, 3049323471, 3921009573, 961987163, 1508970993, 2453635748, 2870763221, 3624381080, 310598401, 607225278, 1426881987, 1925078388, 2162078206, 2614888103, 3248222580,
  3835390401, 4022224774, 264347078, 604807628, 770255983, 1249150122, 1555081692, 1996064986, 2554220882, 2821834349, 2952996808, 3210313671, 3336571891, 3584528711, 113926993, 338241895,
  666307205, 773529912, 1294757372, 1396182291, 1695183700, 1986661051, 2177026350, 2456956037, 2730485921, 2820302411, 3259730800, 3345764771, 3516065817, 3600352804, 4094571909, 275423344,
  430227734, 506948616, 659060556, 883997877, 958139571, 1322822218, 1537002063, 1747873779, 1955562222, 2024104815, 2227730452, 2361852424, 2428436474, 2756734187, 3204031479, 3329325298]
def H8 : V8 := ⟨1779033703, 3144134277, 1013904242, 2773480762, 1359893119, 2600822924, 528734635, 1541459225⟩
def dig (m : List B8) : List B8 := digK K64 H8 m

/- Words in the model's spelling. -/
def wv (x : W) : Value := .int .u32 ((x.toNat : Nat) : Int)
def bv (x : B8) : Value := .int .u8 ((x.toNat : Nat) : Int)
theorem wadd (x y : W) : ((x.toNat : Int) + y.toNat) % 4294967296 = ((x + y).toNat : Int) := by rw [BitVec.toNat_add]; omega
theorem bits_of (k : IntKind) (hs : ∀ n : Int, 0 ≤ n → n < 2 ^ k.bits → k.wrap n = n) (a b : BitVec k.bits) :
    bits .and k a.toNat b.toNat = ((a &&& b).toNat : Int) ∧ bits .or k a.toNat b.toNat = ((a ||| b).toNat : Int) ∧ bits .xor k a.toNat b.toNat = ((a ^^^ b).toNat : Int) := by
  have e : ∀ x : BitVec k.bits, BitVec.ofInt k.bits (x.toNat : Int) = x := fun x => by rw [BitVec.ofInt_natCast, BitVec.ofNat_toNat, BitVec.setWidth_eq]
  have h : ∀ x : BitVec k.bits, k.wrap (x.toNat : Int) = x.toNat := fun x => hs _ (Int.natCast_nonneg _) (by have := x.isLt; exact_mod_cast this)
  refine ⟨?_, ?_, ?_⟩ <;> simp only [bits, e, h]
theorem wbits (a b : W) : bits .and .u32 a.toNat b.toNat = ((a &&& b).toNat : Int) ∧ bits .or .u32 a.toNat b.toNat = ((a ||| b).toNat : Int) ∧ bits .xor .u32 a.toNat b.toNat = ((a ^^^ b).toNat : Int) :=
  bits_of .u32 (fun n h0 h1 => by rw [IntKind.wrap_u32]; simp [IntKind.bits] at h1; omega) a b
theorem wand (a b : W) : bits .and .u32 a.toNat b.toNat = ((a &&& b).toNat : Int) := (wbits a b).1
theorem wor (a b : W) : bits .or .u32 a.toNat b.toNat = ((a ||| b).toNat : Int) := (wbits a b).2.1
theorem wxor (a b : W) : bits .xor .u32 a.toNat b.toNat = ((a ^^^ b).toNat : Int) := (wbits a b).2.2
theorem wshr (x : W) (n : Nat) : (x.toNat : Int) / 2 ^ n = ((x >>> n).toNat : Int) := by
  rw [BitVec.toNat_ushiftRight, Nat.shiftRight_eq_div_pow, Int.natCast_ediv, Int.natCast_pow]; rfl
theorem wshl (x : W) (n : Nat) : ((x.toNat : Int) * 2 ^ n) % 4294967296 = ((x <<< n).toNat : Int) := by
  rw [BitVec.toNat_shiftLeft, Nat.shiftLeft_eq, Int.natCast_emod, Int.natCast_mul, Int.natCast_pow]; rfl
theorem wnot (x : W) : (4294967295 : Int) - x.toNat = ((~~~x).toNat : Int) := by
  rw [BitVec.toNat_not]; have := x.isLt; omega
theorem wset (x : B8) : (x.toNat : Int) = ((x.setWidth 32).toNat : Int) := by
  rw [BitVec.toNat_setWidth]; have := x.isLt; omega
theorem wlow (x : W) : (x.toNat : Int) % 256 = ((x.setWidth 8).toNat : Int) := by
  rw [BitVec.toNat_setWidth]; omega
theorem wlow' (x : W) (h : x.toNat < 256) : (x.toNat : Int) = ((x.setWidth 8).toNat : Int) := by
  rw [BitVec.toNat_setWidth]; omega
theorem rotr_l (x : W) (n : Nat) : (x <<< (32 - n)) ||| (x >>> n) = rotr x n := BitVec.or_comm _ _

theorem sch_len (m : List B8) (n : Nat) : (sch m n).length = n := by
  induction n with
  | zero => rfl
  | succ n ih => simp [sch, ih]
theorem absorb_append (K : List W) (v : V8) (m x : List B8) (n : Nat) (h : 64 * n ≤ m.length) : absorb K v (m ++ x) n = absorb K v m n := by
  induction n with
  | zero => rfl
  | succ n ih =>
    simp only [absorb]
    rw [ih (by omega), List.drop_append_of_le_length (by omega), List.take_append_of_le_length (by simp; omega)]
theorem pad_len (m : List B8) : (pad m).length % 64 = 0 := by
  simp [pad, zeros, be8]; omega
end
section

open Go.ChangeShapes Go.WideShapes Go.ChangeAt Go.RowKit

section
variable {H : Type} {enc : TypeId × Value → H} {P : Program}

theorem trodAll_below (hl : laidOutB P = true) {W W' : World} (hb : Below W.heap.size W W') : ∀ (ts : List TypeId) (vs : List Value) (ds : List (DataW H)) (ps : List MemPlace),
    (∀ t ∈ ts, P.readableRec t = true ∧ t < P.types.size) → DataW.TrodAll enc P W 0 (fun _ => true) true ts vs ds ps → (∀ x ∈ ps, x.block < W.heap.size) →
    DataW.TrodAll enc P W' 0 (fun b => decide (b < W.heap.size)) true ts vs ds ps
  | [], vs, ds, ps, _, h, _ => by
    obtain ⟨rfl, rfl, rfl⟩ := trodAll_nil h
    exact trodAll_mk0
  | t :: ts, vs, ds, ps, hr, h, hlt => by
    obtain ⟨v, vs', d, ds', p, q, rfl, rfl, rfl, h0, r0⟩ := trodAll_cons h
    exact trodAll_cons_mk (Below.trod hl (hr t (by simp)).1 (hr t (by simp)).2 h0 hb (fun x hx => hlt x (by simp [hx])))
      (trodAll_below hl hb ts vs' ds' q (fun u hu => hr u (by simp [hu])) r0 (fun x hx => hlt x (by simp [hx])))

theorem law_post {f : Func} {s : ChangeSpec} {W W' : World} {args : Array Value} {ds gs : List (DataW H)} {before : List MemPlace} {tb : TypeId}
    (hW : DataW.Whole enc P f.params.toList s.vars false W args.toList ds gs before) (hb : Below W.heap.size W W')
    (hl : laidOutB P = true) (hr : ∀ t ∈ f.params.toList, P.readableRec t = true ∧ t < P.types.size) (hrt : f.resultTypes = #[tb]) (htb : P.underlying tb = some .bool)
    (hv : s.vars = []) (hfa : (s.fn H (ds ++ gs)).args = ds) (hfr : (s.fn H (ds ++ gs)).results = [.lit (.bool true)]) (hfv : (s.fn H (ds ++ gs)).vars = gs) :
    s.post enc P f false true false false W args (.bool true) W' := by
  have hlt : ∀ p ∈ before, p.block < W.heap.size := fun p hp => hW.lt p hp
  obtain ⟨p, q, hA, hV, hpq, hz, hn⟩ := id hW
  refine ⟨ds, gs, before, [], p, q, hW, ?_, ?_, ?_, hb.frame _, fun h => by cases h⟩
  · rw [hrt, hfr]
    exact trodAll_cons_mk (shut_bool htb _) trodAll_mk0
  · rw [hfa]
    exact trodAll_below hl hb _ _ _ _ hr hA (fun x hx => hlt x (by rw [hpq]; simp [hx]))
  · rw [hfv]
    rw [hv] at hV ⊢
    obtain ⟨rfl, rfl⟩ := trodVars_none hV
    exact hV
end

/-- The slice's cells, read as a list of values; nil and empty ones too; all its memory is below block B. -/
def Sl (w : World) (B : Nat) (A : Option Addr) (xs : List Value) : Prop := ∀ j u, xs[j]? = some u → ∃ ad, A = some ad ∧ ad.block < B ∧ w.cell? (ad.add j) = some u
theorem add_block (a : Addr) (n : Nat) : (a.add n).block = a.block := by unfold Addr.add; split <;> rfl
theorem add_add (a : Addr) (i j : Nat) : (a.add i).add j = a.add (i + j) := by
  unfold Addr.add
  by_cases hi : i = 0 <;> by_cases hj : j = 0 <;> simp [hi, hj, Nat.add_assoc]
section
variable {w w' : World} {B B' : Nat} {A : Option Addr} {xs : List Value}
theorem Sl.none (w : World) (B : Nat) (A : Option Addr) : Sl w B A [] := fun j u h => by simp at h
theorem Sl.at (h : Sl w B A xs) {k : Nat} {u : Value} (hk : xs[k]? = some u) : ∃ ad, A = some ad ∧ ad.block < B ∧ w.cell? (ad.add k) = some u := h k u hk
theorem Sl.keep (h : Sl w B A xs) (hk : ∀ p : Addr, p.block < B → w'.cell? p = w.cell? p) : Sl w' B A xs := fun j u hu => by
  obtain ⟨ad, e, hb, hc⟩ := h j u hu
  exact ⟨ad, e, hb, (hk _ (by rw [add_block]; exact hb)).trans hc⟩
theorem Sl.below (h : Sl w B A xs) (hb : Below B w w') : Sl w' B A xs := h.keep fun _ hp => hb.cell hp
theorem Sl.more (h : Sl w B A xs) (hB : B ≤ B') : Sl w B' A xs := fun j u hu => by
  obtain ⟨ad, e, hb, hc⟩ := h j u hu
  exact ⟨ad, e, by omega, hc⟩
theorem Sl.of_own {base n : Nat} {e : TypeId} {v : Value} (h : w.ownsRow base e 1 v n xs) : ∃ A c, v = .slice A n c ∧ Sl w w.heap.size A xs ∧ xs.length = n := by
  have hl : xs.length = n := by have := h.1; omega
  rcases h.2 with ⟨rfl, rfl⟩ | ⟨g, cap, cur, rfl, hg, hh, _⟩
  · obtain rfl : xs = [] := List.eq_nil_of_length_eq_zero hl
    exact ⟨_, _, rfl, Sl.none _ _ _, rfl⟩
  · refine ⟨_, _, rfl, fun j u hu => ⟨_, rfl, ?_, h.cells rfl j u hu⟩, hl⟩
    rcases Nat.lt_or_ge g w.heap.size with hlt | hge
    · exact hlt
    · rw [Array.getElem?_eq_none hge] at hh; cases hh
end
end
end Go.Proofs.YtajdcekkmikbcaaDoor
