/- SHA-256 as plain functions on words of 32 bits, bytes of 8: what both texts (the program's, the document's) are held against. No program is named here. -/
import Derived.Below
import Derived.Laws.Entries
import Derived.Laws.BitsLemmas
import Derived.KernelRfl
namespace Go.Proofs.Ytgjplbanfnomkaa
open Go.RowKit

abbrev W := BitVec 32
abbrev B8 := BitVec 8
def rotr (x : W) (n : Nat) : W := (x >>> n) ||| (x <<< (32 - n))
def ss0 (x : W) : W := rotr x 7 ^^^ rotr x 18 ^^^ (x >>> 3)
def ss1 (x : W) : W := rotr x 17 ^^^ rotr x 19 ^^^ (x >>> 10)
def bs0 (x : W) : W := rotr x 2 ^^^ rotr x 13 ^^^ rotr x 22
def bs1 (x : W) : W := rotr x 6 ^^^ rotr x 11 ^^^ rotr x 25
def chW (e f g : W) : W := (e &&& f) ^^^ ((~~~e) &&& g)
def majW (a b c : W) : W := (a &&& b) ^^^ (a &&& c) ^^^ (b &&& c)
def t1W (e f g h k w : W) : W := h + bs1 e + chW e f g + k + w
def t2W (a b c : W) : W := bs0 a + majW a b c
structure V8 where
  a : W
  b : W
  c : W
  d : W
  e : W
  f : W
  g : W
  h : W
def V8.list (v : V8) : List W := [v.a, v.b, v.c, v.d, v.e, v.f, v.g, v.h]
def V8.step (v : V8) (k w : W) : V8 := ⟨t1W v.e v.f v.g v.h k w + t2W v.a v.b v.c, v.a, v.b, v.c, v.d + t1W v.e v.f v.g v.h k w, v.e, v.f, v.g⟩
def V8.run (K M : List W) (v : V8) : Nat → V8
  | 0 => v
  | n + 1 => (V8.run K M v n).step (K.getD n 0) (M.getD n 0)
def V8.add (v u : V8) : V8 := ⟨v.a + u.a, v.b + u.b, v.c + u.c, v.d + u.d, v.e + u.e, v.f + u.f, v.g + u.g, v.h + u.h⟩
def be4 (a b c d : B8) : W := (a.setWidth 32 <<< 24) ||| (b.setWidth 32 <<< 16) ||| (c.setWidth 32 <<< 8) ||| d.setWidth 32
def wordAt (m : List B8) (i : Nat) : W := be4 (m.getD (4 * i) 0) (m.getD (4 * i + 1) 0) (m.getD (4 * i + 2) 0) (m.getD (4 * i + 3) 0)
def nextW (l : List W) (n : Nat) : W := l.getD (n - 16) 0 + ss0 (l.getD (n - 15) 0) + l.getD (n - 7) 0 + ss1 (l.getD (n - 2) 0)
def sch (m : List B8) : Nat → List W
  | 0 => []
  | n + 1 => sch m n ++ [if n < 16 then wordAt m n else nextW (sch m n) n]
def comp (K : List W) (v : V8) (m : List B8) : V8 := v.add (V8.run K (sch m 64) v 64)
def absorb (K : List W) (v : V8) (m : List B8) : Nat → V8
  | 0 => v
  | n + 1 => comp K (absorb K v m n) ((m.drop (64 * n)).take 64)
def be8 (n : Nat) : List B8 := (List.range 8).map fun i => BitVec.ofNat 8 (n / 2 ^ (8 * (7 - i)))
def zeros (n : Nat) : List B8 := List.replicate n 0
def pad (m : List B8) : List B8 := m ++ [128] ++ zeros ((119 - m.length % 64) % 64) ++ be8 (8 * m.length)
def wb (x : W) : List B8 := [(x >>> 24).setWidth 8, (x >>> 16).setWidth 8, (x >>> 8).setWidth 8, x.setWidth 8]
def V8.bytes (v : V8) : List B8 := v.list.flatMap wb
def digK (K : List W) (v : V8) (m : List B8) : List B8 := (absorb K v (pad m) ((pad m).length / 64)).bytes
def K64 : List W := [1116352408, 1899447441, 3049323471, 3921009573, 961987163, 1508970993, 2453635748, 2870763221, 3624381080, 310598401, 607225278, 1426881987, 1925078388, 2162078206, 2614888103, 3248222580,
  3835390401, 4022224774, 264347078, 604807628, 770255983, 1249150122, 1555081692, 1996064986, 2554220882, 2821834349, 2952996808, 3210313671, 3336571891, 3584528711, 113926993, 338241895,
  666307205, 773529912, 1294757372, 1396182291, 1695183700, 1986661051, 2177026350, 2456956037, 2730485921, 2820302411, 3259730800, 3345764771, 3516065817, 3600352804, 4094571909, 275423344,
  430227734, 506948616, 659060556, 883997877, 958139571, 1322822218, 1537002063, 1747873779, 1955562222, 2024104815, 2227730452, 2361852424, 2428436474, 2756734187, 3204031479, 3329325298]
def H8 : V8 := ⟨1779033703, 3144134277, 1013904242, 2773480762, 1359893119, 2600822924, 528734635, 1541459225⟩
def dig (m : List B8) : List B8 := digK K64 H8 m

/- Words in the model's spelling. -/
def wv (x : W) : Value := .int .u32 ((x.toNat : Nat) : Int)
def bv (x : B8) : Value := .int .u8 ((x.toNat : Nat) : Int)
set_option maxRecDepth 100000 in
theorem wadd (x y : W) : ((x.toNat : Int) + y.toNat) % 4294967296 = ((x + y).toNat : Int) := by rw [BitVec.toNat_add]; omega
set_option maxRecDepth 100000 in
theorem bits_of (k : IntKind) (hs : ∀ n : Int, 0 ≤ n → n < 2 ^ k.bits → k.wrap n = n) (a b : BitVec k.bits) :
    bits .and k a.toNat b.toNat = ((a &&& b).toNat : Int) ∧ bits .or k a.toNat b.toNat = ((a ||| b).toNat : Int) ∧ bits .xor k a.toNat b.toNat = ((a ^^^ b).toNat : Int) := by
  have e : ∀ x : BitVec k.bits, BitVec.ofInt k.bits (x.toNat : Int) = x := fun x => by rw [BitVec.ofInt_natCast, BitVec.ofNat_toNat, BitVec.setWidth_eq]
  have h : ∀ x : BitVec k.bits, k.wrap (x.toNat : Int) = x.toNat := fun x => hs _ (Int.natCast_nonneg _) (by have := x.isLt; exact_mod_cast this)
  refine ⟨?_, ?_, ?_⟩ <;> simp only [bits, e, h]
set_option maxRecDepth 100000 in
theorem wbits (a b : W) : bits .and .u32 a.toNat b.toNat = ((a &&& b).toNat : Int) ∧ bits .or .u32 a.toNat b.toNat = ((a ||| b).toNat : Int) ∧ bits .xor .u32 a.toNat b.toNat = ((a ^^^ b).toNat : Int) :=
  bits_of .u32 (fun n h0 h1 => by rw [IntKind.wrap_u32]; simp [IntKind.bits] at h1; omega) a b
set_option maxRecDepth 100000 in
theorem bbits (a b : B8) : bits .and .u8 a.toNat b.toNat = ((a &&& b).toNat : Int) ∧ bits .or .u8 a.toNat b.toNat = ((a ||| b).toNat : Int) ∧ bits .xor .u8 a.toNat b.toNat = ((a ^^^ b).toNat : Int) :=
  bits_of .u8 (fun n h0 h1 => by rw [IntKind.wrap_u8]; simp [IntKind.bits] at h1; omega) a b
set_option maxRecDepth 100000 in
theorem wand (a b : W) : bits .and .u32 a.toNat b.toNat = ((a &&& b).toNat : Int) := (wbits a b).1
set_option maxRecDepth 100000 in
theorem wor (a b : W) : bits .or .u32 a.toNat b.toNat = ((a ||| b).toNat : Int) := (wbits a b).2.1
set_option maxRecDepth 100000 in
theorem wxor (a b : W) : bits .xor .u32 a.toNat b.toNat = ((a ^^^ b).toNat : Int) := (wbits a b).2.2
set_option maxRecDepth 100000 in
theorem wshr (x : W) (n : Nat) : (x.toNat : Int) / 2 ^ n = ((x >>> n).toNat : Int) := by
  rw [BitVec.toNat_ushiftRight, Nat.shiftRight_eq_div_pow, Int.natCast_ediv, Int.natCast_pow]; rfl
set_option maxRecDepth 100000 in
theorem wshl (x : W) (n : Nat) : ((x.toNat : Int) * 2 ^ n) % 4294967296 = ((x <<< n).toNat : Int) := by
  rw [BitVec.toNat_shiftLeft, Nat.shiftLeft_eq, Int.natCast_emod, Int.natCast_mul, Int.natCast_pow]; rfl
set_option maxRecDepth 100000 in
theorem wnot (x : W) : (4294967295 : Int) - x.toNat = ((~~~x).toNat : Int) := by
  rw [BitVec.toNat_not]; have := x.isLt; omega
set_option maxRecDepth 100000 in
theorem wset (x : B8) : (x.toNat : Int) = ((x.setWidth 32).toNat : Int) := by
  rw [BitVec.toNat_setWidth]; have := x.isLt; omega
set_option maxRecDepth 100000 in
theorem wlow (x : W) : (x.toNat : Int) % 256 = ((x.setWidth 8).toNat : Int) := by
  rw [BitVec.toNat_setWidth]; omega
set_option maxRecDepth 100000 in
theorem wlow' (x : W) (h : x.toNat < 256) : (x.toNat : Int) = ((x.setWidth 8).toNat : Int) := by
  rw [BitVec.toNat_setWidth]; omega
set_option maxRecDepth 100000 in
theorem rotr_l (x : W) (n : Nat) : (x <<< (32 - n)) ||| (x >>> n) = rotr x n := BitVec.or_comm _ _

set_option maxRecDepth 100000 in
theorem sch_len (m : List B8) (n : Nat) : (sch m n).length = n := by
  induction n with
  | zero => rfl
  | succ n ih => simp [sch, ih]
set_option maxRecDepth 100000 in
theorem absorb_append (K : List W) (v : V8) (m x : List B8) (n : Nat) (h : 64 * n ≤ m.length) : absorb K v (m ++ x) n = absorb K v m n := by
  induction n with
  | zero => rfl
  | succ n ih =>
    simp only [absorb]
    rw [ih (by omega), List.drop_append_of_le_length (by omega), List.take_append_of_le_length (by simp; omega)]
set_option maxRecDepth 100000 in
theorem pad_len (m : List B8) : (pad m).length % 64 = 0 := by
  simp [pad, zeros, be8]; omega
def bhex (m : List Nat) : List B8 := m.map (BitVec.ofNat 8)
set_option maxRecDepth 100000 in
theorem dig_abc : dig [97, 98, 99] = bhex [0xba,0x78,0x16,0xbf,0x8f,0x01,0xcf,0xea,0x41,0x41,0x40,0xde,0x5d,0xae,0x22,0x23,0xb0,0x03,0x61,0xa3,0x96,0x17,0x7a,0x9c,0xb4,0x10,0xff,0x61,0xf2,0x00,0x15,0xad] := by
  decide +kernel
end Go.Proofs.Ytgjplbanfnomkaa
