/- 'FieldFails': its walks. -/
import Derived.Test.YtjfjminfpdgcmaaFldOne
set_option linter.unusedVariables false
namespace Go.Proofs.Ytjfjminfpdgcmaa
open Go.RowKit
def prs (cs : List B8) : List B8 := cs.flatMap fun c => [1, c]
theorem prs_len (cs : List B8) : (prs cs).length = 2 * cs.length := by
  induction cs with
  | nil => rfl
  | cons c cs ih => have : prs (c :: cs) = 1 :: c :: prs cs := rfl
                    rw [this]; simp [ih]; omega
theorem prs_cons (c : B8) (cs : List B8) : prs (c :: cs) = 1 :: c :: prs cs := rfl
theorem prs_snoc (cs : List B8) (c : B8) : prs (cs ++ [c]) = prs cs ++ [1, c] := by simp [prs]
theorem prs_eNum (c : B8) (cs : List B8) (h : c ≠ 0) : eNum 255 (prs (c :: cs)) = 0 ∧ numR (prs (c :: cs)) = prs cs := by
  have h1 : numE (1 :: c :: prs cs) = 0 := by simp [numE]; exact h
  have h2 : numV (1 :: c :: prs cs) = c.toNat := by simp [numV, valB]
  rw [prs_cons]
  refine ⟨?_, by simp [numR]⟩
  unfold eNum
  rw [if_neg (by omega), if_neg (by rw [h2]; have := c.isLt; omega)]
def endsC (n d x : Int) : Array Value := #[.int .i64 n, .int .i64 d, .int .i64 x]
set_option maxHeartbeats 1000000 in
theorem ends_read (o e E : Nat) (N : Nat → Prop) (cs : List B8) (x : Nat) (w : World) (h : Eye0 w e E N (prs cs)) (hcs : ∀ c ∈ cs, c ≠ 0) (ho : w.heap[o]? = some (.cells (endsC cs.length 0 x) 56 (0, 0))) (hoe : o ≠ e) (hoE : o ≠ E) (hNo : N o) (hx : x ≠ 0) (hl : cs.length ≤ 1000) :
    Calls Try.prog 19 #[.pointer (some ⟨o, 0, none⟩), .pointer (some ⟨e, 0, none⟩)] w fun r w' => r = pan E ∧ EyeX w' e E x ∧ w'.heap[o]? = some (.cells (endsC cs.length cs.length x) 56 (0, 0)) ∧ Turn (fun i => i = e ∨ i = o ∨ i = E) w w' := by
  have HH := Lib.hid h
  have HO := Lib.hid ho
  have HC := Lib.hid hcs
  have HX := Lib.hid hx
  clear h ho hcs hx
  go_enter Try.func19, Try.ntmps19
  go_wp2
  go_loopw [4] (fun i wr => ∃ k : Nat, k ≤ cs.length ∧ i = .int .i64 k ∧ Eye0 wr e E N (prs (cs.drop k)) ∧ wr.heap[o]? = some (.cells (endsC cs.length k x) 56 (0, 0)) ∧ Turn (fun i => i = e ∨ i = o) w wr) (fun i _ => cs.length - (intOf i).toNat)
  case atStart => exact ⟨0, Nat.zero_le _, rfl, HH.out, HO.out, Turn.refl _ _⟩
  case round =>
    clear HH HO
    obtain ⟨k, hk, rfl, he, ho, ht⟩ := hrel
    have c0 : wr.cell? ⟨o, 0, none⟩ = some (.int .i64 (cs.length : Int)) := by rw [cell_of_row wr o 0 _ _ _ ho]; rfl
    have c2 : wr.cell? ⟨o, 2, none⟩ = some (.int .i64 (x : Int)) := by rw [cell_of_row wr o 2 _ _ _ ho]; rfl
    by_cases hlt : k < cs.length
    · have hd : cs.drop k = cs[k] :: cs.drop (k + 1) := List.drop_eq_getElem_cons hlt
      rw [hd] at he
      obtain ⟨p1, p2⟩ := prs_eNum cs[k] (cs.drop (k + 1)) (HC.out _ (List.getElem_mem hlt))
      have t := num_yes e E N 255 _ wr he p1
      rw [p2] at t
      have T := Lib.hid t
      have F := Lib.hid (fail_ok e)
      have HT := Lib.hid ht
      have HO := Lib.hid ho
      clear t p1 p2 he hd ho ht
      generalize numV (prs (cs[k] :: List.drop (k + 1) cs)) = nv at *
      go_wp2_with (first
        | (go_at_call 28; refine T.out.mono ?_; rintro r w1 ⟨rfl, he1, ht1⟩; have HE1 := Lib.hid he1; have HT1 := Lib.hid ht1; have HO1 := Lib.hid (ht1.heap HO.out hoe); have c1 := cell_of_row w1 o 1 _ _ _ (ht1.heap HO.out hoe); have z1 := frozen_of_row w1 o 1 _ _ (ht1.heap HO.out hoe); clear he1 ht1; simp only [endsC, List.getElem?_toArray, List.getElem?_cons_zero, List.getElem?_cons_succ] at c1)
        | (go_at_call 32; refine (F.out _).mono ?_; rintro r w' ⟨rfl, rfl⟩))
      go_roundw
      case rel =>
        have h2 := heap_setCell_same _ o 1 _ _ (.int .i64 ((k : Int) + 1)) HO1.out
        exact ⟨k + 1, by omega, by go_num, HE1.out.turn ((Turn.refl (fun i => i = o) _).setCell ⟨o, 1, none⟩ _ (fun _ => rfl)) (fun h => hoe h.symm) (fun h => hoE h.symm) (fun i hi => by rw [hi]; exact hNo), h2, (HT.out.trans HT1.out (fun _ _ h => .inl h)).setCell ⟨o, 1, none⟩ _ (fun _ => .inr rfl)⟩
      case measure => simp [intOf]; omega
    · obtain rfl : k = cs.length := by omega
      rw [List.drop_length] at he
      have F := Lib.hid (fail0 e E N x _ wr he HX.out)
      have HT := Lib.hid ht
      have HO := Lib.hid ho
      clear he ho ht
      go_wp2_with (go_at_call 32; refine F.out.mono ?_; rintro r w1 ⟨rfl, he1, ht1⟩; dsimp only [pan]; have HE1 := Lib.hid he1; have HT1 := Lib.hid ht1; clear he1 ht1)
      exact ⟨rfl, rfl, HE1.out, HT1.out.heap HO.out hoE, (HT.out.mono (S := fun i => i = e ∨ i = o ∨ i = E) (fun i _ h => by omega)).trans HT1.out (fun i _ h => by omega)⟩
theorem read_ends (o : Nat) (A : Option Addr) (c n : Nat) (cs : List B8) (x : Nat) (w : World) (hs : SlN w (fun i => i = o) A ((prs cs).map bv)) (hn : (prs cs).length = n) (hA : A = none → c = 0) (hc : n ≤ c) (hl : cs.length ≤ 1000)
    (hcs : ∀ c ∈ cs, c ≠ 0) (hx : x ≠ 0) (ho : w.heap[o]? = some (.cells (endsC cs.length 0 x) 56 (0, 0))) :
    Calls Try.prog 13 #[.slice A n c, .func (.func 19) #[.pointer (some ⟨o, 0, none⟩)] #[]] w fun r w' => Turn (fun i => i = o) w w' ∧
      w'.heap[o]? = some (.cells (endsC cs.length cs.length x) 56 (0, 0)) ∧ r = .returned (.int .i64 (x : Int)) := by
  subst hn
  have hlt : o < w.heap.size := lt_of_block ho
  have hpl := prs_len cs
  refine (read_any 19 (.pointer (some ⟨o, 0, none⟩)) A c (prs cs) w (fun i => i = o ∨ i = w.heap.size ∨ i = w.heap.size + 1) (fun i => i = o)
    (fun l w2 => False)
    (fun k w2 => k = x ∧ w2.heap[o]? = some (.cells (endsC cs.length cs.length x) 56 (0, 0)) ∧ Turn (fun i => i = o) w w2) (fun _ _ => by kernel_rfl) hs hA hc (by omega) (by omega) ?_).mono ?_
  · intro w1 t1 s1 e1
    refine (ends_read o _ _ _ cs x w1 e1 hcs (t1.heap ho (fun h => h)) (by omega) (by omega) (.inl rfl) hx hl).mono ?_
    rintro r w2 ⟨rfl, he, h2, t2⟩
    exact ⟨t2.mono (fun i _ h => by omega), .inr ⟨rfl, x, hx, he, rfl, h2, (t1.mono (fun _ _ h => h.elim)).trans t2 (fun i hi h => by omega)⟩⟩
  · rintro r w' ⟨w2, t, (⟨l, h, -⟩ | ⟨k, hk, ⟨rfl, h2, t2⟩, rfl⟩)⟩
    · exact h.elim
    · exact ⟨t2.trans t (fun i hi h => by omega), t.heap h2 (by omega), rfl⟩
def mk1 (b : B8) : B8 := BitVec.ofNat 8 (1 + b.toNat % 255)
theorem mk1_ne (b : B8) : mk1 b ≠ 0 := by
  intro h
  have := congrArg BitVec.toNat h
  simp [mk1] at this
  omega
theorem mk1_int (b : B8) : 1 + (b.toNat : Int) % 255 = ((mk1 b).toNat : Int) := by
  simp [mk1]; omega
set_option maxHeartbeats 1000000 in
theorem fieldFails_any (A : Option Addr) (c : Nat) (bs : List B8) (at' x : Nat) (w : World) (hs : Sl w w.heap.size A (bs.map bv)) (hA : A = none → c = 0) (hc : bs.length ≤ c) (hm : bs.length ≤ maxLen) (ha : at' < 256) (hx : x < 256) :
    Calls Try.prog 5 #[.slice A bs.length c, .int .u8 (at' : Int), .int .u8 (x : Int)] w fun e w' => e = .returned (.bool true) ∧ Turn (fun _ => False) w w' := by
  have hmf : ∀ (fn : Fn) (first cap : Array Value) (w : World), (Instr.makeFunc fn first cap).run Try.prog w = .ok (.func fn first cap) w := fun _ _ _ _ => rfl
  obtain ⟨i0, hi, hz0, hz1, hz2⟩ := info_parts info_u8
  have AW := Lib.hid awake_any
  unfold maxLen at hm
  by_cases h20 : 60 < bs.length
  · go_enter Try.func5, Try.ntmps5
    go_wp2_with (go_at_call 7; refine (AW.out _).mono ?_; rintro r w9 ⟨rfl, t9⟩)
    go_ret
    exact ⟨rfl, t9⟩
  obtain ⟨n, hn⟩ : ∃ n, n = at' % (bs.length + 1) := ⟨_, rfl⟩
  have hn1 : ((at' : Int)).tmod ((bs.length : Int) + 1) = (n : Int) := by rw [Int.tmod_eq_emod_of_nonneg (by omega), hn]; rfl
  have hnl : n ≤ bs.length := by rw [hn]; have := Nat.mod_lt at' (show 0 < bs.length + 1 by omega); omega
  have HS := Lib.hid hs
  clear hs hn
  go_enter Try.func5, Try.ntmps5
  go_wp2_with fail
  go_loopw [8, 9] (fun v i wr => ∃ k : Nat, k ≤ n ∧ i = .int .i64 k ∧ wr.ownsRow w.heap.size 5 1 v (2 * k) ((prs ((bs.take k).map mk1)).map bv) ∧ Turn (fun _ => False) w wr) (fun _ i _ => n - (intOf i).toNat)
  case atStart => exact ⟨0, Nat.zero_le _, rfl, World.ownsRow_nil _ _ _ _, Turn.refl _ _⟩
  case round =>
    obtain ⟨k, hk, rfl, hown, ht⟩ := hrel
    by_cases hlt : k < n
    · have hkb : k < bs.length := by omega
      obtain ⟨ad, rfl, -, hc0⟩ := HS.out.at (bvs_at bs k hkb)
      have hcr := ht.cell hc0 (fun h => h)
      have HX := Lib.hid (show (prs ((bs.take (k + 1)).map mk1)) = prs ((bs.take k).map mk1) ++ [1, mk1 bs[k]] by rw [List.take_succ_eq_append_getElem hkb, List.map_append, List.map_cons, List.map_nil, prs_snoc])
      have HO := Lib.hid hown
      have HT := Lib.hid ht
      have hbl := bs[k].isLt
      have hmod : ((bs[k].toNat : Int)).tmod 255 = (bs[k].toNat : Int) % 255 := Int.tmod_eq_emod_of_nonneg (by omega)
      clear hown ht hc0
      unfold bv at hcr
      generalize bs[k] = b at *
      go_upto_region 8 with fail
      go_step
      iterate 24 go_step
      rw [mk1_int]
      refine wpList_append_any_at (o := ⟨some 35, _, _, _, _, _⟩) rfl _ _ 24 rfl w.heap.size 5 i0 (.int .u8 0) 1 Try.underlying24 hi hz0 hz1 hz2 rfl u8 (2 * k) _ rfl (HO.out.alloc _) (some ⟨wr.heap.size, 0, none⟩) 2 2 (([1, mk1 b] : List B8).map bv) rfl (fun h => by cases h) rfl ?_ (bv_one [1, mk1 b]) ?_ ?_ ?_ ?_
      · intro j u hu
        exact ⟨_, rfl, World.news_of_block (heap_alloc_new wr (.cells #[.int .u8 1, .int .u8 ((mk1 b).toNat : Int)] 5)) j u hu⟩
      · unfold maxLen; omega
      · omega
      · have := HT.out.size; simp; omega
      intro v1 w1 own1 gr1 at1
      have HO1 := Lib.hid own1
      have HT1 := Lib.hid ((HT.out.alloc (.cells #[.int .u8 1, .int .u8 ((mk1 b).toNat : Int)] 5)).grown gr1 (fun i hi e => by have := (HO.out.lt i e.symm).1; omega))
      clear own1 gr1 at1
      go_wp2
      go_roundw
      case rel => exact ⟨k + 1, by omega, by go_num, by rw [HX.out, List.map_append]; exact HO1.out, HT1.out⟩
      case measure => simp [intOf]; omega
    · obtain rfl : k = n := by omega
      obtain ⟨y, hy⟩ : ∃ y, y = 1 + x % 20 := ⟨_, rfl⟩
      have hy1 : (1 : Int) + (x : Int) % 20 = (y : Int) := by omega
      have hy0 : y ≠ 0 := by omega
      have htm : (x : Int).tmod 20 = (x : Int) % 20 := Int.tmod_eq_emod_of_nonneg (by omega)
      obtain ⟨A8, c8, rfl, hs8, hl8, hc8, hA8⟩ := own_sl hown
      have hlk : ((bs.take k).map mk1).length = k := by simp; omega
      have ho1 := heap_alloc_new wr (.cells (endsC k 0 y) 56)
      have hs1 : SlN (wr.alloc (.cells (endsC k 0 y) 56)) (fun i => i = wr.heap.size) A8 ((prs ((bs.take k).map mk1)).map bv) := (SlN.of (N := fun i => i = wr.heap.size) hs8 (fun i hi h => by omega)).turn ((Turn.refl (fun _ => False) wr).alloc _) (fun _ h => h.elim) (N' := fun i => i = wr.heap.size) (fun i hi h => h)
      have T1 := Lib.hid (read_ends wr.heap.size A8 c8 (2 * k) ((bs.take k).map mk1) y _ hs1 (by rw [prs_len, hlk]) hA8 hc8 (by omega) (by intro c hc; simp only [List.mem_map] at hc; obtain ⟨b, -, rfl⟩ := hc; exact mk1_ne b) hy0 (by rw [hlk]; exact ho1))
      rw [hlk] at T1
      have HT := Lib.hid ht
      clear hown hs8 hl8 ho1 hs1 hlk ht hy
      go_wp2_with fail
      refine T1.out.mono ?_
      rintro r w2 ⟨t2, ho2, rfl⟩
      have c2 : w2.cell? ⟨wr.heap.size, 1, none⟩ = some (.int .i64 (k : Int)) := by rw [cell_of_row w2 _ 1 _ _ _ ho2]; rfl
      have HT2 := Lib.hid ((HT.out.alloc (.cells (endsC k 0 y) 56)).trans t2 (fun i hi h => by have := HT.out.size; omega))
      clear t2 ho2 T1
      go_wp2_with (go_at_call 7; refine (AW.out _).mono ?_; rintro r w9 ⟨rfl, t9⟩)
      go_ret
      exact ⟨rfl, HT2.out.trans t9 (fun _ _ h => h)⟩
theorem fieldFails_walk (A : Option Addr) (c : Nat) (bs : List B8) (at' x : Nat) (w : World) (hs : Sl w w.heap.size A (bs.map bv)) (hA : A = none → c = 0) (hc : bs.length ≤ c) (hm : bs.length ≤ maxLen) (ha : at' < 256) (hx : x < 256) :
    Calls Try.prog 5 #[.slice A bs.length c, .int .u8 (at' : Int), .int .u8 (x : Int)] w fun e w' => e = .returned (.bool true) ∧ Below w.heap.size w w' :=
  (fieldFails_any A c bs at' x w hs hA hc hm ha hx).mono fun _ _ ⟨h, t⟩ => ⟨h, t.below (fun _ _ h => h.elim) (Nat.le_refl _)⟩
end Go.Proofs.Ytjfjminfpdgcmaa
