/- 'many': the reader of fields as they were written. -/
import Derived.Test.YtjfjminfpdgcmaaFwC
import Derived.Test.YtjfjminfpdgcmaaIdEq
import Derived.Test.YtjfjminfpdgcmaaRowLoad
set_option linter.unusedVariables false
namespace Go.Proofs.Ytjfjminfpdgcmaa
open Go.RowKit
attribute [local go_sem ↓] loadAt_id
attribute [local go_sem] rowOf_drew rowOf_drewN run_idLoad
theorem Fd.ok.turn {f : Fd} {w w' : World} {B : Nat} {S : Nat → Prop} (h : f.ok w B) (t : Turn S w w') (hS : ∀ i, i < B → ¬ S i) : f.ok w' B := ⟨h.k0, h.k1, h.n, t.sl h.s hS, h.a, h.c, h.m, h.d⟩
theorem Fd.ok.more {f : Fd} {w : World} {B B' : Nat} (h : f.ok w B) (hB : B ≤ B') : f.ok w B' := ⟨h.k0, h.k1, h.n, h.s.more hB, h.a, h.c, h.m, h.d⟩
theorem Turn.range {S : Nat → Prop} {w w' : World} {b o : Nat} {cs : List Value} (t : Turn S w w') (h : w.rangeAt b o cs) (hb : ¬ S b) : w'.rangeAt b o cs := fun j v hj => t.cell (h j v hj) hb
theorem Fds.turn {w w' : World} {B : Nat} {A : Option Addr} {l : List Fd} {S : Nat → Prop} (h : Fds w B A l) (t : Turn S w w') (hS : ∀ i, i < B → ¬ S i) : Fds w' B A l := fun i f hf => by
  obtain ⟨hok, b, o, e, hb, hr⟩ := h i f hf
  exact ⟨hok.turn t hS, b, o, e, hb, t.range hr (hS b hb)⟩
theorem read_numB (n : Nat) (r : List B8) (hn : n < 18446744073709551616) : numE (numB n ++ r) = 0 ∧ numV (numB n ++ r) = n ∧ numR (numB n ++ r) = r := by
  have h8 := klen_eight hn
  have hk : (BitVec.ofNat 8 (klen n)).toNat = klen n := by rw [BitVec.toNat_ofNat]; exact Nat.mod_eq_of_lt (by omega)
  have ht : (beN (klen n) n ++ r).take (klen n) = beN (klen n) n := List.take_left' (beN_len _ _)
  have hd : (beN (klen n) n ++ r).drop (klen n) = r := List.drop_left' (beN_len _ _)
  rw [numB, List.cons_append]
  simp only [numE, numV, numR, hk, ht, hd]
  refine ⟨?_, valB_numB, trivial⟩
  rw [if_neg (by omega), if_neg (by simp [beN_len]), if_neg]
  by_cases h0 : n = 0
  · subst h0; simp [klen_zero, beN]
  · obtain ⟨x, s, e, hx⟩ := beN_head h0
    rw [e]; simpa using hx
def manyC (A : Option Addr) (n c : Nat) (s : Bool) : Array Value := #[.slice A n c, .bool s]
def fieldsB (l : List Fd) : List B8 := l.flatMap fun f => putB f.kd
set_option maxHeartbeats 2000000 in
theorem many_read (o e E B : Nat) (N : Nat → Prop) (A : Option Addr) (c : Nat) (l : List Fd) (w : World) (h : Eye0 w e E N (fieldsB l)) (ho : w.heap[o]? = some (.cells (manyC A l.length c true) 39 (0, 0))) (hoe : o ≠ e) (hoE : o ≠ E) (hNo : N o) (hl : l.length ≤ 12)
    (hf : Fds w B A l) (hB : B ≤ o ∧ B ≤ e ∧ B ≤ E) (hb : ∀ f ∈ l, f.b.length ≤ 60) :
    Calls Try.prog 14 #[.pointer (some ⟨o, 0, none⟩), .pointer (some ⟨e, 0, none⟩)] w fun r w' => r = .returned (.tuple #[]) ∧ Eye0 w' e E N [] ∧ w'.heap[o]? = some (.cells (manyC A l.length c true) 39 (0, 0)) ∧ Turn (fun i => i = e ∨ i = o) w w' := by
  have HH := Lib.hid h
  have HO := Lib.hid ho
  have HF := Lib.hid hf
  have HB := Lib.hid hb
  clear h ho hf hb
  go_enter Try.func14, Try.ntmps14
  go_wp2
  go_loopw [4] (fun i wr => ∃ k : Nat, k ≤ l.length ∧ i = .int .i64 k ∧ Eye0 wr e E N (fieldsB (l.drop k)) ∧ wr.heap[o]? = some (.cells (manyC A l.length c true) 39 (0, 0)) ∧ Turn (fun i => i = e ∨ i = o) w wr) (fun i _ => l.length - (intOf i).toNat)
  case atStart => exact ⟨0, Nat.zero_le _, rfl, HH.out, HO.out, Turn.refl _ _⟩
  case round =>
    clear HH HO
    obtain ⟨k, hk, rfl, he, ho, ht⟩ := hrel
    have c0 : wr.cell? ⟨o, 0, none⟩ = some (.slice A l.length c) := by rw [cell_of_row wr o 0 _ _ _ ho]; rfl
    have c1 : wr.cell? ⟨o, 1, none⟩ = some (.bool true) := by rw [cell_of_row wr o 1 _ _ _ ho]; rfl
    have z1 := frozen_of_row wr o 1 _ _ ho
    by_cases hlt : k < l.length
    · obtain ⟨hok, b, o', rfl, hbB, hr⟩ := HF.out k l[k] (List.getElem?_eq_getElem hlt)
      have hr1 := ht.range hr (by omega)
      have hfb : fieldsB (l.drop k) = putB l[k].kd ++ fieldsB (l.drop (k + 1)) := by rw [List.drop_eq_getElem_cons hlt]; rfl
      rw [hfb] at he
      have HB60 := HB.out l[k] (List.getElem_mem hlt)
      obtain ⟨f, hfe⟩ : ∃ f, f = l[k] := ⟨_, rfl⟩
      rw [← hfe] at hok hr1 he HB60
      have K1 := Lib.hid (fun w => kind_any f w hok.k0 hok.k1 hok.d)
      have HL := Lib.hid (show (Try.prog.info? 31).map (·.size) = some f.cells.length by rw [f.len hok.d]; kernel_rfl)
      have HR := Lib.hid hr1
      have HE := Lib.hid he
      have HOK := Lib.hid (hok.turn ht (fun i hi h => by omega))
      obtain ⟨D, hD⟩ : ∃ D, D = f.kd.cells.toArray := ⟨_, rfl⟩
      have sD : D.size = 35 := by rw [hD, List.size_toArray, f.kd.len hok.d]
      have H1 := Lib.hid (show (Try.prog.info? 31).map (·.size) = some D.size by rw [sD]; kernel_rfl)
      have H2 := Lib.hid (show Z35.size = D.size by rw [sD]; rfl)
      have H3 := Lib.hid (show D.all (·.oneCell') = true by rw [hD]; exact f.kd.one)
      have hzd := zero_field
      change ∀ w, _ = Result.ok (Value.agg Z35) w at hzd
      rw [← hD] at K1
      have HD := Lib.hid hD
      have HO := Lib.hid ho
      have HT := Lib.hid ht
      clear hfb he hr hr1 hok hfe hD sD ho ht
      go_upto_region 4 with (first
        | (refine wpList_load_mid (op := ⟨some 21, _, _, _, _, _⟩) rfl _ _ rfl b (o' + k * 35) rfl f.cells _ HR.out Try.underlying31 rfl HL.out ?_)
        | (go_at_call 8; refine (K1.out _).mono ?_; rintro r w2 ⟨rfl, ht2⟩; have HT2 := Lib.hid ht2; clear ht2)
        | (refine wpList_store_row rfl _ _ _ rfl w2.heap.size D rfl rfl 31 _ (heap_alloc_new w2 _) H1.out H2.out H3.out ?_; rw [World.setRow_alloc_new]))
      obtain ⟨w3, hw3⟩ : ∃ w3, w3 = w2.alloc (.cells D 31) := ⟨_, rfl⟩
      have g3 : w3.heap[w2.heap.size]? = some (.cells D 31 (0, 0)) := by rw [hw3]; exact heap_alloc_new w2 _
      have t3 : Turn (fun _ => False) wr w3 := by rw [hw3]; exact HT2.out.alloc _
      obtain ⟨g, hg⟩ : ∃ g, g = w2.heap.size := ⟨_, rfl⟩
      have hgw : wr.heap.size ≤ g := by rw [hg]; exact HT2.out.size
      rw [← hw3, ← hg]
      rw [← hg] at g3
      have d0 : w3.cell? ⟨g, 0, none⟩ = some (.int .i64 (f.k % 3)) := by rw [cell_of_row _ _ _ _ _ _ g3, HD.out]; simp [Fd.cells, Fd.kd]
      have d1 : w3.cell? ⟨g, 1, none⟩ = some (.int .u64 (f.n : Int)) := by rw [cell_of_row _ _ _ _ _ _ g3, HD.out]; simp [Fd.cells, Fd.kd]
      have d2 : w3.cell? ⟨g, 2, none⟩ = some (.slice f.A f.b.length f.c) := by rw [cell_of_row _ _ _ _ _ _ g3, HD.out]; simp [Fd.cells, Fd.kd]
      have G3 := Lib.hid g3
      have HE3 := Lib.hid (HE.out.turn t3 (fun h => h) (fun h => h) (fun _ h => h.elim))
      have c13 := t3.cell c1 (fun h => h)
      have ho3 := t3.heap HO.out (fun h => h)
      have z13 := frozen_of_row w3 o 1 _ _ ho3
      have HO3 := Lib.hid ho3
      have HT3 := Lib.hid t3
      have hog : o < g := by have := lt_of_block HO.out; omega
      clear hw3 hg g3 t3 ho3 HT2 c0 c1 z1
      have hk3 : f.k % 3 = 0 ∨ f.k % 3 = 1 ∨ f.k % 3 = 2 := by omega
      rcases hk3 with hk3 | hk3 | hk3
      · rw [hk3] at d0
        obtain ⟨q1, q2, q3⟩ := read_numB f.n (fieldsB (l.drop (k + 1))) HOK.out.n
        have hp : putB f.kd = numB f.n := by rw [putB, if_pos (by exact hk3)]; rfl
        have t := fun w h => num_yes e E N 18446744073709551615 (numB f.n ++ fieldsB (l.drop (k + 1))) w h (by rw [eNum_top]; exact q1)
        rw [q2, q3] at t
        rw [hp] at HE3
        have T := Lib.hid t
        clear t q1 q2 q3 hp
        have hge : ¬ g = e := by have := HE.out.lt.1; omega
        go_upto_region 6 with fail
        go_region_with (go_at_call 28; refine (T.out _ HE3.out.drew).mono ?_; rintro r w4 ⟨rfl, he4, ht4⟩; have HE4 := Lib.hid he4; have HT4 := Lib.hid ht4; have d14 := ht4.cell (p := ⟨g, 1, none⟩) d1 hge; have c14 := ht4.cell (p := ⟨o, 1, none⟩) c13 hoe; have HO4 := Lib.hid (ht4.heap HO3.out hoe); have z14 := frozen_of_row w4 o 1 _ _ (ht4.heap HO3.out hoe); clear he4 ht4)
        all_goals
          go_wp2
          go_roundw
          case rel =>
            exact ⟨k + 1, by omega, by go_num, HE4.out.turn ((Turn.refl (fun i => i = o) w4).setCell ⟨o, 1, none⟩ _ (fun _ => rfl)) (fun h => hoe h.symm) (fun h => hoE h.symm) (fun i hi => by rw [hi]; exact hNo), heap_setCell_same w4 o 1 _ _ (.bool true) HO4.out,
              ((HT.out.trans HT3.out.drew (fun _ _ h => h.elim)).trans HT4.out (fun _ _ h => .inl h)).setCell ⟨o, 1, none⟩ _ (fun _ => .inr rfl)⟩
          case measure => simp [intOf]; omega
      · rw [hk3] at d0
        obtain ⟨q1, q2, q3⟩ := read_numB f.b.length (f.b ++ fieldsB (l.drop (k + 1))) (by omega)
        have hp : putB f.kd = numB f.b.length ++ f.b := by rw [putB, if_neg (by rw [show f.kd.k = f.k % 3 from rfl, hk3]; decide), if_pos (by exact hk3)]; rfl
        have t := fun w h => text_yes e E N 60 (numB f.b.length ++ (f.b ++ fieldsB (l.drop (k + 1)))) w h (by rw [eText, if_neg (by omega), if_neg (by rw [q2]; omega), if_neg (by rw [q2, q3]; simp)]) (by decide)
        rw [q2, q3] at t
        rw [List.take_left, List.drop_left] at t
        rw [hp, List.append_assoc] at HE3
        have T := Lib.hid t
        have hs := (HOK.out.turn HT3.out.drew (fun _ _ h => h)).s
        have HS := Lib.hid hs
        clear t q1 q2 q3 hp hs
        have hge : ¬ g = e := by have := HE.out.lt.1; omega
        have hdt : decide (f.b = f.b) = true := decide_eq_true rfl
        go_upto_region 8 with fail
        go_region_with (first
          | (go_at_call 29; refine (T.out _ HE3.out.drew).mono ?_; rintro r w4 ⟨v4, rfl, hr4, he4, ht4⟩; have HE4 := Lib.hid he4; have HT4 := Lib.hid ht4; have d14 := ht4.cell (p := ⟨g, 2, none⟩) d2 hge; obtain ⟨A4, c4, rfl, hs4, hl4, -⟩ := own_sl hr4; have b4 := rbytes_at A4 f.A c4 f.c f.b.length f.b.length _ _ f.b f.b w4 hs4 (ht4.sl HS.out (fun i hi h => by omega)) rfl rfl (by unfold maxLen; omega) (by unfold maxLen; omega); rw [hdt] at b4; have B4 := Lib.hid b4; have c14 := fun n => show (w4.drewN n).cell? ⟨o, 1, none⟩ = _ from ht4.cell (p := ⟨o, 1, none⟩) c13 hoe; have HO4 := Lib.hid (ht4.heap HO3.out hoe); have z14 := fun n => show (w4.drewN n).frozen? ⟨o, 1, none⟩ = _ from frozen_of_row w4 o 1 _ _ (ht4.heap HO3.out hoe); clear he4 ht4 hr4 hs4 hl4 b4)
          | (go_at_call 15; refine B4.out.mono ?_; rintro r w5 ⟨rfl, n5, rfl⟩))
        all_goals
          go_wp2
          go_roundw
          case rel =>
            exact ⟨k + 1, by omega, by go_num, HE4.out.turn (((Turn.refl (fun i => i = o) w4).drewN n5).setCell ⟨o, 1, none⟩ _ (fun _ => rfl)) (fun h => hoe h.symm) (fun h => hoE h.symm) (fun i hi => by rw [hi]; exact hNo), heap_setCell_same (w4.drewN n5) o 1 _ _ (.bool true) HO4.out,
              (((HT.out.trans HT3.out.drew (fun _ _ h => h.elim)).trans HT4.out (fun _ _ h => .inl h)).drewN n5).setCell ⟨o, 1, none⟩ _ (fun _ => .inr rfl)⟩
          case measure => simp [intOf]; omega
      · rw [hk3] at d0
        have hp : putB f.kd = f.d := by rw [putB, if_neg (by rw [show f.kd.k = f.k % 3 from rfl, hk3]; decide), if_neg (by rw [show f.kd.k = f.k % 3 from rfl, hk3]; decide)]; rfl
        have hd32 := HOK.out.d
        have t := fun w h => id_yes e E N (f.d ++ fieldsB (l.drop (k + 1))) w h (by simp; omega)
        rw [List.take_left' hd32, List.drop_left' hd32] at t
        rw [hp] at HE3
        have hq := fun w => eql_id f.d f.d hd32 hd32 w
        rw [show decide (f.d = f.d) = true from decide_eq_true rfl] at hq
        have hl3 : rowOf w3 g 3 32 = some (f.d.map bv).toArray := by
          have h := G3.out
          rw [HD.out] at h
          have := rowOf_block h 3 32 (by rw [f.kd.len hd32]; omega)
          rw [this]
          simp only [Fd.cells, Fd.kd]
          rw [List.drop_append, List.drop_eq_nil_of_le (by simp), List.take_of_length_le (by simp [hd32])]
          simp
        obtain ⟨D2, hD2⟩ : ∃ D2, D2 = (f.d.map bv).toArray := ⟨_, rfl⟩
        rw [← hD2] at t hq hl3
        have T := Lib.hid t
        clear t hp hD2 hd32
        have hge : ¬ g = e := by have := HE.out.lt.1; omega
        go_upto_region 10 with fail
        go_region_with (go_at_call 30; refine (T.out _ HE3.out.drew).mono ?_; rintro r w4 ⟨rfl, he4, ht4⟩; have HE4 := Lib.hid he4; have HT4 := Lib.hid ht4; have hl4 := rowOf_turn (w := w3.drew) ht4 hl3 hge; have c14 := ht4.cell (p := ⟨o, 1, none⟩) c13 hoe; have HO4 := Lib.hid (ht4.heap HO3.out hoe); have z14 := frozen_of_row w4 o 1 _ _ (ht4.heap HO3.out hoe); clear he4 ht4)
        all_goals
          go_wp2
          go_roundw
          case rel =>
            exact ⟨k + 1, by omega, by go_num, HE4.out.turn ((Turn.refl (fun i => i = o) w4).setCell ⟨o, 1, none⟩ _ (fun _ => rfl)) (fun h => hoe h.symm) (fun h => hoE h.symm) (fun i hi => by rw [hi]; exact hNo), heap_setCell_same w4 o 1 _ _ (.bool true) HO4.out,
              ((HT.out.trans HT3.out.drew (fun _ _ h => h.elim)).trans HT4.out (fun _ _ h => .inl h)).setCell ⟨o, 1, none⟩ _ (fun _ => .inr rfl)⟩
          case measure => simp [intOf]; omega
    · obtain rfl : k = l.length := by omega
      rw [List.drop_length] at he
      have HT := Lib.hid ht
      have HO := Lib.hid ho
      have HE := Lib.hid he
      clear ht ho he
      go_wp2
      go_end0
      exact ⟨rfl, HE.out, HO.out, HT.out⟩
end Go.Proofs.Ytjfjminfpdgcmaa
