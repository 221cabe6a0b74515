/- 'FieldWrites': its walk. -/
import Derived.Test.YtjfjminfpdgcmaaFwD
set_option linter.unusedVariables false
namespace Go.Proofs.Ytjfjminfpdgcmaa
open Go.RowKit
theorem read_many (o B : Nat) (A A' : Option Addr) (c c' n : Nat) (l : List Fd) (w : World) (hs : SlN w (fun i => i = o) A' ((fieldsB l).map bv)) (hn : (fieldsB l).length = n) (hA : A' = none → c' = 0) (hc : n ≤ c') (hlen : n ≤ 1099511627776)
    (ho : w.heap[o]? = some (.cells (manyC A l.length c true) 39 (0, 0))) (hl : l.length ≤ 12) (hf : Fds w B A l) (hB : B ≤ o) (hb : ∀ f ∈ l, f.b.length ≤ 60) :
    Calls Try.prog 13 #[.slice A' n c', .func (.func 14) #[.pointer (some ⟨o, 0, none⟩)] #[]] w fun r w' => Turn (fun i => i = o) w w' ∧
      w'.heap[o]? = some (.cells (manyC A l.length c true) 39 (0, 0)) ∧ r = .returned (.int .i64 0) := by
  subst hn
  have hlt : o < w.heap.size := lt_of_block ho
  refine (read_any 14 (.pointer (some ⟨o, 0, none⟩)) A' c' (fieldsB l) w (fun i => i = o ∨ i = w.heap.size ∨ i = w.heap.size + 1) (fun i => i = o)
    (fun l' w2 => l' = [] ∧ w2.heap[o]? = some (.cells (manyC A l.length c true) 39 (0, 0)) ∧ Turn (fun i => i = o) w w2)
    (fun k w2 => False) (fun _ _ => by kernel_rfl) hs hA hc hlen (by omega) ?_).mono ?_
  · intro w1 t1 s1 e1
    refine (many_read o _ _ B _ A c l w1 e1 (t1.heap ho (fun h => h)) (by omega) (by omega) (.inl rfl) hl (hf.turn t1 (fun _ _ h => h)) ⟨hB, by omega, by omega⟩ hb).mono ?_
    rintro r w2 ⟨rfl, he, h2, t2⟩
    exact ⟨t2.mono (fun i _ h => by omega), .inl ⟨rfl, [], he, rfl, h2, (t1.mono (fun _ _ h => h.elim)).trans t2 (fun i hi h => by omega)⟩⟩
  · rintro r w' ⟨w2, t, (⟨l', ⟨rfl, h2, t2⟩, rfl⟩ | ⟨k, hk, h, -⟩)⟩
    · exact ⟨t2.trans t (fun i hi h => by omega), t.heap h2 (by omega), by simp⟩
    · exact h.elim
theorem putB_le (f : Fd) (hn : f.n < 18446744073709551616) (hb : f.b.length ≤ 60) (hd : f.d.length = 32) : (putB f).length ≤ 69 := by
  unfold putB
  split
  · have := numB_le hn; omega
  · split
    · have := numB_le (n := f.b.length) (by omega); simp; omega
    · omega
theorem fieldsB_le (l : List Fd) (h : ∀ f ∈ l, f.n < 18446744073709551616 ∧ f.b.length ≤ 60 ∧ f.d.length = 32) : (fieldsB l).length ≤ 69 * l.length := by
  induction l with
  | nil => simp [fieldsB]
  | cons f l ih =>
    have h1 := ih (fun g hg => h g (by simp [hg]))
    have h2 := h f (by simp)
    have h3 := putB_le f.kd h2.1 h2.2.1 h2.2.2
    have : fieldsB (f :: l) = putB f.kd ++ fieldsB l := rfl
    rw [this]; simp; omega
theorem Fd.ok.kd {f : Fd} {w : World} {B : Nat} (h : f.ok w B) : f.kd.ok w B := ⟨by show _ ≤ f.k % 3; omega, by show f.k % 3 < _; omega, h.n, h.s, h.a, h.c, h.m, h.d⟩
/-- Two rows lie apart. -/
def Far (v u : Value) : Prop := ∀ g, v.ownBlock = some g → u.ownBlock = some g → False
theorem fw_close {w w5 w6 : World} {v5 u v6 : Value} {n : Nat} {xs : List Value} {ys : List B8} (hw : w5.ownsRow (w.heap.size + 1) 5 1 v5 n xs) (far : Far v5 u) (hp : PenAt w5 w.heap.size (w.heap.size + 1) u ys) (st : PenStep w5 w6 w.heap.size u v6) (ht : Turn (fun _ => False) w w5) :
    w6.ownsRow (w.heap.size + 1) 5 1 v5 n xs ∧ Far v5 v6 ∧ Turn (fun _ => False) w w6 := by
  refine ⟨st.1.own hw (fun g e h => ?_), fun g e1 e2 => ?_, ht.trans st.1 (fun i hi h => ?_)⟩
  · have := (hw.lt g e).1
    rcases h with h | h
    · omega
    · exact far g e h.symm
  · rcases st.2 with h | ⟨g', h, hg⟩
    · exact far g e1 (h ▸ e2)
    · have := (hw.lt g e1).2
      rw [h] at e2; injection e2 with e2; omega
  · rcases h with h | h
    · omega
    · have := (hp.2.1.lt i h.symm).1; omega
set_option maxHeartbeats 4000000 in
theorem fieldWrites_any (A : Option Addr) (c : Nat) (l : List Fd) (w : World) (hf : Fds w w.heap.size A l) (hm : l.length ≤ maxLen) :
    Calls Try.prog 3 #[.slice A l.length c] w fun e w' => e = .returned (.bool true) ∧ Turn (fun _ => False) w w' := by
  have hmf : ∀ (fn : Fn) (first cap : Array Value) (w : World), (Instr.makeFunc fn first cap).run Try.prog w = .ok (.func fn first cap) w := fun _ _ _ _ => rfl
  obtain ⟨i0, hi, hz0, hz1, hz2⟩ := info_parts info_u8
  have AW := Lib.hid awake_any
  unfold maxLen at hm
  by_cases h12 : 12 < l.length
  · go_enter Try.func3, Try.ntmps3
    go_wp2_with (go_at_call 7; refine (AW.out _).mono ?_; rintro r w9 ⟨rfl, t9⟩)
    go_ret
    exact ⟨rfl, t9⟩
  have hl12 : l.length ≤ 12 := by omega
  have hp0 : PenAt (w.alloc (.cells #[.slice none 0 0] 26)) w.heap.size (w.heap.size + 1) (.slice none 0 0) [] := ⟨heap_alloc_new _ _, World.ownsRow_nil _ _ _ _, by omega, by simp⟩
  have HP0 := Lib.hid hp0
  have HF := Lib.hid hf
  have HOK := Lib.hid (fun f (h : f ∈ l) => show f.n < 18446744073709551616 ∧ f.d.length = 32 from by
    obtain ⟨i, hi⟩ := List.getElem?_of_mem h
    exact ⟨(hf i f hi).1.n, (hf i f hi).1.d⟩)
  have T0 := Lib.hid ((Turn.refl (fun _ => False) w).alloc (.cells #[.slice none 0 0] 26))
  have h12' : ¬ (12 : Int) < (l.length : Int) := by omega
  clear hp0 hf h12
  go_enter Try.func3, Try.ntmps3
  go_wp2_with fail
  go_loopw [4, 5] (fun v i wr => ∃ (k : Nat) (u : Value), k ≤ l.length ∧ i = .int .i64 k ∧ wr.ownsRow (w.heap.size + 1) 5 1 v (fieldsB (l.take k)).length ((fieldsB (l.take k)).map bv) ∧ PenAt wr w.heap.size (w.heap.size + 1) u (fieldsB (l.take k)) ∧ Far v u ∧ (∀ f ∈ l.take k, f.b.length ≤ 60) ∧ Turn (fun _ => False) w wr) (fun _ i _ => l.length - (intOf i).toNat)
  case atStart => exact ⟨0, _, Nat.zero_le _, rfl, World.ownsRow_nil _ _ _ _, HP0.out, (fun g h => by cases h), (fun f h => by simp at h), T0.out⟩
  case round =>
    clear HP0
    obtain ⟨k, u, hk, rfl, hown, hp, hfar, hb, ht⟩ := hrel
    by_cases hlt : k < l.length
    · obtain ⟨hok, b, o', rfl, hbB, hr⟩ := HF.out k l[k] (List.getElem?_eq_getElem hlt)
      have hr1 := ht.range hr (fun h => h)
      have hct : wr.cell? ⟨b, o' + k * 35 + 2, none⟩ = some (.slice l[k].A l[k].b.length l[k].c) := hr1 2 _ rfl
      have hmm := hok.m
      unfold maxLen at hmm
      by_cases h60 : 60 < l[k].b.length
      · have HT := Lib.hid ht
        generalize l[k].b.length = bl at *
        clear hown hp hfar hb hr hr1 ht hok
        go_wp2_with (go_at_call 7; refine (AW.out _).mono ?_; rintro r w9 ⟨rfl, t9⟩)
        go_ret
        exact ⟨rfl, HT.out.trans t9 (fun _ _ h => h)⟩
      · have hfb : fieldsB (l.take (k + 1)) = fieldsB (l.take k) ++ putB l[k].kd := by unfold fieldsB; rw [List.take_succ_eq_append_getElem hlt, List.flatMap_append, List.flatMap_cons, List.flatMap_nil, List.append_nil]
        have HB2 := Lib.hid (show ∀ f ∈ l.take (k + 1), f.b.length ≤ 60 by
          rw [List.take_succ_eq_append_getElem hlt]
          intro f hf
          rcases List.mem_append.1 hf with hf | hf
          · exact hb f hf
          · simp at hf; subst hf; omega)
        have hle := fieldsB_le (l.take k) (fun f hf => ⟨(HOK.out f (List.mem_of_mem_take hf)).1, hb f hf, (HOK.out f (List.mem_of_mem_take hf)).2⟩)
        have hle2 : (fieldsB (l.take k)).length ≤ 828 := by simp only [List.length_take] at hle; omega
        obtain ⟨f, hfe⟩ : ∃ f, f = l[k] := ⟨_, rfl⟩
        rw [← hfe] at hok hr1 hct h60 hfb
        have h60' : ¬ (60 : Int) < (f.b.length : Int) := by omega
        have K1 := Lib.hid (fun w => kind_any f w hok.k0 hok.k1 hok.d)
        have HL := Lib.hid (show (Try.prog.info? 31).map (·.size) = some f.cells.length by rw [f.len hok.d]; kernel_rfl)
        have HR := Lib.hid hr1
        have HOKF := Lib.hid (hok.turn ht (fun _ _ h => h))
        obtain ⟨D, hD⟩ : ∃ D, D = f.kd.cells.toArray := ⟨_, rfl⟩
        have sD : D.size = 35 := by rw [hD, List.size_toArray, f.kd.len hok.d]
        have H1 := Lib.hid (show (Try.prog.info? 31).map (·.size) = some D.size by rw [sD]; kernel_rfl)
        have H2 := Lib.hid (show Z35.size = D.size by rw [sD]; rfl)
        have H3 := Lib.hid (show D.all (·.oneCell') = true by rw [hD]; exact f.kd.one)
        have hzd := zero_field
        change ∀ w, _ = Result.ok (Value.agg Z35) w at hzd
        rw [← hD] at K1
        have HD := Lib.hid hD
        have HP := Lib.hid hp
        have HW := Lib.hid hown
        have HFAR := Lib.hid hfar
        have HT := Lib.hid ht
        have HFB := Lib.hid hfb
        have P1 := Lib.hid (fun w hok => put_any f.kd w (by show 0 ≤ f.k % 3; omega) (by show f.k % 3 < 3; omega) hok (by show f.b.length ≤ 1000; omega))
        rw [← hD] at P1
        clear hr hr1 hok hfe hD sD ht hp hown hfar hb hfb hle h60
        go_upto_region 11 with (first
          | (refine wpList_load_mid (op := ⟨some 30, _, _, _, _, _⟩) rfl _ _ rfl b (o' + k * 35) rfl f.cells _ HR.out Try.underlying31 rfl HL.out ?_)
          | (go_at_call 8; refine (K1.out _).mono ?_; rintro r w2 ⟨rfl, ht2⟩; have HT2 := Lib.hid ht2; clear ht2)
          | (refine wpList_store_row rfl _ _ _ rfl w2.heap.size D rfl rfl 31 _ (heap_alloc_new w2 _) H1.out H2.out H3.out ?_; rw [World.setRow_alloc_new]))
        obtain ⟨w3, hw3⟩ : ∃ w3, w3 = w2.alloc (.cells D 31) := ⟨_, rfl⟩
        have g3 : w3.heap[w2.heap.size]? = some (.cells D 31 (0, 0)) := by rw [hw3]; exact heap_alloc_new w2 _
        have t3 : Turn (fun _ => False) wr w3 := by rw [hw3]; exact HT2.out.alloc _
        obtain ⟨g, hg⟩ : ∃ g, g = w2.heap.size := ⟨_, rfl⟩
        have hgw : wr.heap.size ≤ g := by rw [hg]; exact HT2.out.size
        rw [← hw3, ← hg]
        rw [← hg] at g3
        have G3 := Lib.hid g3
        have HT3 := Lib.hid t3
        have HW3 := Lib.hid (t3.own HW.out (fun _ _ h => h))
        have HP3 := Lib.hid (HP.out.turn t3 (fun h => h) (fun _ _ h => h))
        have HOK3 := Lib.hid ((HOKF.out.turn t3 (fun _ _ h => h)).more (show w.heap.size ≤ w3.heap.size by have := HT.out.size; have := t3.size; omega))
        clear hw3 hg g3 t3 HT2 hct
        have P3 := Lib.hid (P1.out w3 HOK3.out.kd)
        have hput := putB_le f.kd HOKF.out.n (show f.b.length ≤ 60 by omega) HOKF.out.d
        have S3 := Lib.hid (show w.heap.size + 1 ≤ w3.heap.size from HP3.out.2.2.2)
        have H63 := Lib.hid (show (fieldsB (l.take k)).length + (putB f.kd).length ≤ maxLen by unfold maxLen; omega)
        have HBY := Lib.hid (show ((fieldsB (l.take k)).length + (putB f.kd).length) * 1 ≤ 140737488355328 by omega)
        go_upto_region 12 with (first
          | (refine wpList_load_row rfl _ _ rfl g rfl _ D (0, 0) _ G3.out Try.underlying31 rfl H1.out ?_)
          | (go_at_call 9; refine P3.out.mono ?_; rintro r w4 ⟨v4, rfl, hr4, ht4⟩; have HR4 := Lib.hid hr4; have HT4 := Lib.hid ht4; obtain ⟨A4, c4, rfl, hs4, hl4, hc4, hA4⟩ := own_sl hr4; have HS4 := Lib.hid (fun (j : Nat) (u : Value) (hu : ((putB f.kd).map bv)[j]? = some u) => show ∃ ad, A4 = some ad ∧ w4.cell? (ad.add j) = some u from (hs4 j u hu).elim fun ad h => ⟨ad, h.1, h.2.2⟩); have HA4 := Lib.hid hA4; have HW4 := Lib.hid (ht4.own HW3.out (fun _ _ h => h)); have HS44 := Lib.hid (Nat.le_trans S3.out ht4.size); clear hr4 ht4 hs4 hl4 hA4)
          | (refine wpList_append_any_at (o := ⟨some 35, _, _, _, _, _⟩) rfl _ _ 24 rfl (w.heap.size + 1) 5 i0 (.int .u8 0) 1 Try.underlying24 hi hz0 hz1 hz2 rfl u4 (fieldsB (l.take k)).length _ rfl HW4.out A4 (putB f.kd).length c4 ((putB f.kd).map bv) rfl HA4.out (List.length_map ..) HS4.out (bv_one (putB f.kd)) H63.out HBY.out HS44.out ?_; intro v5 w5 own5 gr5 at5; have HW5 := Lib.hid own5; have GR5 := Lib.hid gr5; have AT5 := Lib.hid at5; clear own5 gr5 at5))
        have T5 : Turn (fun i => some i = u4.ownBlock) wr w5 := ((HT3.out.trans HT4.out (fun _ _ h => h)).mono (fun _ _ h => h.elim)).grown GR5.out (fun i _ h => h)
        have HT5 := Lib.hid (show Turn (fun _ => False) w w5 from ((HT.out.trans HT3.out (fun _ _ h => h)).trans HT4.out (fun _ _ h => h)).grown GR5.out (fun i hi e => by have := (HW4.out.lt i e.symm).1; omega))
        have hu4 : ∀ i, some i = u4.ownBlock → w.heap.size + 1 ≤ i ∧ i < wr.heap.size := fun i e => HW.out.lt i e.symm
        have HP5 := Lib.hid (HP.out.turn T5 (fun e => by have := hu4 _ e; omega) (fun q e1 e2 => HFAR.out q e2.symm e1))
        have t35 : Turn (fun i => some i = u4.ownBlock) w3 w5 := (HT4.out.mono (fun _ _ h => h.elim)).grown GR5.out (fun i _ h => h)
        have g5 := t35.heap G3.out (fun e => by have := hu4 _ e; omega)
        have FAR5 := Lib.hid (show Far v5 u from fun q e1 e2 => by
          rcases AT5.out with h | h
          · exact HFAR.out q (h ▸ e1) e2
          · rw [h] at e1; injection e1 with e1
            have := (HP.out.2.1.lt q e2).2
            have := HT3.out.size
            have := HT4.out.size
            omega)
        have hs5 := (HOKF.out.turn T5 (fun i hi e => by have := hu4 _ e; omega)).s
        have d0 : w5.cell? ⟨g, 0, none⟩ = some (.int .i64 (f.k % 3)) := by rw [cell_of_row _ _ _ _ _ _ g5, HD.out]; simp [Fd.cells, Fd.kd]
        have d1 : w5.cell? ⟨g, 1, none⟩ = some (.int .u64 (f.n : Int)) := by rw [cell_of_row _ _ _ _ _ _ g5, HD.out]; simp [Fd.cells, Fd.kd]
        have d2 : w5.cell? ⟨g, 2, none⟩ = some (.slice f.A f.b.length f.c) := by rw [cell_of_row _ _ _ _ _ _ g5, HD.out]; simp [Fd.cells, Fd.kd]
        have G5 := Lib.hid g5
        have HS5 := Lib.hid hs5
        clear T5 t35 g5 hs5 hu4 P3 P1 K1 HR HW3 HP3 HOK3 HS4 HA4 HW4 GR5 AT5
        have hk3 : f.k % 3 = 0 ∨ f.k % 3 = 1 ∨ f.k % 3 = 2 := by omega
        rcases hk3 with hk3 | hk3 | hk3
        · rw [hk3] at d0
          have hpb : putB f.kd = numB f.n := by rw [putB, if_pos (by exact hk3)]; rfl
          have T6 := Lib.hid (pnum_any w.heap.size (w.heap.size + 1) u _ f.n w5 HP5.out HOKF.out.n (by omega))
          rw [hpb] at HFB HW5
          clear hpb hput hle2 hmm
          go_wp2_with (go_at_call 10; refine T6.out.mono ?_; rintro r w6 ⟨rfl, v6, hp6, st6⟩; have HP6 := Lib.hid hp6; have ST6 := Lib.hid st6; clear hp6 st6)
          go_roundw
          case rel =>
            obtain ⟨q1, q2, q3⟩ := fw_close HW5.out FAR5.out HP5.out ST6.out HT5.out
            exact ⟨k + 1, v6, by omega, by go_num, by rw [HFB.out, List.length_append, List.map_append]; exact q1, by rw [HFB.out]; exact HP6.out, q2, HB2.out, q3⟩
          case measure => simp [intOf]; omega
        · rw [hk3] at d0
          have hpb : putB f.kd = numB f.b.length ++ f.b := by rw [putB, if_neg (by rw [show f.kd.k = f.k % 3 from rfl, hk3]; decide), if_pos (by exact hk3)]; rfl
          have T6 := Lib.hid (ptext_any w.heap.size (w.heap.size + 1) u _ f.b f.A f.c w5 HP5.out (SlN.of HS5.out (fun i hi h => h.elim (fun h => by omega) (fun h => by have := (HP5.out.2.1.lt i h.symm).1; omega))) HOKF.out.a HOKF.out.c (by omega))
          rw [hpb] at HFB HW5
          clear hpb hput hle2 hmm
          go_wp2_with (go_at_call 11; refine T6.out.mono ?_; rintro r w6 ⟨rfl, v6, hp6, st6⟩; have HP6 := Lib.hid hp6; have ST6 := Lib.hid st6; clear hp6 st6)
          go_roundw
          case rel =>
            obtain ⟨q1, q2, q3⟩ := fw_close HW5.out FAR5.out HP5.out ST6.out HT5.out
            exact ⟨k + 1, v6, by omega, by go_num, by rw [HFB.out, List.length_append, List.map_append]; exact q1, by rw [HFB.out]; exact HP6.out, q2, HB2.out, q3⟩
          case measure => simp [intOf]; omega
        · rw [hk3] at d0
          have hpb : putB f.kd = f.d := by rw [putB, if_neg (by rw [show f.kd.k = f.k % 3 from rfl, hk3]; decide), if_neg (by rw [show f.kd.k = f.k % 3 from rfl, hk3]; decide)]; rfl
          have hd32 := HOKF.out.d
          have T6 := Lib.hid (pid_any w.heap.size (w.heap.size + 1) u _ f.d w5 HP5.out hd32 (by omega))
          have hr3 : w5.rangeAt g 3 (f.d.map bv) := fun j x hx => by
            rw [cell_of_row _ _ _ _ _ _ G5.out, HD.out]
            simp only [Fd.cells, Fd.kd, List.getElem?_toArray]
            rw [List.getElem?_append_right (by simp)]
            simpa using hx
          have HR3 := Lib.hid hr3
          have HI := Lib.hid (show (Try.prog.info? 29).map (·.size) = some (f.d.map bv).length by rw [List.length_map, hd32]; kernel_rfl)
          rw [hpb] at HFB HW5
          clear hpb hput hle2 hmm hr3 hd32
          go_wp2_with (first
            | (refine wpList_load_mid (op := ⟨some 51, _, _, _, _, _⟩) rfl _ _ rfl g 3 rfl (f.d.map bv) _ HR3.out Try.underlying29 rfl HI.out ?_)
            | (go_at_call 12; refine T6.out.mono ?_; rintro r w6 ⟨rfl, v6, hp6, st6⟩; have HP6 := Lib.hid hp6; have ST6 := Lib.hid st6; clear hp6 st6))
          go_roundw
          case rel =>
            obtain ⟨q1, q2, q3⟩ := fw_close HW5.out FAR5.out HP5.out ST6.out HT5.out
            exact ⟨k + 1, v6, by omega, by go_num, by rw [HFB.out, List.length_append, List.map_append]; exact q1, by rw [HFB.out]; exact HP6.out, q2, HB2.out, q3⟩
          case measure => simp [intOf]; omega
    · obtain rfl : k = l.length := by omega
      rw [List.take_length] at hown hp hb
      have hle := fieldsB_le l (fun f hf => ⟨(HOK.out f hf).1, hb f hf, (HOK.out f hf).2⟩)
      obtain ⟨A4, c4, rfl, hs4, -, hc4, hA4⟩ := own_sl hown
      have hw1 : w.heap.size ≤ wr.heap.size := ht.size
      have ta : Turn (fun _ => False) wr (wr.alloc (.cells (manyC A l.length c true) 39)) := (Turn.refl _ _).alloc _
      have hs1 : SlN (wr.alloc (.cells (manyC A l.length c true) 39)) (fun i => i = wr.heap.size) A4 ((fieldsB l).map bv) := (SlN.of (N := fun i => i = wr.heap.size) hs4 (fun i hi h => by omega)).turn ta (fun _ h => h.elim) (N' := fun i => i = wr.heap.size) (fun i hi h => h)
      have T1 := Lib.hid (read_many wr.heap.size w.heap.size A A4 c c4 _ l _ hs1 rfl hA4 hc4 (by omega) (heap_alloc_new wr _) hl12 ((HF.out.turn ht (fun _ _ h => h)).turn ta (fun _ _ h => h)) hw1 hb)
      have HT1 := Lib.hid (ht.trans ta (fun _ _ h => h))
      have HP1 := Lib.hid (hp.turn ta (fun h => h) (fun _ _ h => h))
      have HS1 := Lib.hid (ta.sl hs4 (fun _ _ h => h))
      have hpo : w.heap.size ≠ wr.heap.size := by have := lt_of_block hp.1; omega
      have hub : ∀ i, u.ownBlock = some i → i ≠ wr.heap.size := fun i e => by have := (hp.2.1.lt i e).2; omega
      have HUB := Lib.hid hub
      clear hown hp hfar hb hs4 hs1 ta ht hA4 hub
      go_wp2_with fail
      refine T1.out.mono ?_
      rintro r w2 ⟨t2, ho2, rfl⟩
      have c2 : w2.cell? ⟨wr.heap.size, 1, none⟩ = some (.bool true) := by rw [cell_of_row w2 _ 1 _ _ _ ho2]; rfl
      have hp2 := HP1.out.turn t2 (fun e => hpo e) (fun q e1 e2 => HUB.out q e1 e2)
      have T2 := Lib.hid (pbytes_any _ _ _ _ w2 hp2 (by omega))
      have HT2 := Lib.hid (HT1.out.trans t2 (fun i hi h => by omega))
      have HS2 := Lib.hid (t2.sl HS1.out (fun i hi h => by omega))
      clear t2 ho2 T1 hp2 HT1 HP1
      go_wp2_with fail
      refine T2.out.mono ?_
      rintro r w3 ⟨u3, rfl, ho3, t3⟩
      obtain ⟨A3, c3, rfl, hs3, hl3, -⟩ := own_sl ho3
      have b3 := rbytes_any A3 A4 c3 c4 _ _ _ _ w3 hs3 (t3.sl HS2.out (fun _ _ h => h)) (by unfold maxLen; omega) (by unfold maxLen; omega)
      rw [show decide (fieldsB l = fieldsB l) = true from decide_eq_true rfl] at b3
      have T3 := Lib.hid b3
      have c3' := fun n => show (w3.drewN n).cell? ⟨wr.heap.size, 1, none⟩ = _ from t3.cell c2 (fun h => h)
      have HT3 := Lib.hid (HT2.out.trans t3 (fun _ _ h => h))
      clear hs3 ho3 t3 hl3 T2 c2 b3
      go_wp2_with (first
        | (go_at_call 15; refine T3.out.mono ?_; rintro r w4 ⟨rfl, n4, rfl⟩)
        | (go_at_call 7; refine (AW.out _).mono ?_; rintro r w9 ⟨rfl, t9⟩))
      go_ret
      exact ⟨rfl, (HT3.out.drewN n4).trans t9 (fun _ _ h => h)⟩
theorem fieldWrites_walk (A : Option Addr) (c : Nat) (l : List Fd) (w : World) (hf : Fds w w.heap.size A l) (hm : l.length ≤ maxLen) :
    Calls Try.prog 3 #[.slice A l.length c] w fun e w' => e = .returned (.bool true) ∧ Below w.heap.size w w' :=
  (fieldWrites_any A c l w hf hm).mono fun _ _ ⟨h, t⟩ => ⟨h, t.below (fun _ _ h => h.elim) (Nat.le_refl _)⟩
end Go.Proofs.Ytjfjminfpdgcmaa
