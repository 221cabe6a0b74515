/- Merged: Layer 8: the shards of a transaction's inputs and outputs, by the code. Layer 8: the document's Spread. Layer 8: the code's Ins, Outs, Single and At. Layer 8: the document's example; 'MappingOf'. Layer 8: ints compared, as the document does: the same. -/
import Derived.Test.YtoclfohgchlpnaaDoorMpZ
import Derived.Test.YtoclfohgchlpnaaDoorMpY
import Derived.Test.YtoclfohgchlpnaaDoorTxD4
import Derived.Test.YtoclfohgchlpnaaDoorTxY
namespace Go.Proofs.YtoclfohgchlpnaaDoor
section
set_option linter.unusedVariables false
set_option linter.unusedSimpArgs false

open Go.RowKit
set_option maxRecDepth 100000 in
theorem built_pt33 (x0 x1 x2 x3 x4 x5 x6 x7 x8 x9 x10 x11 x12 x13 x14 x15 x16 x17 x18 x19 x20 x21 x22 x23 x24 x25 x26 x27 x28 x29 x30 x31 : Value) (i : Int) : Tryd.prog.built 25 [(0, .agg #[x0, x1, x2, x3, x4, x5, x6, x7, x8, x9, x10, x11, x12, x13, x14, x15, x16, x17, x18, x19, x20, x21, x22, x23, x24, x25, x26, x27, x28, x29, x30, x31]), (1, .int .i64 i)] = some #[x0, x1, x2, x3, x4, x5, x6, x7, x8, x9, x10, x11, x12, x13, x14, x15, x16, x17, x18, x19, x20, x21, x22, x23, x24, x25, x26, x27, x28, x29, x30, x31, .int .i64 i] := by kernel_rfl
set_option maxRecDepth 100000 in
theorem built_pt2 (l : List Value) (i : Int) (h : l.length = 32) : Tryd.prog.built 25 [(0, .agg l.toArray), (1, .int .i64 i)] = some (l ++ [Value.int .i64 i]).toArray := by
  match l, h with
  | [x0, x1, x2, x3, x4, x5, x6, x7, x8, x9, x10, x11, x12, x13, x14, x15, x16, x17, x18, x19, x20, x21, x22, x23, x24, x25, x26, x27, x28, x29, x30, x31], _ => exact built_pt33 x0 x1 x2 x3 x4 x5 x6 x7 x8 x9 x10 x11 x12 x13 x14 x15 x16 x17 x18 x19 x20 x21 x22 x23 x24 x25 x26 x27 x28 x29 x30 x31 i
/-- The shards of inputs, and of outputs, of a transaction that is right. -/
def insZ (t : Ptx) (n : Int) : List Int := t.ins.map fun p => (shO p.d p.x n : Int)
def outsZ (t : Ptx) (n : Int) : List Int := (List.range t.outs.length).map fun i : Nat => (shO (idT t) (i : Int) n : Int)
def okT (t : Ptx) (n : Int) : Bool := inN n && decide (chk t = 0)
def spI (t : Ptx) (n : Int) : List Int := if okT t n = true then insZ t n else []
def spO (t : Ptx) (n : Int) : List Int := if okT t n = true then outsZ t n else []
set_option maxRecDepth 100000 in
theorem insZ_len (t : Ptx) (n : Int) : (insZ t n).length = t.ins.length := by simp [insZ]
set_option maxRecDepth 100000 in
theorem outsZ_len (t : Ptx) (n : Int) : (outsZ t n).length = t.outs.length := by simp [outsZ]
set_option maxRecDepth 100000 in
theorem insZ_succ {t : Ptx} {n : Int} {k : Nat} (h : k < t.ins.length) : (insZ t n).take (k + 1) = (insZ t n).take k ++ [(shO t.ins[k].d t.ins[k].x n : Int)] := by
  rw [List.take_succ_eq_append_getElem (by rw [insZ_len]; exact h)]
  simp [insZ]
set_option maxRecDepth 100000 in
theorem outsZ_succ {t : Ptx} {n : Int} {k : Nat} (h : k < t.outs.length) : (outsZ t n).take (k + 1) = (outsZ t n).take k ++ [(shO (idT t) (k : Int) n : Int)] := by
  rw [List.take_succ_eq_append_getElem (by rw [outsZ_len]; exact h)]
  simp [outsZ]
set_option maxRecDepth 100000 in
theorem okT_no1 {t : Ptx} {n : Int} (h : inN n = false) : okT t n = false := by unfold okT; rw [h]; rfl
set_option maxRecDepth 100000 in
theorem okT_no2 {t : Ptx} {n : Int} (h : ¬ chk t = 0) : okT t n = false := by unfold okT; rw [decide_eq_false h]; simp
set_option maxRecDepth 100000 in
theorem okT_yes {t : Ptx} {n : Int} (h : inN n = true) (h2 : chk t = 0) : okT t n = true := by unfold okT; rw [h, decide_eq_true h2]; rfl
set_option maxRecDepth 100000 in
theorem sp_no {t : Ptx} {n : Int} (h : okT t n = false) : spI t n = [] ∧ spO t n = [] := by
  unfold spI spO; rw [h]; exact ⟨rfl, rfl⟩
set_option maxRecDepth 100000 in
theorem sp_yes {t : Ptx} {n : Int} (h : okT t n = true) : spI t n = insZ t n ∧ spO t n = outsZ t n := by
  unfold spI spO; rw [h]; exact ⟨rfl, rfl⟩
set_option maxRecDepth 100000 in
set_option maxHeartbeats 8000000 in
theorem shardsOf_any (Ai Ao : Option Addr) (ci co B : Nat) (t : Ptx) (n : Int) (w : World) (h : TxAt w B Ai ci Ao co t) (hBw : B ≤ w.heap.size) (hG : Glob w) :
    Calls Tryd.prog 27 #[txV Ai ci Ao co t, .int .i64 n] w fun e w' => ∃ u v, e = .returned (.tuple #[u, v]) ∧ w'.ownsRow w.heap.size 3 1 u (spI t n).length (i64s (spI t n)) ∧ w'.ownsRow w.heap.size 3 1 v (spO t n).length (i64s (spO t n)) ∧ Below w.heap.size w w' := by
  obtain ⟨i0, hi, hz0, hz1, hz2⟩ := info_parts info_i64
  obtain ⟨w0, hw0⟩ : ∃ w0, w0 = w.alloc (.cells #[.slice Ai t.ins.length ci, .slice Ao t.outs.length co, .int .u64 (t.fee : Int), .int .i64 t.exp] 35) := ⟨_, rfl⟩
  have hT0 : Turn (fun _ => False) w w0 := by rw [hw0]; exact (Turn.refl _ _).alloc _
  have hga : w0.heap[w.heap.size]? = some (.cells #[.slice Ai t.ins.length ci, .slice Ao t.outs.length co, .int .u64 (t.fee : Int), .int .i64 t.exp] 35 (0, 0)) := by rw [hw0]; exact heap_alloc_new _ _
  have hb0 : Below w.heap.size w w0 := turn_stp hT0
  have CF := Lib.hid (fun (w' : World) (k : Stp w0 w') => (row4 (heap_below k hga)).1)
  have HST := Lib.hid (fun (x y : World) (h : Stp w0 x) (k : Below x.heap.size x y) => show Stp w0 y from Stp.trans _ _ _ h k)
  have HB0 := Lib.hid (fun (y : World) (k : Stp w0 y) => show Below w.heap.size w y from hb0.trans (Below.mono k hb0.size))
  have at1 := h.turn hT0 (fun _ _ h => h)
  have AT1 := Lib.hid (fun (w' : World) (k : Stp w0 w') => at1.turn (Turn.of_below k) (fun _ _ h => h))
  have HSZ := Lib.hid (fun (w' : World) (k : Stp w0 w') => show B ≤ w'.heap.size from Nat.le_trans hBw (Nat.le_trans hT0.size (Below.size k)))
  have hs0 : w.heap.size ≤ w0.heap.size := hT0.size
  have GL := Lib.hid (fun (w' : World) (k : Stp w0 w') => show Glob w' from (hG.below hb0 hG.1).below k (hG.below hb0 hG.1).1)
  have MW := Lib.hid mwithin_any
  have K1 := Lib.hid (fun (w' : World) (k : Stp w0 w') => (check_any Ai Ao ci co _ t w' (AT1.out w' k)).mono (fun _ _ ⟨h1, h2⟩ => And.intro h1 (show Below w'.heap.size w' _ from turn_stp h2)))
  have ID1 := Lib.hid (fun (w' : World) (k : Stp w0 w') => tid_any Ai Ao ci co _ t w' (AT1.out w' k) (HSZ.out w' k) (GL.out w' k))
  obtain ⟨c0, c1, c2, c3⟩ := CF.out w0 (Stp.refl _)
  have HW := Lib.hid h
  unfold txV at K1 ID1 ⊢
  clear h hT0 hga hb0 at1 hG hBw
  have ENT : Calls Tryd.prog 27 #[.agg #[.slice Ai t.ins.length ci, .slice Ao t.outs.length co, .int .u64 (t.fee : Int), .int .i64 t.exp], .int .i64 n] w fun e w' => ∃ u v, e = .returned (.tuple #[u, v]) ∧ w'.ownsRow w0.heap.size 3 1 u (spI t n).length (i64s (spI t n)) ∧ w'.ownsRow w0.heap.size 3 1 v (spO t n).length (i64s (spO t n)) ∧ Stp w0 w' := by
    by_cases hn : inN n = true
    · by_cases hc : chk t = 0
      · have hwi := chk_ok hc
        have hlen := within_len hwi
        rw [hc] at K1
        obtain ⟨e1, e2⟩ := sp_yes (okT_yes hn hc)
        rw [e1, e2]
        have W1 := Lib.hid (fun w => show Calls _ _ _ w _ from (MW.out n w).mono (fun e w' h => show e = .returned (.bool true) ∧ Below w.heap.size w w' by rw [hn] at h; exact h))
        clear hn hc hwi e1 e2 MW
        obtain ⟨ID, hID⟩ : ∃ ID, ID = idT t := ⟨_, rfl⟩
        have hI32 : ID.length = 32 := by rw [hID]; exact idT_len t
        obtain ⟨DA, hDA⟩ : ∃ DA, DA = (ID.map bv).toArray := ⟨_, rfl⟩
        rw [← hID, ← hDA] at ID1
        have D1 := Lib.hid (show (Tryd.prog.info? 23).map (·.size) = some DA.size by rw [hDA, List.size_toArray, List.length_map, hI32]; kernel_rfl)
        have D2 := Lib.hid (show ZId.size = DA.size by simp [hDA, zeros_len, hI32])
        have D3 := Lib.hid (show DA.all (·.oneCell') = true by rw [hDA]; exact bvs_one _)
        have D4 := Lib.hid (show (Tryd.prog.info? 23).map (·.size) = some (ID.map bv).length by rw [List.length_map, hI32]; kernel_rfl)
        have HID := Lib.hid hID
        have HI32 := Lib.hid hI32
        have HDA := Lib.hid hDA
        have IS := Lib.hid (fun (k : Nat) (hk : k < t.ins.length) => insZ_succ (n := n) hk)
        have OS := Lib.hid (fun (k : Nat) (hk : k < t.outs.length) => outsZ_succ (n := n) hk)
        rw [← hID] at OS
        have IL := Lib.hid (insZ_len t n)
        have OL := Lib.hid (outsZ_len t n)
        have HBP := Lib.hid (fun (k : Nat) => built_pt2 (ID.map bv) (k : Int) (by rw [List.length_map]; exact hI32))
        rw [← hDA] at HBP
        have hzd := zero_in
        change ∀ w, _ = Result.ok (Value.agg ZIn) w at hzd
        generalize hIZ : insZ t n = iz at *
        generalize hOZ : outsZ t n = oz at *
        clear hID hI32 hDA hIZ hOZ
        go_enter Tryd.func27, Tryd.ntmps27
        go_upto_region 1 with fail
        change Code.wp _ _ _ _ (w.alloc (.cells #[.slice Ai t.ins.length ci, .slice Ao t.outs.length co, .int .u64 (t.fee : Int), .int .i64 t.exp] 35))
        rw [← hw0]
        clear hw0
        go_wp2_with (go_at_call 21; refine stop ?_)
        unfold Stop
        refine (W1.out w0).mono ?_
        rintro e w1 ⟨rfl, hb1⟩
        have H1 := Lib.hid (show Stp w0 w1 from hb1)
        clear c0 c1 c2 c3 hb1
        obtain ⟨c0, c1, c2, c3⟩ := CF.out _ H1.out
        go_wp2_with (go_at_call 39; refine stop ?_)
        unfold Stop
        refine (K1.out _ H1.out).mono ?_
        rintro e w2 ⟨rfl, hb2⟩
        have H2 := Lib.hid (HST.out _ _ H1.out hb2)
        clear c0 c1 c2 c3 hb2
        obtain ⟨c0, c1, c2, c3⟩ := CF.out _ H2.out
        go_upto_region 4 with fail
        clear c0 c1 c2 c3
        go_loopw [4, 25] (fun v i wr => ∃ k : Nat, k ≤ t.ins.length ∧ i = .int .i64 k ∧ wr.ownsRow w0.heap.size 3 1 v k (i64s (iz.take k)) ∧ Stp w0 wr) (fun _ i _ => t.ins.length - (intOf i).toNat)
        case atStart => exact ⟨0, Nat.zero_le _, rfl, World.ownsRow_nil _ _ _ _, H2.out⟩
        case round =>
          clear H1 H2
          obtain ⟨k, hk, rfl, hown, hst⟩ := hrel
          have HO := Lib.hid hown
          have HS := Lib.hid hst
          have hsz : w0.heap.size ≤ wr.heap.size := Below.size hst
          clear hown hst
          by_cases hlt : k < t.ins.length
          · have hlk := List.getElem?_eq_getElem hlt
            obtain ⟨hok, b, o, S, cp, hAi, hb, hs, hr⟩ := (AT1.out _ HS.out).ins k t.ins[k] hlk
            subst hAi
            obtain ⟨p, hp⟩ : ∃ p, p = t.ins[k] := ⟨_, rfl⟩
            have HSET := Lib.hid (IS.out k hlt)
            rw [← hp] at hok hr HSET
            have HL := Lib.hid (show (Tryd.prog.info? 58).map (·.size) = some (p.cells S cp).length by rw [p.len S cp hok.d]; kernel_rfl)
            obtain ⟨D, hD⟩ : ∃ D, D = (p.cells S cp).toArray := ⟨_, rfl⟩
            have sD : D.size = 35 := by rw [hD, List.size_toArray, p.len S cp hok.d]
            have E1 := Lib.hid (show (Tryd.prog.info? 58).map (·.size) = some D.size by rw [sD]; kernel_rfl)
            have E2 := Lib.hid (show ZIn.size = D.size by rw [sD]; rfl)
            have E3 := Lib.hid (show D.all (·.oneCell') = true by rw [hD]; exact p.one S cp)
            have HR := Lib.hid hr
            obtain ⟨w4, hw4⟩ : ∃ w4, w4 = wr.alloc (.cells D 58) := ⟨_, rfl⟩
            have hb4 : Below wr.heap.size wr w4 := by rw [hw4]; exact (Below.refl _ _).alloc (Nat.le_refl _) _
            have HPT := Lib.hid (show w4.rangeAt wr.heap.size 0 (recV p.d (.int .i64 p.x)) from Pin.point (p := p) (S := S) (c := cp) (t := 58) (fr := (0, 0)) (by rw [hw4, ← hD]; exact heap_alloc_new wr _))
            have HLP := Lib.hid (show (Tryd.prog.info? 25).map (·.size) = some (recV p.d (.int .i64 p.x)).length by rw [recV_len _ _ hok.d]; kernel_rfl)
            have HS4 := Lib.hid (HST.out _ _ HS.out hb4)
            have HO4 := Lib.hid (own_below HO.out hb4)
            have MO := Lib.hid (mof_any p.d p.x n w4 hok.d (GL.out _ HS4.out))
            have HSW := Lib.hid (show (wr.alloc (.cells ZIn 58)).setRow wr.heap.size D = w4 by rw [World.setRow_alloc_new, hw4])
            have HDD := Lib.hid hD
            clear hr hok hp hs hlk hD sD hb4 hw4
            generalize recV p.d (.int .i64 p.x) = RV at *
            generalize hsv : shO p.d p.x n = sv at *
            generalize inO p.x n = bo at *
            clear hsv
            go_wp2_with (first
              | (refine wpList_load_mid (op := ⟨some 28, _, _, _, _, _⟩) rfl _ _ rfl b (o + k * 35) rfl (p.cells S cp) _ HR.out Tryd.underlying58 rfl HL.out ?_; rw [← HDD.out])
              | (refine wpList_store_row (o := ⟨none, .store 58 _ _, _, _, _, _⟩) rfl _ _ _ rfl wr.heap.size D rfl rfl 58 _ (heap_alloc_new wr _) E1.out E2.out E3.out ?_; rw [HSW.out])
              | (refine wpList_load_mid (op := ⟨some 31, _, _, _, _, _⟩) rfl _ _ rfl wr.heap.size 0 rfl RV _ HPT.out Tryd.underlying25 rfl HLP.out ?_; refine stop ?_))
            unfold Stop
            go_wp2_with (go_at_call 7; refine stop ?_)
            unfold Stop
            refine MO.out.mono ?_
            rintro e w5 ⟨rfl, hb5⟩
            have HS5 := Lib.hid (HST.out _ _ HS4.out hb5)
            have HO5 := Lib.hid (own_below HO4.out hb5)
            have hsz5 : w0.heap.size ≤ w5.heap.size := Below.size HS5.out
            have hk16 : k ≤ 16 := by omega
            clear hb5
            go_wp2_with (at_builtin; refine wpList_append_own (o := ⟨some 39, _, _, _, _, _⟩) _ rfl _ _ 37 rfl w0.heap.size 3 i0 (.int .i64 0) 1 8 Tryd.underlying37 hi hz0 hz1 hz2 rfl (by decide) _ _ _ rfl (HO5.out.alloc _) ⟨w5.heap.size, 0, none⟩ 1 1 [.int .i64 (sv : Int)] rfl rfl ?c1 ?c2 ?c3 ?c4 ?c5 ?_)
            case c1 => exact cell_one_new w5 _ _
            case c2 => intro u hu; simp at hu; subst hu; rfl
            case c3 => unfold maxLen; omega
            case c4 => omega
            case c5 => exact Nat.le_trans hsz5 (by simp)
            intro v' w8 hown' hgrow _
            have hg2 : Below w0.heap.size w0 w8 := hgrow_of HO5.out HS5.out hsz5 (Nat.le_refl _) hgrow
            have ho2 : w8.ownsRow w0.heap.size 3 1 v' (k + 1) (i64s (iz.take (k + 1))) := by
              rw [HSET.out, i64s_app]; exact hown'
            clear hown' hgrow
            go_wp2
            go_roundw
            case rel => exact ⟨k + 1, by omega, by go_num, ho2, hg2⟩
            case measure => simp [intOf]; omega
          · have hk' : k = t.ins.length := by omega
            subst hk'
            have HO5 := Lib.hid (show wr.ownsRow w0.heap.size 3 1 u4 t.ins.length (i64s iz) by have := HO.out; rw [← IL.out, List.take_length] at this; rw [← IL.out]; exact this)
            clear HO hlt hk
            obtain ⟨c0, c1, c2, c3⟩ := CF.out _ HS.out
            go_wp2_with (go_at_call 40; refine stop ?_)
            unfold Stop
            refine (ID1.out _ HS.out).mono ?_
            rintro e w6 ⟨rfl, hb6⟩
            have hb67 : Below w6.heap.size w6 (w6.alloc (.cells ZId 23)) := (Below.refl _ _).alloc (Nat.le_refl _) _
            have HZ7 := Lib.hid (show (w6.alloc (.cells ZId 23)).heap[w6.heap.size]? = some (.cells ZId 23 (0, 0)) from heap_alloc_new _ _)
            obtain ⟨w7, hw7⟩ : ∃ w7, w7 = (w6.alloc (.cells ZId 23)).setRow w6.heap.size DA := ⟨_, rfl⟩
            have hb7 : Below wr.heap.size wr w7 := by rw [hw7]; exact below_setRow (hb6.trans (hb67.mono hb6.size)) hb6.size DA
            have hr7 : w7.rangeAt w6.heap.size 0 (ID.map bv) := range_row (t := 23) (fr := (0, 0)) (by rw [hw7, ← HDA.out]; exact setRow_heap _ w6.heap.size ZId DA _ _ HZ7.out)
            have hg7 : w7.heap[w6.heap.size]? = some (.cells DA 23 (0, 0)) := by rw [hw7]; exact setRow_heap _ w6.heap.size ZId DA _ _ HZ7.out
            have HS7 := Lib.hid (HST.out _ _ HS.out hb7)
            have HO7 := Lib.hid (own_below HO5.out hb7)
            have HR7 := Lib.hid (fun (w' : World) (k : Below w7.heap.size w7 w') => show w'.rangeAt w6.heap.size 0 (ID.map bv) from range_row (t := 23) (fr := (0, 0)) (by rw [← HDA.out]; exact heap_below k hg7))
            have HW7 := Lib.hid hw7
            have hsz7 : w0.heap.size ≤ w7.heap.size := Below.size HS7.out
            clear hb6 hb67 hb7 hr7 hg7 c0 c1 c2 c3 hw7
            go_wp2_with (refine wpList_store_row (o := ⟨none, .store 23 _ _, _, _, _, _⟩) rfl _ _ _ rfl w6.heap.size DA rfl rfl _ ZId HZ7.out D1.out D2.out D3.out ?_; refine stop ?_)
            unfold Stop
            change wpList _ _ _ _ _ ((w6.alloc (.cells ZId 23)).setRow w6.heap.size DA)
            rw [← HW7.out]
            clear HW7 HZ7
            obtain ⟨c0, c1, c2, c3⟩ := CF.out _ HS7.out
            go_upto_region 11 with fail
            clear c0 c1 c2 c3
            go_loopw [5, 46] (fun v i wr => ∃ k : Nat, k ≤ t.outs.length ∧ i = .int .i64 k ∧ wr.ownsRow w7.heap.size 3 1 v k (i64s (oz.take k)) ∧ Below w7.heap.size w7 wr) (fun _ i _ => t.outs.length - (intOf i).toNat)
            case atStart => exact ⟨0, Nat.zero_le _, rfl, World.ownsRow_nil _ _ _ _, Below.refl _ _⟩
            case round =>
              obtain ⟨k, hk, rfl, hown, hst⟩ := hrel
              have HOq := Lib.hid hown
              have HSq := Lib.hid hst
              have hszq : w7.heap.size ≤ wr.heap.size := Below.size hst
              clear hown hst
              by_cases hlt : k < t.outs.length
              · have HSET := Lib.hid (OS.out k hlt)
                have MO := Lib.hid (mof_any ID (k : Int) n wr HI32.out (GL.out _ (HST.out _ _ HS7.out HSq.out)))
                have HBQ := Lib.hid (HBP.out k)
                have HRQ := Lib.hid (HR7.out _ HSq.out)
                have hk16 : k ≤ 16 := by omega
                unfold recV at MO
                generalize (ID.map bv ++ [Value.int .i64 (k : Int)]).toArray = RV at *
                generalize hsv : shO ID (k : Int) n = sv at *
                generalize inO (k : Int) n = bo at *
                clear hsv
                go_wp2_with (first
                  | (refine wpList_load_mid (op := ⟨some 50, _, _, _, _, _⟩) rfl _ _ rfl w6.heap.size 0 rfl (ID.map bv) _ HRQ.out Tryd.underlying23 rfl D4.out ?_; rw [← HDA.out])
                  | (refine wpList_build_eq (o := ⟨some 52, _, _, _, _, _⟩) rfl _ _ rfl RV HBQ.out ?_; refine stop ?_))
                unfold Stop
                go_wp2_with (go_at_call 7; refine stop ?_)
                unfold Stop
                refine MO.out.mono ?_
                rintro e w5 ⟨rfl, hb5⟩
                have HS5 := Lib.hid (HSq.out.trans (hb5.mono HSq.out.size))
                have HO5 := Lib.hid (own_below HOq.out hb5)
                have hsz5 : w7.heap.size ≤ w5.heap.size := HS5.out.size
                clear hb5
                go_wp2_with (at_builtin; refine wpList_append_own (o := ⟨some 60, _, _, _, _, _⟩) _ rfl _ _ 37 rfl w7.heap.size 3 i0 (.int .i64 0) 1 8 Tryd.underlying37 hi hz0 hz1 hz2 rfl (by decide) _ _ _ rfl (HO5.out.alloc _) ⟨w5.heap.size, 0, none⟩ 1 1 [.int .i64 (sv : Int)] rfl rfl ?c1 ?c2 ?c3 ?c4 ?c5 ?_)
                case c1 => exact cell_one_new w5 _ _
                case c2 => intro u hu; simp at hu; subst hu; rfl
                case c3 => unfold maxLen; omega
                case c4 => omega
                case c5 => exact Nat.le_trans hsz5 (by simp)
                intro v' w8 hown' hgrow _
                have hg2 : Below w7.heap.size w7 w8 := hgrow_of HO5.out HS5.out hsz5 (Nat.le_refl _) hgrow
                have ho2 : w8.ownsRow w7.heap.size 3 1 v' (k + 1) (i64s (oz.take (k + 1))) := by
                  rw [HSET.out, i64s_app]; exact hown'
                clear hown' hgrow
                go_wp2
                go_roundw
                case rel => exact ⟨k + 1, by omega, by go_num, ho2, hg2⟩
                case measure => simp [intOf]; omega
              · have hk' : k = t.outs.length := by omega
                subst hk'
                have HOz := Lib.hid (show wr.ownsRow w7.heap.size 3 1 u5 t.outs.length (i64s oz) by have := HOq.out; rw [← OL.out, List.take_length] at this; rw [← OL.out]; exact this)
                have HIz := Lib.hid (own_below HO7.out HSq.out)
                have HFin := Lib.hid (HST.out _ _ HS7.out HSq.out)
                clear HOq hlt hk
                go_wp2
                go_ret2
                exact ⟨_, _, rfl, by rw [IL.out]; exact HIz.out, by rw [OL.out]; exact own_more HOz.out hsz7, HFin.out⟩
      · have hz1 : ((chk t : Int) != 0) = true := by simp; omega
        obtain ⟨e1, e2⟩ := sp_no (okT_no2 (n := n) hc)
        rw [e1, e2]
        have W1 := Lib.hid (fun w => show Calls _ _ _ w _ from (MW.out n w).mono (fun e w' h => show e = .returned (.bool true) ∧ Below w.heap.size w w' by rw [hn] at h; exact h))
        clear hc hn e1 e2 MW ID1
        generalize chk t = z at *
        go_enter Tryd.func27, Tryd.ntmps27
        go_upto_region 1 with fail
        change Code.wp _ _ _ _ (w.alloc (.cells #[.slice Ai t.ins.length ci, .slice Ao t.outs.length co, .int .u64 (t.fee : Int), .int .i64 t.exp] 35))
        rw [← hw0]
        clear hw0
        go_wp2_with (go_at_call 21; refine stop ?_)
        unfold Stop
        refine (W1.out w0).mono ?_
        rintro e w1 ⟨rfl, hb1⟩
        have H1 := Lib.hid (show Stp w0 w1 from hb1)
        clear c0 c1 c2 c3 hb1
        obtain ⟨c0, c1, c2, c3⟩ := CF.out _ H1.out
        go_wp2_with (go_at_call 39; refine stop ?_)
        unfold Stop
        refine (K1.out _ H1.out).mono ?_
        rintro e w2 ⟨rfl, hb2⟩
        have H2 := Lib.hid (HST.out _ _ H1.out hb2)
        clear c0 c1 c2 c3 hb2
        go_wp2
        go_ret2
        exact ⟨_, _, rfl, World.ownsRow_nil _ _ _ _, World.ownsRow_nil _ _ _ _, H2.out⟩
    · have hn' : inN n = false := by simpa using hn
      obtain ⟨e1, e2⟩ := sp_no (okT_no1 (t := t) hn')
      rw [e1, e2]
      have W1 := Lib.hid (fun w => show Calls _ _ _ w _ from (MW.out n w).mono (fun e w' h => show e = .returned (.bool false) ∧ Below w.heap.size w w' by rw [hn'] at h; exact h))
      clear hn hn' e1 e2 MW ID1 K1
      go_enter Tryd.func27, Tryd.ntmps27
      go_upto_region 1 with fail
      change Code.wp _ _ _ _ (w.alloc (.cells #[.slice Ai t.ins.length ci, .slice Ao t.outs.length co, .int .u64 (t.fee : Int), .int .i64 t.exp] 35))
      rw [← hw0]
      clear hw0
      go_wp2_with (go_at_call 21; refine stop ?_)
      unfold Stop
      refine (W1.out w0).mono ?_
      rintro e w1 ⟨rfl, hb1⟩
      have H1 := Lib.hid (show Stp w0 w1 from hb1)
      clear c0 c1 c2 c3 hb1
      go_wp2
      go_ret2
      exact ⟨_, _, rfl, World.ownsRow_nil _ _ _ _, World.ownsRow_nil _ _ _ _, H1.out⟩
  exact ENT.mono fun e w' ⟨u, v, h1, h2, h3, h4⟩ => ⟨u, v, h1, own_more h2 hs0, own_more h3 hs0, HB0.out _ h4⟩

end
section
set_option linter.unusedVariables false
set_option linter.unusedSimpArgs false

open Go.RowKit
set_option maxRecDepth 100000 in
theorem shR_yes {d : List B8} {x n : Int} (h : inO x n = true) : shR d x n = (shO d x n : Int) := by unfold shR; rw [if_pos h]
set_option maxRecDepth 100000 in
theorem ins_in {t : Ptx} {n : Int} (hn : inN n = true) (hw : withinB t = true) (p : Pin) (hp : p ∈ t.ins) : inO p.x n = true := by
  have h1 : (t.ins.any outB) = false := by
    unfold withinB at hw
    rw [Bool.and_eq_true] at hw
    simpa using hw.2
  have h2 := outB_false (by simpa using (List.any_eq_false.1 h1) p hp)
  exact inO_yes (of_decide_eq_true hn) h2.2
set_option maxRecDepth 100000 in
theorem outs_in {t : Ptx} {n : Int} (hn : inN n = true) (hw : withinB t = true) (k : Nat) (hk : k < t.outs.length) : inO (k : Int) n = true := by
  have := (within_len hw).2
  exact inO_yes (of_decide_eq_true hn) ⟨by omega, by omega⟩
def spB (t : Ptx) (n : Int) (b : Bool) : List Int := if b = true then spO t n else spI t n
set_option maxRecDepth 100000 in
set_option maxHeartbeats 8000000 in
theorem spread_any (Ai Ao : Option Addr) (ci co B : Nat) (t : Ptx) (n : Int) (bo : Bool) (w : World) (h : TxAt w B Ai ci Ao co t) (hBw : B ≤ w.heap.size) (hG : Glob w) :
    Calls Tryd.prog 11 #[txV Ai ci Ao co t, .int .i64 n, .bool bo] w fun e w' => ∃ v, e = .returned v ∧ w'.ownsRow w.heap.size 3 1 v (spB t n bo).length (i64s (spB t n bo)) ∧ Below w.heap.size w w' := by
  obtain ⟨i0, hi, hz0, hz1, hz2⟩ := info_parts info_i64
  obtain ⟨w0, hw0⟩ : ∃ w0, w0 = w.alloc (.cells #[.slice Ai t.ins.length ci, .slice Ao t.outs.length co, .int .u64 (t.fee : Int), .int .i64 t.exp] 35) := ⟨_, rfl⟩
  have hT0 : Turn (fun _ => False) w w0 := by rw [hw0]; exact (Turn.refl _ _).alloc _
  have hga : w0.heap[w.heap.size]? = some (.cells #[.slice Ai t.ins.length ci, .slice Ao t.outs.length co, .int .u64 (t.fee : Int), .int .i64 t.exp] 35 (0, 0)) := by rw [hw0]; exact heap_alloc_new _ _
  have hb0 : Below w.heap.size w w0 := turn_stp hT0
  have CF := Lib.hid (fun (w' : World) (k : Stp w0 w') => (row4 (heap_below k hga)).1)
  have HST := Lib.hid (fun (x y : World) (h : Stp w0 x) (k : Below x.heap.size x y) => show Stp w0 y from Stp.trans _ _ _ h k)
  have HB0 := Lib.hid (fun (y : World) (k : Stp w0 y) => show Below w.heap.size w y from hb0.trans (Below.mono k hb0.size))
  have at1 := h.turn hT0 (fun _ _ h => h)
  have AT1 := Lib.hid (fun (w' : World) (k : Stp w0 w') => at1.turn (Turn.of_below k) (fun _ _ h => h))
  have HSZ := Lib.hid (fun (w' : World) (k : Stp w0 w') => show B ≤ w'.heap.size from Nat.le_trans hBw (Nat.le_trans hT0.size (Below.size k)))
  have H2S := Lib.hid (fun (w' : World) (k : Stp w0 w') => show 2 ≤ w'.heap.size from ((hG.below hb0 hG.1).below k (hG.below hb0 hG.1).1).1)
  have hs0 : w.heap.size ≤ w0.heap.size := hT0.size
  have K1 := Lib.hid (fun (w' : World) (k : Stp w0 w') => (rcheck_any Ai Ao ci co _ t w' (AT1.out w' k)).mono (fun _ _ ⟨h1, h2⟩ => And.intro h1 (show Below w'.heap.size w' _ from turn_stp h2)))
  obtain ⟨c0, c1, c2, c3⟩ := CF.out w0 (Stp.refl _)
  unfold txV at K1 ⊢
  clear h hT0 hga hb0 at1 hG hBw
  have ENT : Calls Tryd.prog 11 #[.agg #[.slice Ai t.ins.length ci, .slice Ao t.outs.length co, .int .u64 (t.fee : Int), .int .i64 t.exp], .int .i64 n, .bool bo] w fun e w' => ∃ v, e = .returned v ∧ w'.ownsRow w0.heap.size 3 1 v (spB t n bo).length (i64s (spB t n bo)) ∧ Stp w0 w' := by
    by_cases hc : chk t = 0
    · rw [hc] at K1
      by_cases hn : inN n = true
      · have hwi := chk_ok hc
        have hlen := within_len hwi
        obtain ⟨e1, e2⟩ := sp_yes (okT_yes hn hc)
        have hn' := of_decide_eq_true hn
        have d1 : decide (n < 1) = false := decide_eq_false (by omega)
        have d2 : decide (n > 64) = false := decide_eq_false (by omega)
        have d2' : decide (64 < n) = false := decide_eq_false (by omega)
        have INI := Lib.hid (ins_in hn hwi)
        have INO := Lib.hid (outs_in hn hwi)
        cases bo
        · have e3 : spB t n false = insZ t n := by unfold spB; rw [e1]; rfl
          rw [e3]
          have IS := Lib.hid (fun (k : Nat) (hk : k < t.ins.length) => insZ_succ (n := n) hk)
          have IL := Lib.hid (insZ_len t n)
          generalize hIZ : insZ t n = iz at *
          clear hn hn' hc hwi e1 e2 e3 hIZ INO
          go_enter Tryd.func11, Tryd.ntmps11
          go_upto_region 1 with fail
          change Code.wp _ _ _ _ (w.alloc (.cells #[.slice Ai t.ins.length ci, .slice Ao t.outs.length co, .int .u64 (t.fee : Int), .int .i64 t.exp] 35))
          rw [← hw0]
          clear hw0
          go_wp2_with (go_at_call 19; refine stop ?_)
          unfold Stop
          refine (K1.out _ (Stp.refl _)).mono ?_
          rintro e w1 ⟨rfl, hb1⟩
          have H1 := Lib.hid (show Stp w0 w1 from hb1)
          clear c0 c1 c2 c3 hb1
          go_upto_region 6 with fail
          go_loopw [7, 8] (fun v i wr => ∃ k : Nat, k ≤ t.ins.length ∧ i = .int .i64 k ∧ wr.ownsRow w0.heap.size 3 1 v k (i64s (iz.take k)) ∧ Stp w0 wr) (fun _ i _ => t.ins.length - (intOf i).toNat)
          case atStart => exact ⟨0, Nat.zero_le _, rfl, World.ownsRow_nil _ _ _ _, H1.out⟩
          case round =>
            clear H1
            obtain ⟨k, hk, rfl, hown, hst⟩ := hrel
            have HO := Lib.hid hown
            have HS := Lib.hid hst
            have hsz : w0.heap.size ≤ wr.heap.size := Below.size hst
            obtain ⟨c0, c1, c2, c3⟩ := CF.out _ HS.out
            clear hown hst
            by_cases hlt : k < t.ins.length
            · have hlk := List.getElem?_eq_getElem hlt
              obtain ⟨hok, b, o, S, cp, hAi, hb, hs, hr⟩ := (AT1.out _ HS.out).ins k t.ins[k] hlk
              subst hAi
              have hin := INI.out _ (List.getElem_mem hlt)
              obtain ⟨p, hp⟩ : ∃ p, p = t.ins[k] := ⟨_, rfl⟩
              have HSET := Lib.hid (IS.out k hlt)
              rw [← hp] at hok hr HSET hin
              have HPT := Lib.hid (show wr.rangeAt b (o + k * 35) (recV p.d (.int .i64 p.x)) from fun j v hj => hr j v (by
                have hc : p.cells S cp = recV p.d (.int .i64 p.x) ++ [.int .u64 (p.n : Int), .slice S p.b.length cp] := by unfold Pin.cells recV; simp
                rw [hc, List.getElem?_append_left (List.getElem?_eq_some_iff.1 hj).1]; exact hj))
              have HLP := Lib.hid (show (Tryd.prog.info? 25).map (·.size) = some (recV p.d (.int .i64 p.x)).length by rw [recV_len _ _ hok.d]; kernel_rfl)
              have MO := Lib.hid (rof_any p.d p.x n wr hok.d (H2S.out _ HS.out))
              rw [shR_yes hin] at MO
              have hk16 : k ≤ 16 := by omega
              clear hr hok hp hs hlk hin
              generalize recV p.d (.int .i64 p.x) = RV at *
              generalize hsv : shO p.d p.x n = sv at *
              clear hsv
              go_wp2_with (first
                | (refine wpList_load_mid (op := ⟨some 37, _, _, _, _, _⟩) rfl _ _ rfl b (o + k * 35) rfl RV _ HPT.out Tryd.underlying25 rfl HLP.out ?_; refine stop ?_))
              unfold Stop
              go_wp2_with (go_at_call 8; refine stop ?_)
              unfold Stop
              refine MO.out.mono ?_
              rintro e w5 ⟨rfl, hb5⟩
              have HS5 := Lib.hid (HST.out _ _ HS.out hb5)
              have HO5 := Lib.hid (own_below HO.out hb5)
              have hsz5 : w0.heap.size ≤ w5.heap.size := Below.size HS5.out
              clear hb5 c0 c1 c2 c3
              go_wp2_with (at_builtin; refine wpList_append_own (o := ⟨some 41, _, _, _, _, _⟩) _ rfl _ _ 37 rfl w0.heap.size 3 i0 (.int .i64 0) 1 8 Tryd.underlying37 hi hz0 hz1 hz2 rfl (by decide) _ _ _ rfl (HO5.out.alloc _) ⟨w5.heap.size, 0, none⟩ 1 1 [.int .i64 (sv : Int)] rfl rfl ?c1 ?c2 ?c3 ?c4 ?c5 ?_)
              case c1 => exact cell_one_new w5 _ _
              case c2 => intro u hu; simp at hu; subst hu; rfl
              case c3 => unfold maxLen; omega
              case c4 => omega
              case c5 => exact Nat.le_trans hsz5 (by simp)
              intro v' w8 hown' hgrow _
              have hg2 : Below w0.heap.size w0 w8 := hgrow_of HO5.out HS5.out hsz5 (Nat.le_refl _) hgrow
              have ho2 : w8.ownsRow w0.heap.size 3 1 v' (k + 1) (i64s (iz.take (k + 1))) := by
                rw [HSET.out, i64s_app]; exact hown'
              clear hown' hgrow
              go_wp2
              go_roundw
              case rel => exact ⟨k + 1, by omega, by go_num, ho2, hg2⟩
              case measure => simp [intOf]; omega
            · have hk' : k = t.ins.length := by omega
              subst hk'
              have HOz := Lib.hid (show wr.ownsRow w0.heap.size 3 1 u7 t.ins.length (i64s iz) by have := HO.out; rw [← IL.out, List.take_length] at this; rw [← IL.out]; exact this)
              clear HO hlt hk
              go_wp2
              go_ret
              exact ⟨_, rfl, by rw [IL.out]; exact HOz.out, HS.out⟩
        · have e3 : spB t n true = outsZ t n := by unfold spB; rw [e2]; rfl
          rw [e3]
          obtain ⟨ID, hID⟩ : ∃ ID, ID = idT t := ⟨_, rfl⟩
          have hI32 : ID.length = 32 := by rw [hID]; exact idT_len t
          obtain ⟨DA, hDA⟩ : ∃ DA, DA = (ID.map bv).toArray := ⟨_, rfl⟩
          have D1 := Lib.hid (show (Tryd.prog.info? 23).map (·.size) = some DA.size by rw [hDA, List.size_toArray, List.length_map, hI32]; kernel_rfl)
          have D2 := Lib.hid (show ZId.size = DA.size by simp [hDA, zeros_len, hI32])
          have D3 := Lib.hid (show DA.all (·.oneCell') = true by rw [hDA]; exact bvs_one _)
          have D4 := Lib.hid (show (Tryd.prog.info? 23).map (·.size) = some (ID.map bv).length by rw [List.length_map, hI32]; kernel_rfl)
          have ID1 := Lib.hid (fun (w' : World) (k : Stp w0 w') => rid_any Ai Ao ci co _ t w' (AT1.out w' k) (HSZ.out w' k) hwi)
          rw [show idD (formB t) = idT t by unfold idT; rw [if_pos hc], ← hID, ← hDA] at ID1
          unfold txV at ID1
          have HI32 := Lib.hid hI32
          have HDA := Lib.hid hDA
          have OS := Lib.hid (fun (k : Nat) (hk : k < t.outs.length) => outsZ_succ (n := n) hk)
          rw [← hID] at OS
          have OL := Lib.hid (outsZ_len t n)
          have HBP := Lib.hid (fun (k : Nat) => built_pt2 (ID.map bv) (k : Int) (by rw [List.length_map]; exact hI32))
          rw [← hDA] at HBP
          generalize hOZ : outsZ t n = oz at *
          clear hn hn' hc hwi e1 e2 e3 hOZ INI hID hI32 hDA
          go_enter Tryd.func11, Tryd.ntmps11
          go_upto_region 1 with fail
          change Code.wp _ _ _ _ (w.alloc (.cells #[.slice Ai t.ins.length ci, .slice Ao t.outs.length co, .int .u64 (t.fee : Int), .int .i64 t.exp] 35))
          rw [← hw0]
          clear hw0
          go_wp2_with (go_at_call 19; refine stop ?_)
          unfold Stop
          refine (K1.out _ (Stp.refl _)).mono ?_
          rintro e w1 ⟨rfl, hb1⟩
          have H1 := Lib.hid (show Stp w0 w1 from hb1)
          clear c0 c1 c2 c3 hb1
          obtain ⟨c0, c1, c2, c3⟩ := CF.out _ H1.out
          go_wp2_with (go_at_call 26; refine stop ?_)
          unfold Stop
          refine (ID1.out _ H1.out).mono ?_
          rintro e w6 ⟨rfl, hb6⟩
          have hb67 : Below w6.heap.size w6 (w6.alloc (.cells ZId 23)) := (Below.refl _ _).alloc (Nat.le_refl _) _
          have HZ7 := Lib.hid (show (w6.alloc (.cells ZId 23)).heap[w6.heap.size]? = some (.cells ZId 23 (0, 0)) from heap_alloc_new _ _)
          obtain ⟨w7, hw7⟩ : ∃ w7, w7 = (w6.alloc (.cells ZId 23)).setRow w6.heap.size DA := ⟨_, rfl⟩
          have hb7 : Below w1.heap.size w1 w7 := by rw [hw7]; exact below_setRow (hb6.trans (hb67.mono hb6.size)) hb6.size DA
          have hg7 : w7.heap[w6.heap.size]? = some (.cells DA 23 (0, 0)) := by rw [hw7]; exact setRow_heap _ w6.heap.size ZId DA _ _ HZ7.out
          have HS7 := Lib.hid (HST.out _ _ H1.out hb7)
          have HR7 := Lib.hid (fun (w' : World) (k : Below w7.heap.size w7 w') => show w'.rangeAt w6.heap.size 0 (ID.map bv) from range_row (t := 23) (fr := (0, 0)) (by rw [← HDA.out]; exact heap_below k hg7))
          have HW7 := Lib.hid hw7
          have hsz7 : w0.heap.size ≤ w7.heap.size := Below.size HS7.out
          clear hb6 hb67 hb7 hg7 c0 c1 c2 c3 hw7
          go_wp2_with (refine wpList_store_row (o := ⟨none, .store 23 _ _, _, _, _, _⟩) rfl _ _ _ rfl w6.heap.size DA rfl rfl _ ZId HZ7.out D1.out D2.out D3.out ?_; refine stop ?_)
          unfold Stop
          change wpList _ _ _ _ _ ((w6.alloc (.cells ZId 23)).setRow w6.heap.size DA)
          rw [← HW7.out]
          clear HW7 HZ7
          go_upto_region 12 with fail
          go_loopw [7, 10] (fun v i wr => ∃ k : Nat, k ≤ t.outs.length ∧ i = .int .i64 k ∧ wr.ownsRow w7.heap.size 3 1 v k (i64s (oz.take k)) ∧ Below w7.heap.size w7 wr) (fun _ i _ => t.outs.length - (intOf i).toNat)
          case atStart => exact ⟨0, Nat.zero_le _, rfl, World.ownsRow_nil _ _ _ _, Below.refl _ _⟩
          case round =>
            obtain ⟨k, hk, rfl, hown, hst⟩ := hrel
            have HOq := Lib.hid hown
            have HSq := Lib.hid hst
            have hszq : w7.heap.size ≤ wr.heap.size := Below.size hst
            obtain ⟨c0, c1, c2, c3⟩ := CF.out _ (HST.out _ _ HS7.out HSq.out)
            clear hown hst
            by_cases hlt : k < t.outs.length
            · have HSET := Lib.hid (OS.out k hlt)
              have MO := Lib.hid (rof_any ID (k : Int) n wr HI32.out (H2S.out _ (HST.out _ _ HS7.out HSq.out)))
              rw [shR_yes (INO.out k hlt)] at MO
              have HBQ := Lib.hid (HBP.out k)
              have HRQ := Lib.hid (HR7.out _ HSq.out)
              have hk16 : k ≤ 16 := by omega
              unfold recV at MO
              generalize (ID.map bv ++ [Value.int .i64 (k : Int)]).toArray = RV at *
              generalize hsv : shO ID (k : Int) n = sv at *
              clear hsv
              go_wp2_with (first
                | (refine wpList_load_mid (op := ⟨some 53, _, _, _, _, _⟩) rfl _ _ rfl w6.heap.size 0 rfl (ID.map bv) _ HRQ.out Tryd.underlying23 rfl D4.out ?_; rw [← HDA.out])
                | (refine wpList_build_eq (o := ⟨some 55, _, _, _, _, _⟩) rfl _ _ rfl RV HBQ.out ?_; refine stop ?_))
              unfold Stop
              go_wp2_with (go_at_call 8; refine stop ?_)
              unfold Stop
              refine MO.out.mono ?_
              rintro e w5 ⟨rfl, hb5⟩
              have HS5 := Lib.hid (HSq.out.trans (hb5.mono HSq.out.size))
              have HO5 := Lib.hid (own_below HOq.out hb5)
              have hsz5 : w7.heap.size ≤ w5.heap.size := HS5.out.size
              clear hb5 c0 c1 c2 c3
              go_wp2_with (at_builtin; refine wpList_append_own (o := ⟨some 59, _, _, _, _, _⟩) _ rfl _ _ 37 rfl w7.heap.size 3 i0 (.int .i64 0) 1 8 Tryd.underlying37 hi hz0 hz1 hz2 rfl (by decide) _ _ _ rfl (HO5.out.alloc _) ⟨w5.heap.size, 0, none⟩ 1 1 [.int .i64 (sv : Int)] rfl rfl ?c1 ?c2 ?c3 ?c4 ?c5 ?_)
              case c1 => exact cell_one_new w5 _ _
              case c2 => intro u hu; simp at hu; subst hu; rfl
              case c3 => unfold maxLen; omega
              case c4 => omega
              case c5 => exact Nat.le_trans hsz5 (by simp)
              intro v' w8 hown' hgrow _
              have hg2 : Below w7.heap.size w7 w8 := hgrow_of HO5.out HS5.out hsz5 (Nat.le_refl _) hgrow
              have ho2 : w8.ownsRow w7.heap.size 3 1 v' (k + 1) (i64s (oz.take (k + 1))) := by
                rw [HSET.out, i64s_app]; exact hown'
              clear hown' hgrow
              go_wp2
              go_roundw
              case rel => exact ⟨k + 1, by omega, by go_num, ho2, hg2⟩
              case measure => simp [intOf]; omega
            · have hk' : k = t.outs.length := by omega
              subst hk'
              have HOz := Lib.hid (show wr.ownsRow w7.heap.size 3 1 u7 t.outs.length (i64s oz) by have := HOq.out; rw [← OL.out, List.take_length] at this; rw [← OL.out]; exact this)
              have HFin := Lib.hid (HST.out _ _ HS7.out HSq.out)
              clear HOq hlt hk
              go_wp2
              go_ret
              exact ⟨_, rfl, by rw [OL.out]; exact own_more HOz.out hsz7, HFin.out⟩
      · have hn' : ¬ (1 ≤ n ∧ n ≤ 64) := fun h => hn (decide_eq_true h)
        obtain ⟨e1, e2⟩ := sp_no (okT_no1 (t := t) (n := n) (by simpa using hn))
        have e3 : spB t n bo = [] := by unfold spB; rw [e1, e2]; cases bo <;> rfl
        rw [e3]
        by_cases hn0 : n < 1
        · have d1 : decide (n < 1) = true := decide_eq_true hn0
          clear hn hn' e1 e2 e3 hc
          go_enter Tryd.func11, Tryd.ntmps11
          go_upto_region 1 with fail
          change Code.wp _ _ _ _ (w.alloc (.cells #[.slice Ai t.ins.length ci, .slice Ao t.outs.length co, .int .u64 (t.fee : Int), .int .i64 t.exp] 35))
          rw [← hw0]
          clear hw0
          go_wp2_with (go_at_call 19; refine stop ?_)
          unfold Stop
          refine (K1.out _ (Stp.refl _)).mono ?_
          rintro e w1 ⟨rfl, hb1⟩
          have H1 := Lib.hid (show Stp w0 w1 from hb1)
          clear c0 c1 c2 c3 hb1
          go_wp2
          go_ret
          exact ⟨_, rfl, World.ownsRow_nil _ _ _ _, H1.out⟩
        · have d1 : decide (n < 1) = false := decide_eq_false hn0
          have d2 : decide (n > 64) = true := decide_eq_true (by omega)
          have d2' : decide (64 < n) = true := decide_eq_true (by omega)
          clear hn hn' e1 e2 e3 hc hn0
          go_enter Tryd.func11, Tryd.ntmps11
          go_upto_region 1 with fail
          change Code.wp _ _ _ _ (w.alloc (.cells #[.slice Ai t.ins.length ci, .slice Ao t.outs.length co, .int .u64 (t.fee : Int), .int .i64 t.exp] 35))
          rw [← hw0]
          clear hw0
          go_wp2_with (go_at_call 19; refine stop ?_)
          unfold Stop
          refine (K1.out _ (Stp.refl _)).mono ?_
          rintro e w1 ⟨rfl, hb1⟩
          have H1 := Lib.hid (show Stp w0 w1 from hb1)
          clear c0 c1 c2 c3 hb1
          go_wp2
          go_ret
          exact ⟨_, rfl, World.ownsRow_nil _ _ _ _, H1.out⟩
    · have hz1 : ((chk t : Int) != 0) = true := by simp; omega
      obtain ⟨e1, e2⟩ := sp_no (okT_no2 (n := n) hc)
      have e3 : spB t n bo = [] := by unfold spB; rw [e1, e2]; cases bo <;> rfl
      rw [e3]
      clear hc e1 e2 e3
      generalize chk t = z at *
      go_enter Tryd.func11, Tryd.ntmps11
      go_upto_region 1 with fail
      change Code.wp _ _ _ _ (w.alloc (.cells #[.slice Ai t.ins.length ci, .slice Ao t.outs.length co, .int .u64 (t.fee : Int), .int .i64 t.exp] 35))
      rw [← hw0]
      clear hw0
      go_wp2_with (go_at_call 19; refine stop ?_)
      unfold Stop
      refine (K1.out _ (Stp.refl _)).mono ?_
      rintro e w1 ⟨rfl, hb1⟩
      have H1 := Lib.hid (show Stp w0 w1 from hb1)
      clear c0 c1 c2 c3 hb1
      go_wp2
      go_ret
      exact ⟨_, rfl, World.ownsRow_nil _ _ _ _, H1.out⟩
  exact ENT.mono fun e w' ⟨v, h1, h2, h4⟩ => ⟨v, h1, own_more h2 hs0, HB0.out _ h4⟩

end
section
set_option linter.unusedVariables false
set_option linter.unusedSimpArgs false

open Go.RowKit
set_option maxRecDepth 100000 in
theorem sp_len (t : Ptx) (n : Int) : (spI t n).length ≤ 16 ∧ (spO t n).length ≤ 16 := by
  cases h : okT t n
  · obtain ⟨e1, e2⟩ := sp_no h
    rw [e1, e2]; simp
  · obtain ⟨e1, e2⟩ := sp_yes h
    rw [e1, e2, insZ_len, outsZ_len]
    unfold okT at h
    rw [Bool.and_eq_true] at h
    exact within_len (chk_ok (of_decide_eq_true h.2))
def txCells (Ai : Option Addr) (ci : Nat) (Ao : Option Addr) (co : Nat) (t : Ptx) : List Value := [.slice Ai t.ins.length ci, .slice Ao t.outs.length co, .int .u64 (t.fee : Int), .int .i64 t.exp]
/-- The frame of a function that takes a transaction: its box, and what is so in each world behind it. -/
structure Box (w0 : World) (g B : Nat) (Ai Ao : Option Addr) (ci co : Nat) (t : Ptx) (w : World) : Prop where
  stp : Stp w0 w
  at_ : TxAt w B Ai ci Ao co t
  glob : Glob w
  size : B ≤ w.heap.size
  cells : w.heap[g]? = some (.cells (txCells Ai ci Ao co t).toArray 35 (0, 0))
set_option maxRecDepth 100000 in
theorem Box.step {w0 w w' : World} {g B ci co : Nat} {Ai Ao : Option Addr} {t : Ptx} (h : Box w0 g B Ai Ao ci co t w) (k : Below w.heap.size w w') : Box w0 g B Ai Ao ci co t w' :=
  ⟨Stp.trans _ _ _ h.stp k, h.at_.turn (Turn.of_below k) (fun _ _ h => h), h.glob.below k h.glob.1, Nat.le_trans h.size k.size, heap_below k h.cells⟩
set_option maxRecDepth 100000 in
theorem Box.new {w w0 : World} {B ci co : Nat} {Ai Ao : Option Addr} {t : Ptx} (hw0 : w0 = w.alloc (.cells (txCells Ai ci Ao co t).toArray 35)) (h : TxAt w B Ai ci Ao co t) (hBw : B ≤ w.heap.size) (hG : Glob w) :
    Box w0 w.heap.size B Ai Ao ci co t w0 ∧ Below w.heap.size w w0 := by
  have hT0 : Turn (fun _ => False) w w0 := by rw [hw0]; exact (Turn.refl _ _).alloc _
  have hb0 : Below w.heap.size w w0 := turn_stp hT0
  exact ⟨⟨Stp.refl _, h.turn hT0 (fun _ _ h => h), hG.below hb0 hG.1, Nat.le_trans hBw hT0.size, by rw [hw0]; exact heap_alloc_new _ _⟩, hb0⟩
set_option maxRecDepth 100000 in
theorem Box.row {w0 w : World} {g B ci co : Nat} {Ai Ao : Option Addr} {t : Ptx} (h : Box w0 g B Ai Ao ci co t w) :
    w.cell? ⟨g, 0, none⟩ = some (.slice Ai t.ins.length ci) ∧ w.cell? ⟨g, 1, none⟩ = some (.slice Ao t.outs.length co) ∧ w.cell? ⟨g, 2, none⟩ = some (.int .u64 (t.fee : Int)) ∧ w.cell? ⟨g, 3, none⟩ = some (.int .i64 t.exp) := (row4 h.cells).1
set_option maxRecDepth 100000 in
theorem Box.range {w0 w : World} {g B ci co : Nat} {Ai Ao : Option Addr} {t : Ptx} (h : Box w0 g B Ai Ao ci co t w) : w.rangeAt g 0 (txCells Ai ci Ao co t) := range_row h.cells
def singL (t : Ptx) (n : Int) : List Int := gathZ (spI t n ++ spO t n)
def singV (t : Ptx) (n : Int) : Int := if (singL t n).length = 1 then (singL t n).getD 0 0 else 0
def singB (t : Ptx) (n : Int) : Bool := decide ((singL t n).length = 1)
set_option maxRecDepth 100000 in
set_option maxHeartbeats 4000000 in
theorem ins_any (Ai Ao : Option Addr) (ci co B : Nat) (t : Ptx) (n : Int) (w : World) (h : TxAt w B Ai ci Ao co t) (hBw : B ≤ w.heap.size) (hG : Glob w) :
    Calls Tryd.prog 16 #[txV Ai ci Ao co t, .int .i64 n] w fun e w' => ∃ v, e = .returned v ∧ w'.ownsRow w.heap.size 3 1 v (gathZ (spI t n)).length (i64s (gathZ (spI t n))) ∧ Below w.heap.size w w' := by
  obtain ⟨w0, hw0⟩ : ∃ w0, w0 = w.alloc (.cells (txCells Ai ci Ao co t).toArray 35) := ⟨_, rfl⟩
  obtain ⟨hbx, hb0⟩ := Box.new hw0 h hBw hG
  have BX := Lib.hid hbx
  have HB0 := Lib.hid hb0
  obtain ⟨c0, c1, c2, c3⟩ := hbx.row
  have HL := Lib.hid (sp_len t n)
  have SH := Lib.hid (shardsOf_any Ai Ao ci co B t n w0 BX.out.at_ BX.out.size BX.out.glob)
  have GA := Lib.hid gathered_any
  unfold txV at SH ⊢
  clear h hbx hb0 hG hBw
  go_enter Tryd.func16, Tryd.ntmps16
  go_upto_region 1 with fail
  change Code.wp _ _ _ _ (w.alloc (.cells (txCells Ai ci Ao co t).toArray 35))
  rw [← hw0]
  clear hw0
  go_wp2_with (go_at_call 27; refine stop ?_)
  unfold Stop
  refine SH.out.mono ?_
  rintro e w1 ⟨u, v, rfl, hu, hv, hb1⟩
  have HU := Lib.hid hu
  have HB1 := Lib.hid (HB0.out.trans (hb1.mono HB0.out.size))
  have G1 := Lib.hid (GA.out w0.heap.size _ u _ w1 hu hb1.size (by have := HL.out.1; omega))
  have hs0 := HB0.out.size
  have hs1 := hb1.size
  clear hu hv hb1 c0 c1 c2 c3
  go_wp2_with (go_at_call 28; refine stop ?_)
  unfold Stop
  refine G1.out.mono ?_
  rintro e w2 ⟨v', rfl, ho2, hb2⟩
  have HO2 := Lib.hid ho2
  have HB2 := Lib.hid (HB1.out.trans (hb2.mono hs0))
  clear ho2 hb2
  go_wp2
  go_ret
  exact ⟨_, rfl, own_more HO2.out hs0, HB2.out⟩
set_option maxRecDepth 100000 in
set_option maxHeartbeats 4000000 in
theorem outs_any (Ai Ao : Option Addr) (ci co B : Nat) (t : Ptx) (n : Int) (w : World) (h : TxAt w B Ai ci Ao co t) (hBw : B ≤ w.heap.size) (hG : Glob w) :
    Calls Tryd.prog 17 #[txV Ai ci Ao co t, .int .i64 n] w fun e w' => ∃ v, e = .returned v ∧ w'.ownsRow w.heap.size 3 1 v (gathZ (spO t n)).length (i64s (gathZ (spO t n))) ∧ Below w.heap.size w w' := by
  obtain ⟨w0, hw0⟩ : ∃ w0, w0 = w.alloc (.cells (txCells Ai ci Ao co t).toArray 35) := ⟨_, rfl⟩
  obtain ⟨hbx, hb0⟩ := Box.new hw0 h hBw hG
  have BX := Lib.hid hbx
  have HB0 := Lib.hid hb0
  obtain ⟨c0, c1, c2, c3⟩ := hbx.row
  have HL := Lib.hid (sp_len t n)
  have SH := Lib.hid (shardsOf_any Ai Ao ci co B t n w0 BX.out.at_ BX.out.size BX.out.glob)
  have GA := Lib.hid gathered_any
  unfold txV at SH ⊢
  clear h hbx hb0 hG hBw
  go_enter Tryd.func17, Tryd.ntmps17
  go_upto_region 1 with fail
  change Code.wp _ _ _ _ (w.alloc (.cells (txCells Ai ci Ao co t).toArray 35))
  rw [← hw0]
  clear hw0
  go_wp2_with (go_at_call 27; refine stop ?_)
  unfold Stop
  refine SH.out.mono ?_
  rintro e w1 ⟨u, v, rfl, hu, hv, hb1⟩
  have HU := Lib.hid hv
  have HB1 := Lib.hid (HB0.out.trans (hb1.mono HB0.out.size))
  have G1 := Lib.hid (GA.out w0.heap.size _ v _ w1 hv hb1.size (by have := HL.out.2; omega))
  have hs0 := HB0.out.size
  have hs1 := hb1.size
  clear hu hv hb1 c0 c1 c2 c3
  go_wp2_with (go_at_call 28; refine stop ?_)
  unfold Stop
  refine G1.out.mono ?_
  rintro e w2 ⟨v', rfl, ho2, hb2⟩
  have HO2 := Lib.hid ho2
  have HB2 := Lib.hid (HB1.out.trans (hb2.mono hs0))
  clear ho2 hb2
  go_wp2
  go_ret
  exact ⟨_, rfl, own_more HO2.out hs0, HB2.out⟩
set_option maxRecDepth 100000 in
set_option maxHeartbeats 4000000 in
theorem at_any (Ai Ao : Option Addr) (ci co B : Nat) (t : Ptx) (n s : Int) (w : World) (h : TxAt w B Ai ci Ao co t) (hBw : B ≤ w.heap.size) (hG : Glob w) :
    Calls Tryd.prog 14 #[txV Ai ci Ao co t, .int .i64 n, .int .i64 s] w fun e w' => ∃ x y, e = .returned (.tuple #[x, y]) ∧ w'.ownsRow w.heap.size 3 1 x (placesZ (spI t n) s).length (i64s (placesZ (spI t n) s)) ∧ w'.ownsRow w.heap.size 3 1 y (placesZ (spO t n) s).length (i64s (placesZ (spO t n) s)) ∧ Below w.heap.size w w' := by
  obtain ⟨w0, hw0⟩ : ∃ w0, w0 = w.alloc (.cells (txCells Ai ci Ao co t).toArray 35) := ⟨_, rfl⟩
  obtain ⟨hbx, hb0⟩ := Box.new hw0 h hBw hG
  have BX := Lib.hid hbx
  have HB0 := Lib.hid hb0
  obtain ⟨c0, c1, c2, c3⟩ := hbx.row
  have HL := Lib.hid (sp_len t n)
  have SH := Lib.hid (shardsOf_any Ai Ao ci co B t n w0 BX.out.at_ BX.out.size BX.out.glob)
  have PL := Lib.hid places_any
  unfold txV at SH ⊢
  clear h hbx hb0 hG hBw
  go_enter Tryd.func14, Tryd.ntmps14
  go_upto_region 1 with fail
  change Code.wp _ _ _ _ (w.alloc (.cells (txCells Ai ci Ao co t).toArray 35))
  rw [← hw0]
  clear hw0
  go_wp2_with (go_at_call 27; refine stop ?_)
  unfold Stop
  refine SH.out.mono ?_
  rintro e w1 ⟨u, v, rfl, hu, hv, hb1⟩
  obtain ⟨A1, k1, rfl, s1, -, hk1, ha1⟩ := own_sl hu
  obtain ⟨A2, k2, rfl, s2, -, hk2, ha2⟩ := own_sl hv
  have HB1 := Lib.hid (HB0.out.trans (hb1.mono HB0.out.size))
  have P1 := Lib.hid (PL.out A1 k1 w1.heap.size _ (spI t n) s w1 s1 (Nat.le_refl _) rfl (by have := HL.out.1; omega))
  have HS2 := Lib.hid s2
  have hs1 : w.heap.size ≤ w1.heap.size := HB1.out.size
  clear hu hv hb1 s1 s2 c0 c1 c2 c3
  go_wp2_with (go_at_call 30; refine stop ?_)
  unfold Stop
  refine P1.out.mono ?_
  rintro e w2 ⟨x, rfl, hx, hb2⟩
  have HX2 := Lib.hid hx
  have P2 := Lib.hid (PL.out A2 k2 w1.heap.size _ (spO t n) s w2 (HS2.out.below hb2) hb2.size rfl (by have := HL.out.2; omega))
  have HB2 := Lib.hid (HB1.out.trans (hb2.mono hs1))
  have hs2 : w.heap.size ≤ w2.heap.size := HB2.out.size
  clear hx hb2
  go_wp2_with (go_at_call 30; refine stop ?_)
  unfold Stop
  refine P2.out.mono ?_
  rintro e w3 ⟨y, rfl, hy, hb3⟩
  have HY3 := Lib.hid hy
  have HX3 := Lib.hid (own_below HX2.out hb3)
  have HB3 := Lib.hid (HB2.out.trans (hb3.mono hs2))
  clear hy hb3
  go_wp2
  go_ret2
  exact ⟨_, _, rfl, own_more HX3.out hs1, own_more HY3.out hs2, HB3.out⟩
set_option maxRecDepth 100000 in
set_option maxHeartbeats 4000000 in
theorem single_any (Ai Ao : Option Addr) (ci co B : Nat) (t : Ptx) (n : Int) (w : World) (h : TxAt w B Ai ci Ao co t) (hBw : B ≤ w.heap.size) (hG : Glob w) :
    Calls Tryd.prog 13 #[txV Ai ci Ao co t, .int .i64 n] w fun e w' => e = .returned (.tuple #[.int .i64 (singV t n), .bool (singB t n)]) ∧ Below w.heap.size w w' := by
  obtain ⟨w0, hw0⟩ : ∃ w0, w0 = w.alloc (.cells (txCells Ai ci Ao co t).toArray 35) := ⟨_, rfl⟩
  obtain ⟨hbx, hb0⟩ := Box.new hw0 h hBw hG
  have BX := Lib.hid hbx
  have HB0 := Lib.hid hb0
  obtain ⟨c0, c1, c2, c3⟩ := hbx.row
  have HL := Lib.hid (sp_len t n)
  have SH := Lib.hid (shardsOf_any Ai Ao ci co B t n w0 BX.out.at_ BX.out.size BX.out.glob)
  have GA := Lib.hid gathered_any
  have CC := Lib.hid concat_any
  have HSV := Lib.hid (show singV t n = if (singL t n).length = 1 then (singL t n).getD 0 0 else 0 from rfl)
  have HSB := Lib.hid (show singB t n = decide ((singL t n).length = 1) from rfl)
  have HGL := Lib.hid (show singL t n = gathZ (spI t n ++ spO t n) from rfl)
  have HGN := Lib.hid (show (gathZ (spI t n ++ spO t n)).length ≤ 32 by
    have h1 := Lib.compact_length_le (srtZ (spI t n ++ spO t n))
    rw [srtZ_len, List.length_append] at h1
    have := HL.out
    show (Lib.compact (srtZ (spI t n ++ spO t n))).length ≤ 32
    omega)
  have HAP := Lib.hid (show (spI t n ++ spO t n).length ≤ 32 by rw [List.length_append]; have := HL.out; omega)
  unfold txV at SH ⊢
  clear h hbx hb0 hG hBw
  go_enter Tryd.func13, Tryd.ntmps13
  go_upto_region 1 with fail
  change Code.wp _ _ _ _ (w.alloc (.cells (txCells Ai ci Ao co t).toArray 35))
  rw [← hw0]
  clear hw0
  go_wp2_with (go_at_call 27; refine stop ?_)
  unfold Stop
  refine SH.out.mono ?_
  rintro e w1 ⟨u, v, rfl, hu, hv, hb1⟩
  obtain ⟨A1, k1, rfl, s1, -, hk1, ha1⟩ := own_sl hu
  obtain ⟨A2, k2, rfl, s2, -, hk2, ha2⟩ := own_sl hv
  have HB1 := Lib.hid (HB0.out.trans (hb1.mono HB0.out.size))
  obtain ⟨w2, hw2⟩ : ∃ w2, w2 = w1.alloc (.cells #[.slice A1 (spI t n).length k1, .slice A2 (spO t n).length k2] 37) := ⟨_, rfl⟩
  have hb2 : Below w1.heap.size w1 w2 := by rw [hw2]; exact (Below.refl _ _).alloc (Nat.le_refl _) _
  have HB2 := Lib.hid (HB1.out.trans (hb2.mono HB1.out.size))
  have C2 := Lib.hid (CC.out w1.heap.size _ _ w1.heap.size k1 k2 A1 A2 _ _ w2 (by rw [hw2]; exact heap_alloc_new w1 _) (s1.below hb2) (s2.below hb2) hb2.size rfl rfl ha1 ha2 (by have := HL.out; omega) (by have := HL.out; omega))
  have hs2 := HB2.out.size
  clear hu hv hb1 s1 s2 c0 c1 c2 c3 hb2
  go_wp2_with (go_at_call 29; refine stop ?_)
  unfold Stop
  rw [← hw2]
  clear hw2
  refine C2.out.mono ?_
  rintro e w3 ⟨v3, rfl, ho3, hb3⟩
  have G3 := Lib.hid (GA.out w2.heap.size _ v3 _ w3 ho3 hb3.size (by have := HAP.out; omega))
  have HB3 := Lib.hid (HB2.out.trans (hb3.mono hs2))
  clear ho3 hb3
  go_wp2_with (go_at_call 28; refine stop ?_)
  unfold Stop
  refine G3.out.mono ?_
  rintro e w4 ⟨v4, rfl, ho4, hb4⟩
  have HB4 := Lib.hid (HB3.out.trans (hb4.mono hs2))
  rw [← HGL.out] at ho4 HGN
  by_cases hone : (singL t n).length = 1
  · obtain ⟨g, cap, rfl, hg1, hg2⟩ := ho4.form (by omega)
    have hcell := ho4.cellAt 0 (by omega)
    obtain ⟨y, hy⟩ : ∃ y, singL t n = [y] := by
      cases hL : singL t n with
      | nil => rw [hL] at hone; simp at hone
      | cons a l => cases l with
        | nil => exact ⟨a, rfl⟩
        | cons b l => rw [hL] at hone; simp at hone
    rw [hy] at hcell
    have e1 : singV t n = y := by rw [HSV.out, if_pos hone, hy]; rfl
    have e2 : singB t n = true := by rw [HSB.out]; exact decide_eq_true hone
    have E1 := Lib.hid e1
    have E2 := Lib.hid e2
    rw [hone]
    have hc0 : w4.cell? ⟨g, 0, none⟩ = some (.int .i64 y) := by simpa [i64s] using hcell
    clear ho4 hb4 hcell e1 e2 hy hone
    go_wp2
    go_ret2
    exact ⟨by rw [E1.out, E2.out]; rfl, HB4.out⟩
  · obtain ⟨A4, k4, rfl, s4, -, hk4, ha4⟩ := own_sl ho4
    have e1 : singV t n = 0 := by rw [HSV.out, if_neg hone]
    have e2 : singB t n = false := by rw [HSB.out]; exact decide_eq_false hone
    have hd : (((singL t n).length : Int) != 1) = true := by simp; omega
    have E1 := Lib.hid e1
    have E2 := Lib.hid e2
    clear ho4 hb4 s4 e1 e2 HGL HSV HSB
    generalize (singL t n).length = z at *
    go_wp2
    go_ret2
    exact ⟨by rw [E1.out, E2.out]; rfl, HB4.out⟩

end
section
set_option linter.unusedVariables false
set_option linter.unusedSimpArgs false

open Go.RowKit
def exM : Ptx := ⟨[⟨zeros 32, 0, 5, []⟩], [⟨zeros 32, 5⟩], 0, 0⟩
def EInM : Array Value := (Pin.cells ⟨zeros 32, 0, 5, []⟩ none 0).toArray
def EOutM : Array Value := (Pout.cells ⟨zeros 32, 5⟩).toArray
set_option maxRecDepth 100000 in
theorem exM_chk : chk exM = 0 := by decide
set_option maxRecDepth 100000 in
theorem shO_one (d : List B8) (x : Int) : shO d x 1 = 0 := by
  unfold shO
  split
  · exact Nat.mod_one _
  · rfl
set_option maxRecDepth 100000 in
theorem exM_sp : spI exM 1 = [0] := by
  rw [(sp_yes (okT_yes (t := exM) (n := 1) rfl exM_chk)).1]
  unfold insZ exM
  simp only [List.map_cons, List.map_nil, shO_one]
  rfl
set_option maxRecDepth 100000 in
theorem exM_ga : (gathZ (spI exM 1)).length = 1 := by
  rw [exM_sp, gathZ_each [0] (fun z hz => by simp at hz; subst hz; omega)]
  decide
set_option maxRecDepth 100000 in
set_option maxHeartbeats 4000000 in
theorem awake_any (w : World) (hG : Glob w) : Calls Tryd.prog 9 #[] w fun e w' => e = .returned (.bool true) ∧ Below w.heap.size w w' := by
  have z32 : ∀ x, (zeros x).length = x := fun x => by simp [zeros]
  have HG := Lib.hid hG
  obtain ⟨P3, hP3⟩ : ∃ P3, P3 = (recV (zeros 32) (.int .i64 3)).toArray := ⟨_, rfl⟩
  obtain ⟨P0, hP0⟩ : ∃ P0, P0 = (recV (zeros 32) (.int .i64 0)).toArray := ⟨_, rfl⟩
  have O1 := Lib.hid (fun (w : World) (hG : Glob w) => mof_any (zeros 32) 3 1 w (z32 32) hG)
  have O2 := Lib.hid (fun (w : World) (hG : Glob w) => mof_any (zeros 32) 0 0 w (z32 32) hG)
  rw [shO_one, show inO 3 1 = true from rfl, ← hP3] at O1
  rw [shO_no (show inO 0 0 = false from rfl), show inO 0 0 = false from rfl, ← hP0] at O2
  have B3 := Lib.hid hP3
  have B0 := Lib.hid hP0
  have HEX := Lib.hid (fun (g1 g2 : Nat) (w : World) (hg1 : w.heap[g1]? = some (.cells EInM 58 (0, 0))) (hg2 : w.heap[g2]? = some (.cells EOutM 60 (0, 0))) => show TxAt w w.heap.size (some ⟨g1, 0, none⟩) 1 (some ⟨g2, 0, none⟩) 1 exM from by
    refine ⟨?_, (fun h => by cases h), by simp [exM], by simp [exM, maxLen], ?_, (fun h => by cases h), by simp [exM], by simp [exM, maxLen], by simp [exM], by simp [exM], by simp [exM]⟩
    · intro i p hp
      obtain rfl : i = 0 := by have := (List.getElem?_eq_some_iff.1 hp).1; simp [exM] at this; omega
      simp [exM] at hp
      subst hp
      refine ⟨⟨by simp [z32], by simp, by simp, by simp, by simp [maxLen]⟩, g1, 0, none, 0, rfl, lt_of_block hg1, ⟨Sl.none _ _ _, fun _ => rfl, by simp⟩, fun j v hj => ?_⟩
      rw [cell_of_row _ _ _ _ _ _ hg1]
      unfold EInM
      rw [List.getElem?_toArray]; simpa using hj
    · intro i p hp
      obtain rfl : i = 0 := by have := (List.getElem?_eq_some_iff.1 hp).1; simp [exM] at this; omega
      simp [exM] at hp
      subst hp
      refine ⟨⟨by simp [z32], by simp⟩, g2, 0, rfl, lt_of_block hg2, fun j v hj => ?_⟩
      rw [cell_of_row _ _ _ _ _ _ hg2]
      unfold EOutM
      rw [List.getElem?_toArray]; simpa using hj)
  have I1 := Lib.hid (fun (g1 g2 : Nat) (w : World) (h : TxAt w w.heap.size (some ⟨g1, 0, none⟩) 1 (some ⟨g2, 0, none⟩) 1 exM) (hG : Glob w) => ins_any (some ⟨g1, 0, none⟩) (some ⟨g2, 0, none⟩) 1 1 w.heap.size exM 1 w h (Nat.le_refl _) hG)
  rw [exM_ga] at I1
  clear hP3 hP0 hG z32
  go_enter Tryd.func9, Tryd.ntmps9
  go_upto_region 1 with fail
  go_step
  refine wpList_val rfl (.agg P3) w (by rw [B3.out]; kernel_rfl) ?_
  go_wp2_with (go_at_call 7; refine stop ?_)
  unfold Stop
  refine (O1.out w HG.out).mono ?_
  rintro e w1 ⟨rfl, hb1⟩
  have HB1 := Lib.hid hb1
  clear hb1 O1
  go_upto_region 2 with fail
  go_step
  refine wpList_val rfl (.agg P0) w1 (by rw [B0.out]; kernel_rfl) ?_
  go_wp2_with (go_at_call 7; refine stop ?_)
  unfold Stop
  refine (O2.out w1 (glob_below HG.out HB1.out (Nat.le_refl _))).mono ?_
  rintro e w2 ⟨rfl, hb2⟩
  have HB2 := Lib.hid (HB1.out.trans (hb2.mono HB1.out.size))
  clear hb2 O2
  go_upto_region 3 with fail
  go_step
  refine wpList_val rfl (.agg EInM) w2 (by kernel_rfl) ?_
  obtain ⟨w3, hw3⟩ : ∃ w3, w3 = w2.alloc (.cells EInM 58) := ⟨_, rfl⟩
  refine wpList_val rfl (.slice (some ⟨w2.heap.size, 0, none⟩) 1 1) w3 (by rw [hw3]; kernel_rfl) ?_
  refine wpList_val rfl (.agg EOutM) w3 (by kernel_rfl) ?_
  obtain ⟨w4, hw4⟩ : ∃ w4, w4 = w3.alloc (.cells EOutM 60) := ⟨_, rfl⟩
  refine wpList_val rfl (.slice (some ⟨w3.heap.size, 0, none⟩) 1 1) w4 (by rw [hw4]; kernel_rfl) ?_
  have hb3 : Below w2.heap.size w2 w3 := by rw [hw3]; exact (Below.refl _ _).alloc (Nat.le_refl _) _
  have hb4 : Below w3.heap.size w3 w4 := by rw [hw4]; exact (Below.refl _ _).alloc (Nat.le_refl _) _
  have hg3 : w4.heap[w2.heap.size]? = some (.cells EInM 58 (0, 0)) := heap_below hb4 (by rw [hw3]; exact heap_alloc_new _ _)
  have hg4 : w4.heap[w3.heap.size]? = some (.cells EOutM 60 (0, 0)) := by rw [hw4]; exact heap_alloc_new _ _
  have HB4 := Lib.hid (HB2.out.trans ((hb3.trans (hb4.mono hb3.size)).mono HB2.out.size))
  have I4 := Lib.hid (I1.out _ _ w4 (HEX.out _ _ w4 hg3 hg4) (glob_below HG.out HB4.out (Nat.le_refl _)))
  refine wpList_val rfl (txV (some ⟨w2.heap.size, 0, none⟩) 1 (some ⟨w3.heap.size, 0, none⟩) 1 exM) w4 (by kernel_rfl) ?_
  clear hw3 hw4 hb3 hb4 hg3 hg4 HEX I1
  generalize txV (some ⟨w2.heap.size, 0, none⟩) 1 (some ⟨w3.heap.size, 0, none⟩) 1 exM = TV at *
  go_wp2_with (go_at_call 16; refine stop ?_)
  unfold Stop
  refine I4.out.mono ?_
  rintro e w5 ⟨v, rfl, ho, hb5⟩
  obtain ⟨A5, k5, rfl, s5, -, hk5, ha5⟩ := own_sl ho
  have HB5 := Lib.hid (HB4.out.trans (hb5.mono HB4.out.size))
  clear ho s5 hb5
  go_wp2
  go_ret
  exact ⟨rfl, HB5.out⟩
set_option maxRecDepth 100000 in
theorem shR_eq (d : List B8) (x n : Int) : (inO x n = true → shR d x n = (shO d x n : Int)) ∧ (inO x n = false → shR d x n = -1 ∧ shO d x n = 0) :=
  ⟨fun h => by unfold shR; rw [if_pos h], fun h => ⟨by unfold shR; rw [if_neg (by rw [h]; decide)], shO_no h⟩⟩
set_option maxRecDepth 100000 in
set_option maxHeartbeats 4000000 in
theorem mappingOf_walk (d : List B8) (x n : Int) (w : World) (hd : d.length = 32) (hG : Glob w) :
    Calls Tryd.prog 3 #[.agg (recV d (.int .i64 x)).toArray, .int .i64 n] w fun e w' => e = .returned (.bool true) ∧ Below w.heap.size w w' := by
  obtain ⟨C0, hC0⟩ : ∃ C0, C0 = (recV d (.int .i64 x)).toArray := ⟨_, rfl⟩
  have M1 := Lib.hid (fun (w : World) (hG : Glob w) => mof_any d x n w hd hG)
  have R1 := Lib.hid (fun (w : World) (hG : Glob w) => rof_any d x n w hd hG.1)
  rw [← hC0] at M1 R1 ⊢
  obtain ⟨w0, hw0⟩ : ∃ w0, w0 = w.alloc (.cells C0 25) := ⟨_, rfl⟩
  have hb0 : Below w.heap.size w w0 := by rw [hw0]; exact (Below.refl _ _).alloc (Nat.le_refl _) _
  have hg0 : w0.heap[w.heap.size]? = some (.cells (recV d (.int .i64 x)).toArray 25 (0, 0)) := by rw [hw0, hC0]; exact heap_alloc_new _ _
  have HR := Lib.hid (fun (w' : World) (k : Below w0.heap.size w0 w') => show w'.rangeAt w.heap.size 0 (recV d (.int .i64 x)) from range_row (heap_below k hg0))
  have HLP := Lib.hid (show (Tryd.prog.info? 25).map (·.size) = some (recV d (.int .i64 x)).length by rw [recV_len _ _ hd]; kernel_rfl)
  have HC := Lib.hid hC0
  have HB0 := Lib.hid hb0
  have HG0 := Lib.hid (hG.below hb0 hG.1)
  have HAW := Lib.hid awake_any
  have HSH := Lib.hid (shR_eq d x n)
  have HLT := Lib.hid (fun h => shO_lt (d := d) (x := x) (n := n) h)
  have HIN := Lib.hid (fun (h : inO x n = true) => (of_decide_eq_true h : (1 ≤ n ∧ n ≤ 64) ∧ 0 ≤ x ∧ x ≤ 15))
  clear hC0 hd hG hb0 hg0
  generalize recV d (.int .i64 x) = RV at *
  generalize shO d x n = sv at *
  generalize shR d x n = rv at *
  generalize inO x n = bo at *
  go_enter Tryd.func3, Tryd.ntmps3
  go_upto_region 1 with fail
  change Code.wp _ _ _ _ (w.alloc (.cells C0 25))
  rw [← hw0]
  clear hw0
  go_wp2_with (first
    | (refine wpList_load_mid (op := ⟨some 9, _, _, _, _, _⟩) rfl _ _ rfl w.heap.size 0 rfl RV _ (HR.out _ (Below.refl _ _)) Tryd.underlying25 rfl HLP.out ?_; rw [← HC.out])
    | (go_at_call 7; refine stop ?_))
  unfold Stop
  refine (M1.out w0 HG0.out).mono ?_
  rintro e w1 ⟨rfl, hb1⟩
  have HB1 := Lib.hid hb1
  have HG1 := Lib.hid (glob_below HG0.out HB1.out (Nat.le_refl _))
  clear hb1 M1
  go_upto_region 2 with fail
  go_wp2_with (first
    | (refine wpList_load_mid (op := ⟨some 14, _, _, _, _, _⟩) rfl _ _ rfl w.heap.size 0 rfl RV _ (HR.out _ HB1.out) Tryd.underlying25 rfl HLP.out ?_; rw [← HC.out])
    | (go_at_call 8; refine stop ?_))
  unfold Stop
  refine (R1.out w1 HG1.out).mono ?_
  rintro e w2 ⟨rfl, hb2⟩
  have HB2 := Lib.hid (HB1.out.trans (hb2.mono HB1.out.size))
  have HG2 := Lib.hid (glob_below HG0.out HB2.out (Nat.le_refl _))
  clear hb2 R1
  cases bo
  · obtain ⟨e1, e2⟩ := HSH.out.2 rfl
    rw [e1, e2]
    clear HSH HLT HIN e1 e2
    go_wp2_with (go_at_call 9; refine stop ?_)
    unfold Stop
    refine (HAW.out w2 HG2.out).mono ?_
    rintro e w3 ⟨rfl, hb3⟩
    have HB3 := Lib.hid (HB0.out.trans ((HB2.out.trans (hb3.mono HB2.out.size)).mono HB0.out.size))
    clear hb3
    go_wp2
    go_ret
    exact ⟨rfl, HB3.out⟩
  · have e1 := HSH.out.1 rfl
    have hlt := HLT.out rfl
    have hin := (HIN.out rfl).1
    rw [e1]
    obtain ⟨m, rfl⟩ : ∃ m : Nat, n = (m : Int) := ⟨n.toNat, by omega⟩
    have hlt' : sv < m := by simpa using hlt
    clear HSH HLT HIN e1 hlt hin
    go_wp2_with (go_at_call 9; refine stop ?_)
    unfold Stop
    refine (HAW.out w2 HG2.out).mono ?_
    rintro e w3 ⟨rfl, hb3⟩
    have HB3 := Lib.hid (HB0.out.trans ((HB2.out.trans (hb3.mono HB2.out.size)).mono HB0.out.size))
    clear hb3
    go_wp2
    go_ret
    exact ⟨rfl, HB3.out⟩

end
section
set_option linter.unusedVariables false
set_option linter.unusedSimpArgs false

open Go.RowKit
set_option maxRecDepth 100000 in
theorem drewN_add' (w : World) (a b : Nat) : (w.drewN a).drewN b = w.drewN (a + b) := by simp [World.drewN, Nat.add_assoc]
set_option maxRecDepth 100000 in
theorem below_drewN' (B : Nat) (w : World) (n : Nat) : Below B w (w.drewN n) := by
  have : Stp w (w.drewN n) := by
    induction n with
    | zero => exact Stp.refl _
    | succ n ih => exact Stp.trans _ _ _ ih ((Below.refl _ _).drew)
  exact ⟨this.os, this.tape, this.output, this.size, fun k hk => rfl⟩
set_option maxRecDepth 100000 in
theorem ints_same (A A' : Option Addr) (c c' B B' n : Nat) (xs : List Int) (w : World) (hx : Sl w B A (i64s xs)) (hy : Sl w B' A' (i64s xs)) (hn : xs.length = n) (hm : n ≤ 1000) :
    Calls Tryd.prog 15 #[.slice A n c, .slice A' n c'] w fun e w' => e = .returned (.bool true) ∧ ∃ n, w' = w.drewN n := by
  have HX := Lib.hid hx
  have HY := Lib.hid hy
  have HL := Lib.hid (fun (k : Nat) (h : k < n) => show xs[k]? = some (xs[k]'(by omega)) from List.getElem?_eq_getElem (by omega))
  clear hx hy
  go_enter Tryd.func15, Tryd.ntmps15
  go_wp2
  go_loopw [5] (fun i wr => ∃ k q : Nat, k ≤ n ∧ i = .int .i64 k ∧ wr = w.drewN q) (fun i _ => n - (intOf i).toNat)
  case atStart => exact ⟨0, 0, Nat.zero_le _, rfl, rfl⟩
  case round =>
    obtain ⟨k, q, hk, rfl, rfl⟩ := hrel
    by_cases hlt : k < n
    · have hy0 := HL.out k hlt
      generalize xs[k] = y at hy0
      obtain ⟨ad, rfl, _, hc⟩ := HX.out.at (i64s_at hy0)
      obtain ⟨ad', rfl, _, hc'⟩ := HY.out.at (i64s_at hy0)
      have hc1 : ∀ n, (w.drewN n).cell? (ad.add k) = some (.int .i64 y) := fun n => hc
      have hc2 : ∀ n, (w.drewN n).cell? (ad'.add k) = some (.int .i64 y) := fun n => hc'
      clear hc hc' hy0
      go_wp2
      go_quiet (fail)
      go_wp2
      go_roundw
      case rel => exact ⟨k + 1, _, by omega, by go_num, rfl⟩
      case measure => simp [intOf]; omega
    · go_wp2
      go_ret
      exact ⟨rfl, _, rfl⟩
set_option maxRecDepth 100000 in
theorem ints_b (A A' : Option Addr) (c c' B B' n : Nat) (xs : List Int) (w : World) (hx : Sl w B A (i64s xs)) (hy : Sl w B' A' (i64s xs)) (hn : xs.length = n) (hm : n ≤ 1000) :
    Calls Tryd.prog 15 #[.slice A n c, .slice A' n c'] w fun e w' => e = .returned (.bool true) ∧ Below w.heap.size w w' :=
  (ints_same A A' c c' B B' n xs w hx hy hn hm).mono fun e w' ⟨h1, q, h2⟩ => ⟨h1, by rw [h2]; exact below_drewN' _ _ _⟩
set_option maxRecDepth 100000 in
theorem sp_64 (t : Ptx) (n : Int) : (∀ z ∈ spI t n, 0 ≤ z ∧ z < 64) ∧ ∀ z ∈ spO t n, 0 ≤ z ∧ z < 64 := by
  cases h : okT t n
  · obtain ⟨e1, e2⟩ := sp_no h
    rw [e1, e2]; simp
  · obtain ⟨e1, e2⟩ := sp_yes h
    rw [e1, e2]
    unfold insZ outsZ
    constructor
    · intro z hz
      obtain ⟨p, _, rfl⟩ := List.mem_map.1 hz
      have := shO_64 p.d p.x n
      omega
    · intro z hz
      obtain ⟨i, _, rfl⟩ := List.mem_map.1 hz
      have := shO_64 (idT t) (i : Int) n
      omega
set_option maxRecDepth 100000 in
theorem gath_sp (t : Ptx) (n : Int) : gathZ (spI t n) = eachZ (spI t n) ∧ gathZ (spO t n) = eachZ (spO t n) ∧ singL t n = eachZ (spI t n ++ spO t n) :=
  ⟨gathZ_each _ (sp_64 t n).1, gathZ_each _ (sp_64 t n).2, gathZ_each _ (fun z hz => (List.mem_append.1 hz).elim ((sp_64 t n).1 z) ((sp_64 t n).2 z))⟩
set_option maxRecDepth 100000 in
theorem eachZ_len (l : List Int) : (eachZ l).length ≤ 64 := eaN_len l 64

end
end Go.Proofs.YtoclfohgchlpnaaDoor
