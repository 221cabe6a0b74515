/- 'MappingOne': its walk. -/
import Derived.Test.YtoclfohgchlpnaaDoorMpV
import Derived.Test.YtoclfohgchlpnaaDoorMpO
set_option linter.unusedVariables false
set_option linter.unusedSimpArgs false
namespace Go.Proofs.YtoclfohgchlpnaaDoor
open Go.RowKit
set_option maxRecDepth 100000 in
theorem gath_one {zs : List Int} {z : Int} : gathZ zs = [z] ↔ ∀ x, x ∈ zs ↔ x = z := by
  constructor
  · intro h x
    rw [← (gathZ_up zs).2, h, List.mem_singleton]
  · intro h
    refine strict_ext _ _ (gathZ_up zs).1 (List.pairwise_singleton ..) fun x => ?_
    rw [(gathZ_up zs).2, h, List.mem_singleton]
set_option maxRecDepth 100000 in
theorem len_one {l : List Int} (h : l.length = 1) : ∃ z, l = [z] := by
  cases l with
  | nil => simp at h
  | cons a l => cases l with
    | nil => exact ⟨a, rfl⟩
    | cons b l => simp at h
set_option maxRecDepth 100000 in
theorem sing_yes {I O : List Int} {z : Int} (h1 : gathZ I = [z]) (h2 : gathZ O = [z]) : gathZ (I ++ O) = [z] := by
  rw [gath_one] at *
  intro x
  rw [List.mem_append, h1, h2, or_self]
set_option maxRecDepth 100000 in
theorem sing_back {I O : List Int} (hI : I ≠ []) (hO : O ≠ []) (h : (gathZ (I ++ O)).length = 1) : ∃ z, gathZ I = [z] ∧ gathZ O = [z] := by
  obtain ⟨z, hz⟩ := len_one h
  rw [gath_one] at hz
  refine ⟨z, gath_one.2 fun x => ⟨fun h => (hz x).1 (List.mem_append_left _ h), fun h => ?_⟩, gath_one.2 fun x => ⟨fun h => (hz x).1 (List.mem_append_right _ h), fun h => ?_⟩⟩
  · obtain ⟨y, hy⟩ := List.exists_mem_of_ne_nil _ hI
    rw [h, ← (hz y).1 (List.mem_append_left _ hy)]; exact hy
  · obtain ⟨y, hy⟩ := List.exists_mem_of_ne_nil _ hO
    rw [h, ← (hz y).1 (List.mem_append_right _ hy)]; exact hy
set_option maxRecDepth 100000 in
theorem places_all {l : List Int} {z : Int} (h : ∀ x ∈ l, x = z) : (placesZ l z).length = l.length := by
  unfold placesZ plN
  rw [List.length_map, List.filter_eq_self.2, List.length_range]
  intro i hi
  rw [List.mem_range] at hi
  exact decide_eq_true (by rw [List.getElem?_eq_getElem hi, h _ (List.getElem_mem hi)])
set_option maxRecDepth 100000 in
theorem sp_ne {t : Ptx} {n : Int} (hc : chk t = 0) (hn : inN n = true) : (spI t n).length = t.ins.length ∧ (spO t n).length = t.outs.length ∧ spI t n ≠ [] ∧ spO t n ≠ [] := by
  obtain ⟨e1, e2⟩ := sp_yes (okT_yes hn hc)
  have hw := chk_ok hc
  unfold withinB at hw
  rw [Bool.and_eq_true] at hw
  have h := of_decide_eq_true hw.1
  have l1 := insZ_len t n
  have l2 := outsZ_len t n
  rw [e1, e2]
  refine ⟨l1, l2, fun h0 => ?_, fun h0 => ?_⟩
  · rw [h0] at l1; simp at l1; omega
  · rw [h0] at l2; simp at l2; omega
set_option maxRecDepth 100000 in
theorem sing_first {t : Ptx} (hc : chk t = 0) : singV t 1 = 0 ∧ singB t 1 = true := by
  obtain ⟨e1, e2⟩ := sp_yes (okT_yes (n := 1) rfl hc)
  obtain ⟨_, _, n1, n2⟩ := sp_ne hc (n := 1) rfl
  have hs : singL t 1 = [0] := by
    refine gath_one.2 fun x => ⟨fun h => ?_, fun h => ?_⟩
    · rcases List.mem_append.1 h with h | h
      · rw [e1] at h
        obtain ⟨p, _, rfl⟩ := List.mem_map.1 h
        rw [shO_one]; rfl
      · rw [e2] at h
        obtain ⟨p, _, rfl⟩ := List.mem_map.1 h
        rw [shO_one]; rfl
    · obtain ⟨y, hy⟩ := List.exists_mem_of_ne_nil _ n1
      have : y = 0 := by
        rw [e1] at hy
        obtain ⟨p, _, rfl⟩ := List.mem_map.1 hy
        rw [shO_one]; rfl
      rw [h, ← this]
      exact List.mem_append_left _ hy
  unfold singV singB
  rw [hs]
  exact ⟨rfl, rfl⟩
set_option maxRecDepth 100000 in
theorem gathZ_len (l : List Int) : (gathZ l).length ≤ l.length := by
  have := Lib.compact_length_le (srtZ l)
  rw [srtZ_len] at this
  exact this
def PtrC (z : Int) (v : Value) (w : World) : Prop := ∃ ad : Addr, v = .pointer (some ad) ∧ w.cell? ad = some (.int .i64 z)
set_option maxRecDepth 100000 in
theorem PtrC.stable (z : Int) (v : Value) (w w' : World) (h : PtrC z v w) (hs : Stp w w') : PtrC z v w' := by
  obtain ⟨ad, e, hc⟩ := h
  exact ⟨ad, e, by rw [Below.cell hs (World.block_lt_of_cell? w _ hc)]; exact hc⟩
set_option maxRecDepth 100000 in
theorem own_cell0 {w : World} {B : Nat} {v : Value} {z : Int} (h : w.ownsRow B 3 1 v 1 (i64s [z])) : ∃ (g cap : Nat), v = .slice (some ⟨g, 0, none⟩) 1 cap ∧ w.cell? ⟨g, 0, none⟩ = some (.int .i64 z) := by
  obtain ⟨g, cap, rfl, hg1, hg2⟩ := h.form (by omega)
  exact ⟨g, cap, rfl, by have := h.cellAt 0 (by omega); simpa [i64s] using this⟩
set_option maxRecDepth 100000 in
theorem own_len {w : World} {B n : Nat} {v : Value} {xs : List Value} (h : w.ownsRow B 3 1 v n xs) : ∃ A c, v = .slice A n c := by
  obtain ⟨A, c, e, _⟩ := own_sl h
  exact ⟨A, c, e⟩
set_option maxRecDepth 100000 in
set_option maxHeartbeats 16000000 in
theorem mappingOne_walk (Ai : Option Addr) (ci : Nat) (Ao : Option Addr) (co : Nat) (t : Ptx) (a : Nat) (w : World) (h : TxAt w w.heap.size Ai ci Ao co t) (ha : a < 256) (hG : Glob w) :
    Calls Tryd.prog 6 #[txV Ai ci Ao co t, .int .u8 (a : Int)] w fun e w' => e = .returned (.bool true) ∧ Below w.heap.size w w' := by
  obtain ⟨w0, hw0⟩ : ∃ w0, w0 = w.alloc (.cells (txCells Ai ci Ao co t).toArray 35) := ⟨_, rfl⟩
  obtain ⟨hbx, hb0⟩ := Box.new hw0 h (Nat.le_refl _) hG
  have B0 := Lib.hid hbx
  have FIN := Lib.hid (fun (w' : World) (k : Stp w0 w') => show Below w.heap.size w w' from hb0.trans (Below.mono k hb0.size))
  obtain ⟨c0, c1, c2, c3⟩ := hbx.row
  have AW := Lib.hid awake_any
  have K0 := Lib.hid ((rcheck_any Ai Ao ci co w.heap.size t w0 B0.out.at_).mono (fun _ _ ⟨h1, h2⟩ => And.intro h1 (show Below w0.heap.size w0 _ from turn_stp h2)))
  have HST := Lib.hid (fun (x y : World) (hx : Box w0 w.heap.size w.heap.size Ai Ao ci co t x) (k : Below x.heap.size x y) => hx.step k)
  by_cases hc : chk t = 0
  · rw [hc] at K0
    obtain ⟨n, hn⟩ : ∃ n : Int, n = 1 + (a : Int) % 64 := ⟨_, rfl⟩
    have hin : inN n = true := decide_eq_true (by omega)
    obtain ⟨f1, f2⟩ := sing_first hc
    have S1 := Lib.hid (fun (w' : World) (k : Box w0 w.heap.size w.heap.size Ai Ao ci co t w') => single_any Ai Ao ci co w.heap.size t 1 w' k.at_ k.size k.glob)
    rw [f1, f2] at S1
    obtain ⟨la, lb, na, nb⟩ := sp_ne hc hin
    have SN := Lib.hid (fun (w' : World) (k : Box w0 w.heap.size w.heap.size Ai Ao ci co t w') => single_any Ai Ao ci co w.heap.size t n w' k.at_ k.size k.glob)
    have AT := Lib.hid (fun (s : Int) (w' : World) (k : Box w0 w.heap.size w.heap.size Ai Ao ci co t w') => at_any Ai Ao ci co w.heap.size t n s w' k.at_ k.size k.glob)
    have IN := Lib.hid (fun (w' : World) (k : Box w0 w.heap.size w.heap.size Ai Ao ci co t w') => ins_any Ai Ao ci co w.heap.size t n w' k.at_ k.size k.glob)
    have OU := Lib.hid (fun (w' : World) (k : Box w0 w.heap.size w.heap.size Ai Ao ci co t w') => outs_any Ai Ao ci co w.heap.size t n w' k.at_ k.size k.glob)
    have BK := Lib.hid (fun h => sing_back (I := spI t n) (O := spO t n) na nb h)
    have YS := Lib.hid (fun (z : Int) h1 h2 => sing_yes (I := spI t n) (O := spO t n) (z := z) h1 h2)
    have PA := Lib.hid (fun (z : Int) (h1 : gathZ (spI t n) = [z]) => places_all (l := spI t n) (z := z) (fun x hx => (gath_one.1 h1 x).1 hx))
    have PB := Lib.hid (fun (z : Int) (h1 : gathZ (spO t n) = [z]) => places_all (l := spO t n) (z := z) (fun x hx => (gath_one.1 h1 x).1 hx))
    rw [la] at PA
    rw [lb] at PB
    have HSV := Lib.hid (show singV t n = if (gathZ (spI t n ++ spO t n)).length = 1 then (gathZ (spI t n ++ spO t n)).getD 0 0 else 0 from rfl)
    have HSB := Lib.hid (show singB t n = decide ((gathZ (spI t n ++ spO t n)).length = 1) from rfl)
    unfold txV at K0 S1 SN AT IN OU ⊢
    have HPL := Lib.hid (fun s => And.intro (placesZ_len (spI t n) s) (placesZ_len (spO t n) s))
    have HSL := Lib.hid (sp_len t n)
    clear h hbx hb0 hG hc hin f1 f2 la lb na nb
    generalize spI t n = li at *
    generalize spO t n = lo at *
    generalize singV t n = sv at *
    generalize singB t n = sb at *
    go_enter Tryd.func6, Tryd.ntmps6
    go_upto_region 1 with fail
    change Code.wp _ _ _ _ (w.alloc (.cells (txCells Ai ci Ao co t).toArray 35))
    rw [← hw0]
    clear hw0
    go_wp2_with (go_at_call 19; refine stop ?_)
    unfold Stop
    refine K0.out.mono ?_
    rintro e w1 ⟨rfl, hb1⟩
    have B1 := Lib.hid (HST.out _ _ B0.out hb1)
    clear hb1 c0 c1 c2 c3 K0
    go_upto_region 3 with fail
    obtain ⟨c0, c1, c2, c3⟩ := B1.out.row
    go_wp2_with (go_at_call 13; refine stop ?_)
    unfold Stop
    refine (S1.out w1 B1.out).mono ?_
    rintro e w2 ⟨rfl, hb2⟩
    have B2 := Lib.hid (HST.out _ _ B1.out hb2)
    clear hb2 c0 c1 c2 c3 S1
    go_upto_region 5 with fail
    rw [← hn]
    clear hn
    obtain ⟨c0, c1, c2, c3⟩ := B2.out.row
    go_wp2_with (go_at_call 13; refine stop ?_)
    unfold Stop
    refine (SN.out w2 B2.out).mono ?_
    rintro e w3 ⟨rfl, hb3⟩
    have B3 := Lib.hid (HST.out _ _ B2.out hb3)
    clear hb3 c0 c1 c2 c3 SN
    go_upto_region 6 with fail
    obtain ⟨c0, c1, c2, c3⟩ := B3.out.row
    go_wp2_with (go_at_call 14; refine stop ?_)
    unfold Stop
    refine (AT.out sv w3 B3.out).mono ?_
    rintro e w4 ⟨x, y, rfl, hx, hy, hb4⟩
    obtain ⟨AX, kx, rfl, sx, -, hkx, hax⟩ := own_sl hx
    obtain ⟨AY, ky, rfl, sy, -, hky, hay⟩ := own_sl hy
    have B4 := Lib.hid (HST.out _ _ B3.out hb4)
    clear hb4 c0 c1 c2 c3 AT hx hy sx sy hkx hky hax hay
    go_upto_region 7 with fail
    obtain ⟨nx, hnx⟩ : ∃ nx, nx = (placesZ li sv).length := ⟨_, rfl⟩
    obtain ⟨ny, hny⟩ : ∃ ny, ny = (placesZ lo sv).length := ⟨_, rfl⟩
    have hnx16 : nx ≤ 16 := by rw [hnx]; exact Nat.le_trans (HPL.out sv).1 HSL.out.1
    have hny16 : ny ≤ 16 := by rw [hny]; exact Nat.le_trans (HPL.out sv).2 HSL.out.2
    have HNX := Lib.hid hnx
    have HNY := Lib.hid hny
    rw [← hnx, ← hny]
    have HLI := Lib.hid HSL.out.1
    have HLO := Lib.hid HSL.out.2
    clear hnx hny HPL HSL
    have GI := Lib.hid (show (gathZ li).length ≤ 16 from Nat.le_trans (gathZ_len li) HLI.out)
    have GO := Lib.hid (show (gathZ lo).length ≤ 16 from Nat.le_trans (gathZ_len lo) HLO.out)
    clear HLI HLO
    by_cases hI : (gathZ li).length = 1
    · obtain ⟨zi, hzi⟩ := len_one hI
      rw [hzi] at IN
      by_cases hO : (gathZ lo).length = 1
      · obtain ⟨zo, hzo⟩ := len_one hO
        rw [hzo] at OU
        by_cases hz : zi = zo
        · subst hz
          have hs := YS.out zi hzi hzo
          have e1 : sv = zi := by rw [HSV.out, hs]; rfl
          have e2 : sb = true := by rw [HSB.out, hs]; rfl
          subst e1 e2
          have ex : nx = t.ins.length := by rw [HNX.out]; exact PA.out _ hzi
          have ey : ny = t.outs.length := by rw [HNY.out]; exact PB.out _ hzo
          subst ex ey
          clear hI hO hzi hzo hs HNX HNY PA PB YS BK HSV HSB GI GO
          go_wp2_with fail
          refine wp_region_rel 95 Stp (.one ?_ :: .one ?_ :: .one ?_ :: .one ?_ :: .one ?_ :: .one ?_ :: .one ?_ :: .one ?_ :: .one ?_ :: .rel (fun v w => w.ownsRow w4.heap.size 3 1 v 1 (i64s [sv])) :: .one ?_ :: .one ?_ :: .one ?_ :: .one ?_ :: .one ?_ :: .rel (fun v w => w.ownsRow w4.heap.size 3 1 v 1 (i64s [sv])) :: .one ?_ :: .one ?_ :: .one ?_ :: .one ?_ :: .one ?_ :: .one ?_ :: .rel (fun v w => w.ownsRow w4.heap.size 3 1 v 1 (i64s [sv])) :: .rel (PtrC sv) :: .one ?_ :: .one ?_ :: .one ?_ :: .rel (fun v w => w.ownsRow w4.heap.size 3 1 v 1 (i64s [sv])) :: .rel (PtrC sv) :: .one ?_ :: .one ?_ :: .one ?_ :: .one ?_ :: .one ?_ :: .one ?_ :: .one ?_ :: .one ?_ :: .one ?_ :: .one ?_ :: .one ?_ :: .one ?_ :: .one ?_ :: .one ?_ :: .one ?_ :: .one ?_ :: .one ?_ :: .one ?_ :: .one ?_ :: .one ?_ :: .one ?_ :: .one ?_ :: .one ?_ :: .one ?_ :: .one ?_ :: .one ?_ :: .one ?_ :: .one ?_ :: .one ?_ :: []) (by kernel_rfl) (by kernel_rfl) rfl (by kernel_rfl) Stp.refl Stp.trans ⟨fun v w w' h hs => own_below h hs, fun v w w' h hs => own_below h hs, fun v w w' h hs => own_below h hs, PtrC.stable _, fun v w w' h hs => own_below h hs, PtrC.stable _, trivial⟩ ?main
          case main =>
          iterate 7
            refine wpR_one (A' := ?_) Stp.refl (by rfl) _ rfl 95 (by rfl) (by rfl) ?_ ?_ ?_
            rotate_left 1
            · simp only [Act.put, List.setIfInBounds_toArray, List.set_cons_zero, List.set_cons_succ]; rfl
            · intro w1 hs hf K hK
              go_big_quiet_op
              first
                | go_big_quiet_on
                | (refine ⟨_, fun _ _ => rfl, ?_⟩; go_big_quiet_on)
              rfl
          refine wpR_one (A' := ?_) Stp.refl (by rfl) _ rfl 95 (by rfl) (by rfl) ?_ ?_ ?_
          rotate_left 1
          · simp only [Act.put, List.setIfInBounds_toArray, List.set_cons_zero, List.set_cons_succ]; rfl
          · intro w9 hs hf K hK
            refine cls_load 35 (.tmp 2) rfl (w.heap.size) (0) rfl (txCells Ai ci Ao co t) _ (fun w2 h2 => (HST.out w4 w2 B4.out (stp_start (Stp.trans _ _ _ hs h2) (Below.refl _ _))).range) Tryd.underlying35 rfl (by kernel_rfl) ?_
            refine hK _ ?_
            simp only [Act.put, List.setIfInBounds_toArray, List.set_cons_zero, List.set_cons_succ]
            rfl
          iterate 1
            refine wpR_one (A' := ?_) Stp.refl (by rfl) _ rfl 95 (by rfl) (by rfl) ?_ ?_ ?_
            rotate_left 1
            · simp only [Act.put, List.setIfInBounds_toArray, List.set_cons_zero, List.set_cons_succ]; rfl
            · intro w1 hs hf K hK
              go_big_quiet_op
              first
                | go_big_quiet_on
                | (refine ⟨_, fun _ _ => rfl, ?_⟩; go_big_quiet_on)
              rfl
          refine wpR_rel (A' := ?_) (by rfl) ?_ ?_ ?_
          · intro w9 hs hf
            refine does_call (w' := w9) (f := 16) (args := #[.agg (txCells Ai ci Ao co t).toArray, .int .i64 n]) (by kernel_rfl) ((IN.out w9 (HST.out w4 w9 B4.out (stp_start hs (Below.refl _ _)))).mono ?_)
            rintro e w3 ⟨v, rfl, ho, h3⟩
            exact ⟨v, rfl, own_more ho (Below.size (w := w4.drew) hs), h3⟩
          rotate_left 1
          · intro x
            simp only [Act.put, List.setIfInBounds_toArray, List.set_cons_zero, List.set_cons_succ]; rfl
          intro x47
          iterate 1
            refine wpR_one (A' := ?_) Stp.refl (by rfl) _ rfl 95 (by rfl) (by rfl) ?_ ?_ ?_
            rotate_left 1
            · simp only [Act.put, List.setIfInBounds_toArray, List.set_cons_zero, List.set_cons_succ]; rfl
            · intro w9 hs hf K hK
              obtain ⟨AL, cL, eL⟩ := own_len (AllF_at hf 0 rfl (by kernel_rfl))
              change x47 = _ at eL
              subst eL
              go_big_quiet_op
              first
                | go_big_quiet_on
                | (refine ⟨_, fun _ _ => rfl, ?_⟩; go_big_quiet_on)
              rfl
          iterate 2
            refine wpR_one (A' := ?_) Stp.refl (by rfl) _ rfl 95 (by rfl) (by rfl) ?_ ?_ ?_
            rotate_left 1
            · simp only [Act.put, List.setIfInBounds_toArray, List.set_cons_zero, List.set_cons_succ]; rfl
            · intro w1 hs hf K hK
              go_big_quiet_op
              first
                | go_big_quiet_on
                | (refine ⟨_, fun _ _ => rfl, ?_⟩; go_big_quiet_on)
              rfl
          refine wpR_one (A' := ?_) Stp.refl (by rfl) _ rfl 95 (by rfl) (by rfl) ?_ ?_ ?_
          rotate_left 1
          · simp only [Act.put, List.setIfInBounds_toArray, List.set_cons_zero, List.set_cons_succ]; rfl
          · intro w9 hs hf K hK
            refine cls_load 35 (.tmp 2) rfl (w.heap.size) (0) rfl (txCells Ai ci Ao co t) _ (fun w2 h2 => (HST.out w4 w2 B4.out (stp_start (Stp.trans _ _ _ hs h2) (Below.refl _ _))).range) Tryd.underlying35 rfl (by kernel_rfl) ?_
            refine hK _ ?_
            simp only [Act.put, List.setIfInBounds_toArray, List.set_cons_zero, List.set_cons_succ]
            rfl
          iterate 1
            refine wpR_one (A' := ?_) Stp.refl (by rfl) _ rfl 95 (by rfl) (by rfl) ?_ ?_ ?_
            rotate_left 1
            · simp only [Act.put, List.setIfInBounds_toArray, List.set_cons_zero, List.set_cons_succ]; rfl
            · intro w1 hs hf K hK
              go_big_quiet_op
              first
                | go_big_quiet_on
                | (refine ⟨_, fun _ _ => rfl, ?_⟩; go_big_quiet_on)
              rfl
          refine wpR_rel (A' := ?_) (by rfl) ?_ ?_ ?_
          · intro w9 hs hf
            refine does_call (w' := w9) (f := 17) (args := #[.agg (txCells Ai ci Ao co t).toArray, .int .i64 n]) (by kernel_rfl) ((OU.out w9 (HST.out w4 w9 B4.out (stp_start hs (Below.refl _ _)))).mono ?_)
            rintro e w3 ⟨v, rfl, ho, h3⟩
            exact ⟨v, rfl, own_more ho (Below.size (w := w4.drew) hs), h3⟩
          rotate_left 1
          · intro x
            simp only [Act.put, List.setIfInBounds_toArray, List.set_cons_zero, List.set_cons_succ]; rfl
          intro x53
          iterate 1
            refine wpR_one (A' := ?_) Stp.refl (by rfl) _ rfl 95 (by rfl) (by rfl) ?_ ?_ ?_
            rotate_left 1
            · simp only [Act.put, List.setIfInBounds_toArray, List.set_cons_zero, List.set_cons_succ]; rfl
            · intro w9 hs hf K hK
              obtain ⟨AL, cL, eL⟩ := own_len (AllF_at hf 0 rfl (by kernel_rfl))
              change x53 = _ at eL
              subst eL
              go_big_quiet_op
              first
                | go_big_quiet_on
                | (refine ⟨_, fun _ _ => rfl, ?_⟩; go_big_quiet_on)
              rfl
          iterate 1
            refine wpR_one (A' := ?_) Stp.refl (by rfl) _ rfl 95 (by rfl) (by rfl) ?_ ?_ ?_
            rotate_left 1
            · simp only [Act.put, List.setIfInBounds_toArray, List.set_cons_zero, List.set_cons_succ]; rfl
            · intro w1 hs hf K hK
              go_big_quiet_op
              first
                | go_big_quiet_on
                | (refine ⟨_, fun _ _ => rfl, ?_⟩; go_big_quiet_on)
              rfl
          iterate 2
            refine wpR_one (A' := ?_) Stp.refl (by rfl) _ rfl 95 (by rfl) (by rfl) ?_ ?_ ?_
            rotate_left 1
            · simp only [Act.put, List.setIfInBounds_toArray, List.set_cons_zero, List.set_cons_succ]; rfl
            · intro w1 hs hf K hK
              go_big_quiet_op
              first
                | go_big_quiet_on
                | (refine ⟨_, fun _ _ => rfl, ?_⟩; go_big_quiet_on)
              rfl
          refine wpR_one (A' := ?_) Stp.refl (by rfl) _ rfl 95 (by rfl) (by rfl) ?_ ?_ ?_
          rotate_left 1
          · simp only [Act.put, List.setIfInBounds_toArray, List.set_cons_zero, List.set_cons_succ]; rfl
          · intro w9 hs hf K hK
            refine cls_load 35 (.tmp 2) rfl (w.heap.size) (0) rfl (txCells Ai ci Ao co t) _ (fun w2 h2 => (HST.out w4 w2 B4.out (stp_start (Stp.trans _ _ _ hs h2) (Below.refl _ _))).range) Tryd.underlying35 rfl (by kernel_rfl) ?_
            refine hK _ ?_
            simp only [Act.put, List.setIfInBounds_toArray, List.set_cons_zero, List.set_cons_succ]
            rfl
          iterate 1
            refine wpR_one (A' := ?_) Stp.refl (by rfl) _ rfl 95 (by rfl) (by rfl) ?_ ?_ ?_
            rotate_left 1
            · simp only [Act.put, List.setIfInBounds_toArray, List.set_cons_zero, List.set_cons_succ]; rfl
            · intro w1 hs hf K hK
              go_big_quiet_op
              first
                | go_big_quiet_on
                | (refine ⟨_, fun _ _ => rfl, ?_⟩; go_big_quiet_on)
              rfl
          refine wpR_rel (A' := ?_) (by rfl) ?_ ?_ ?_
          · intro w9 hs hf
            refine does_call (w' := w9) (f := 16) (args := #[.agg (txCells Ai ci Ao co t).toArray, .int .i64 n]) (by kernel_rfl) ((IN.out w9 (HST.out w4 w9 B4.out (stp_start hs (Below.refl _ _)))).mono ?_)
            rintro e w3 ⟨v, rfl, ho, h3⟩
            exact ⟨v, rfl, own_more ho (Below.size (w := w4.drew) hs), h3⟩
          rotate_left 1
          · intro x
            simp only [Act.put, List.setIfInBounds_toArray, List.set_cons_zero, List.set_cons_succ]; rfl
          intro x60
          refine wpR_rel (A' := ?_) (by rfl) ?_ ?_ ?_
          · intro w9 hs hf
            obtain ⟨gL, cL, eL, hcL⟩ := own_cell0 (AllF_at hf 0 rfl (by kernel_rfl))
            change x60 = _ at eL
            subst eL
            refine does_run (w' := w9) (u := .pointer (some ⟨gL, 0, none⟩)) (by simp [execOp, go_sem, Act.eval]) ⟨⟨⟨gL, 0, none⟩, rfl, hcL⟩, Stp.refl _⟩
          rotate_left 1
          · intro x
            simp only [Act.put, List.setIfInBounds_toArray, List.set_cons_zero, List.set_cons_succ]; rfl
          intro x61
          refine wpR_one (A' := ?_) Stp.refl (by rfl) _ rfl 95 (by rfl) (by rfl) ?_ ?_ ?_
          rotate_left 1
          · simp only [Act.put, List.setIfInBounds_toArray, List.set_cons_zero, List.set_cons_succ]; rfl
          · intro w9 hs hf K hK
            obtain ⟨ad, eL, hcL⟩ := AllF_at hf 0 rfl (by kernel_rfl)
            change x61 = _ at eL
            subst eL
            refine cls_load_cell 3 (.tmp 61) rfl ad rfl (.int .i64 sv) (fun w h => by simp [go_sem, h]) (fun w2 h2 => by rw [Below.cell h2 (World.block_lt_of_cell? w9 _ hcL)]; exact hcL) ?_
            refine hK _ ?_
            simp only [Act.put, List.setIfInBounds_toArray, List.set_cons_zero, List.set_cons_succ]
            rfl
          refine wpR_one (A' := ?_) Stp.refl (by rfl) _ rfl 95 (by rfl) (by rfl) ?_ ?_ ?_
          rotate_left 1
          · simp only [Act.put, List.setIfInBounds_toArray, List.set_cons_zero, List.set_cons_succ]; rfl
          · intro w9 hs hf K hK
            refine cls_load 35 (.tmp 2) rfl (w.heap.size) (0) rfl (txCells Ai ci Ao co t) _ (fun w2 h2 => (HST.out w4 w2 B4.out (stp_start (Stp.trans _ _ _ hs h2) (Below.refl _ _))).range) Tryd.underlying35 rfl (by kernel_rfl) ?_
            refine hK _ ?_
            simp only [Act.put, List.setIfInBounds_toArray, List.set_cons_zero, List.set_cons_succ]
            rfl
          iterate 1
            refine wpR_one (A' := ?_) Stp.refl (by rfl) _ rfl 95 (by rfl) (by rfl) ?_ ?_ ?_
            rotate_left 1
            · simp only [Act.put, List.setIfInBounds_toArray, List.set_cons_zero, List.set_cons_succ]; rfl
            · intro w1 hs hf K hK
              go_big_quiet_op
              first
                | go_big_quiet_on
                | (refine ⟨_, fun _ _ => rfl, ?_⟩; go_big_quiet_on)
              rfl
          refine wpR_rel (A' := ?_) (by rfl) ?_ ?_ ?_
          · intro w9 hs hf
            refine does_call (w' := w9) (f := 17) (args := #[.agg (txCells Ai ci Ao co t).toArray, .int .i64 n]) (by kernel_rfl) ((OU.out w9 (HST.out w4 w9 B4.out (stp_start hs (Below.refl _ _)))).mono ?_)
            rintro e w3 ⟨v, rfl, ho, h3⟩
            exact ⟨v, rfl, own_more ho (Below.size (w := w4.drew) hs), h3⟩
          rotate_left 1
          · intro x
            simp only [Act.put, List.setIfInBounds_toArray, List.set_cons_zero, List.set_cons_succ]; rfl
          intro x65
          refine wpR_rel (A' := ?_) (by rfl) ?_ ?_ ?_
          · intro w9 hs hf
            obtain ⟨gL, cL, eL, hcL⟩ := own_cell0 (AllF_at hf 0 rfl (by kernel_rfl))
            change x65 = _ at eL
            subst eL
            refine does_run (w' := w9) (u := .pointer (some ⟨gL, 0, none⟩)) (by simp [execOp, go_sem, Act.eval]) ⟨⟨⟨gL, 0, none⟩, rfl, hcL⟩, Stp.refl _⟩
          rotate_left 1
          · intro x
            simp only [Act.put, List.setIfInBounds_toArray, List.set_cons_zero, List.set_cons_succ]; rfl
          intro x66
          refine wpR_one (A' := ?_) Stp.refl (by rfl) _ rfl 95 (by rfl) (by rfl) ?_ ?_ ?_
          rotate_left 1
          · simp only [Act.put, List.setIfInBounds_toArray, List.set_cons_zero, List.set_cons_succ]; rfl
          · intro w9 hs hf K hK
            obtain ⟨ad, eL, hcL⟩ := AllF_at hf 0 rfl (by kernel_rfl)
            change x66 = _ at eL
            subst eL
            refine cls_load_cell 3 (.tmp 66) rfl ad rfl (.int .i64 sv) (fun w h => by simp [go_sem, h]) (fun w2 h2 => by rw [Below.cell h2 (World.block_lt_of_cell? w9 _ hcL)]; exact hcL) ?_
            refine hK _ ?_
            simp only [Act.put, List.setIfInBounds_toArray, List.set_cons_zero, List.set_cons_succ]
            rfl
          iterate 1
            refine wpR_one (A' := ?_) Stp.refl (by rfl) _ rfl 95 (by rfl) (by rfl) ?_ ?_ ?_
            rotate_left 1
            · simp only [Act.put, List.setIfInBounds_toArray, List.set_cons_zero, List.set_cons_succ]; rfl
            · intro w1 hs hf K hK
              go_big_quiet_op
              first
                | go_big_quiet_on
                | (refine ⟨_, fun _ _ => rfl, ?_⟩; go_big_quiet_on)
              rfl
          iterate 7
            refine wpR_one (A' := ?_) Stp.refl (by rfl) _ rfl 95 (by rfl) (by rfl) ?_ ?_ ?_
            rotate_left 1
            · simp only [Act.put, List.setIfInBounds_toArray, List.set_cons_zero, List.set_cons_succ]; rfl
            · intro w1 hs hf K hK
              go_big_quiet_op
              first
                | go_big_quiet_on
                | (refine ⟨_, fun _ _ => rfl, ?_⟩; go_big_quiet_on)
              rfl
          iterate 3
            refine wpR_one (A' := ?_) Stp.refl (by rfl) _ rfl 95 (by rfl) (by rfl) ?_ ?_ ?_
            rotate_left 1
            · simp only [Act.put, List.setIfInBounds_toArray, List.set_cons_zero, List.set_cons_succ]; rfl
            · intro w1 hs hf K hK
              go_big_quiet_op
              first
                | go_big_quiet_on
                | (refine ⟨_, fun _ _ => rfl, ?_⟩; go_big_quiet_on)
              rfl
          refine wpR_one (A' := ?_) Stp.refl (by rfl) _ rfl 95 (by rfl) (by rfl) ?_ ?_ ?_
          rotate_left 1
          · simp only [Act.put, List.setIfInBounds_toArray, List.set_cons_zero, List.set_cons_succ]; rfl
          · intro w9 hs hf K hK
            refine cls_load_cell 31 (.tmp 78) rfl ⟨w.heap.size, 0, none⟩ rfl (.slice Ai t.ins.length ci) (fun w h => by simp [go_sem, h]) (fun w2 h2 => (HST.out w4 w2 B4.out (stp_start (Stp.trans _ _ _ hs h2) (Below.refl _ _))).row.1) ?_
            refine hK _ ?_
            simp only [Act.put, List.setIfInBounds_toArray, List.set_cons_zero, List.set_cons_succ]
            rfl
          iterate 6
            refine wpR_one (A' := ?_) Stp.refl (by rfl) _ rfl 95 (by rfl) (by rfl) ?_ ?_ ?_
            rotate_left 1
            · simp only [Act.put, List.setIfInBounds_toArray, List.set_cons_zero, List.set_cons_succ]; rfl
            · intro w1 hs hf K hK
              go_big_quiet_op
              first
                | go_big_quiet_on
                | (refine ⟨_, fun _ _ => rfl, ?_⟩; go_big_quiet_on)
              rfl
          refine wpR_one (A' := ?_) Stp.refl (by rfl) _ rfl 95 (by rfl) (by rfl) ?_ ?_ ?_
          rotate_left 1
          · simp only [Act.put, List.setIfInBounds_toArray, List.set_cons_zero, List.set_cons_succ]; rfl
          · intro w9 hs hf K hK
            refine cls_load_cell 32 (.tmp 85) rfl ⟨w.heap.size, 1, none⟩ rfl (.slice Ao t.outs.length co) (fun w h => by simp [go_sem, h]) (fun w2 h2 => (HST.out w4 w2 B4.out (stp_start (Stp.trans _ _ _ hs h2) (Below.refl _ _))).row.2.1) ?_
            refine hK _ ?_
            simp only [Act.put, List.setIfInBounds_toArray, List.set_cons_zero, List.set_cons_succ]
            rfl
          iterate 3
            refine wpR_one (A' := ?_) Stp.refl (by rfl) _ rfl 95 (by rfl) (by rfl) ?_ ?_ ?_
            rotate_left 1
            · simp only [Act.put, List.setIfInBounds_toArray, List.set_cons_zero, List.set_cons_succ]; rfl
            · intro w1 hs hf K hK
              go_big_quiet_op
              first
                | go_big_quiet_on
                | (refine ⟨_, fun _ _ => rfl, ?_⟩; go_big_quiet_on)
              rfl
          iterate 3
            refine wpR_one (A' := ?_) Stp.refl (by rfl) _ rfl 95 (by rfl) (by rfl) ?_ ?_ ?_
            rotate_left 1
            · simp only [Act.put, List.setIfInBounds_toArray, List.set_cons_zero, List.set_cons_succ]; rfl
            · intro w1 hs hf K hK
              go_big_quiet_op
              first
                | go_big_quiet_on
                | (refine ⟨_, fun _ _ => rfl, ?_⟩; go_big_quiet_on)
              rfl
          refine wpR_one (A' := ?_) Stp.refl (by rfl) _ rfl 95 (by rfl) (by rfl) ?_ ?_ ?_
          rotate_left 1
          · simp only [Act.put, List.setIfInBounds_toArray, List.set_cons_zero, List.set_cons_succ]; rfl
          · intro w9 hs hf K hK
            go_big_quiet_op
            apply Exists.intro
            refine ⟨fun w4x h2 => ?_, ?_⟩
            · refine (AW.out w4x (HST.out w4 w4x B4.out (stp_start (Stp.trans _ _ _ hs h2) (Below.refl _ _))).glob).mono ?_
              rintro e w3 ⟨rfl, h3⟩
              exact ⟨rfl, Stp.trans _ _ _ h2 h3⟩
            · go_big_quiet_on
              rfl
          iterate 2
            refine wpR_one (A' := ?_) Stp.refl (by rfl) _ rfl 95 (by rfl) (by rfl) ?_ ?_ ?_
            rotate_left 1
            · simp only [Act.put, List.setIfInBounds_toArray, List.set_cons_zero, List.set_cons_succ]; rfl
            · intro w1 hs hf K hK
              go_big_quiet_op
              first
                | go_big_quiet_on
                | (refine ⟨_, fun _ _ => rfl, ?_⟩; go_big_quiet_on)
              rfl
          intro w9 hs hf
          have HS9 := Lib.hid (HST.out w4 w9 B4.out (stp_start hs (Below.refl _ _)))
          clear hs hf
          go_wp2
          go_ret
          exact ⟨rfl, FIN.out _ HS9.out.stp⟩
        · have e2 : sb = false := by
            rw [HSB.out]; exact decide_eq_false fun h => by
              obtain ⟨z, h1, h2⟩ := BK.out h
              rw [hzi] at h1; rw [hzo] at h2
              injection h1 with h1; injection h2 with h2
              exact hz (h1.trans h2.symm)
          have hd : ((zi : Int) == zo) = false := beq_false_of_ne hz
          subst e2
          clear hI hO hzi hzo hz HNX HNY PA PB YS BK HSV HSB GI GO
          go_wp2_with fail
          refine wp_region_rel 95 Stp (.one ?_ :: .one ?_ :: .one ?_ :: .one ?_ :: .one ?_ :: .one ?_ :: .one ?_ :: .one ?_ :: .one ?_ :: .rel (fun v w => w.ownsRow w4.heap.size 3 1 v 1 (i64s [zi])) :: .one ?_ :: .one ?_ :: .one ?_ :: .one ?_ :: .one ?_ :: .rel (fun v w => w.ownsRow w4.heap.size 3 1 v 1 (i64s [zo])) :: .one ?_ :: .one ?_ :: .one ?_ :: .one ?_ :: .one ?_ :: .one ?_ :: .rel (fun v w => w.ownsRow w4.heap.size 3 1 v 1 (i64s [zi])) :: .rel (PtrC zi) :: .one ?_ :: .one ?_ :: .one ?_ :: .rel (fun v w => w.ownsRow w4.heap.size 3 1 v 1 (i64s [zo])) :: .rel (PtrC zo) :: .one ?_ :: .one ?_ :: .one ?_ :: .one ?_ :: .one ?_ :: .one ?_ :: .one ?_ :: .one ?_ :: .one ?_ :: .one undef :: .one undef :: .one undef :: .one undef :: .one undef :: .one undef :: .one undef :: .one undef :: .one undef :: .one undef :: .one undef :: .one undef :: .one undef :: .one undef :: .one ?_ :: .one ?_ :: .one ?_ :: .one ?_ :: .one ?_ :: .one ?_ :: []) (by kernel_rfl) (by kernel_rfl) rfl (by kernel_rfl) Stp.refl Stp.trans ⟨fun v w w' h hs => own_below h hs, fun v w w' h hs => own_below h hs, fun v w w' h hs => own_below h hs, PtrC.stable _, fun v w w' h hs => own_below h hs, PtrC.stable _, trivial⟩ ?main
          case main =>
          iterate 7
            refine wpR_one (A' := ?_) Stp.refl (by rfl) _ rfl 95 (by rfl) (by rfl) ?_ ?_ ?_
            rotate_left 1
            · simp only [Act.put, List.setIfInBounds_toArray, List.set_cons_zero, List.set_cons_succ]; rfl
            · intro w1 hs hf K hK
              go_big_quiet_op
              first
                | go_big_quiet_on
                | (refine ⟨_, fun _ _ => rfl, ?_⟩; go_big_quiet_on)
              rfl
          refine wpR_one (A' := ?_) Stp.refl (by rfl) _ rfl 95 (by rfl) (by rfl) ?_ ?_ ?_
          rotate_left 1
          · simp only [Act.put, List.setIfInBounds_toArray, List.set_cons_zero, List.set_cons_succ]; rfl
          · intro w9 hs hf K hK
            refine cls_load 35 (.tmp 2) rfl (w.heap.size) (0) rfl (txCells Ai ci Ao co t) _ (fun w2 h2 => (HST.out w4 w2 B4.out (stp_start (Stp.trans _ _ _ hs h2) (Below.refl _ _))).range) Tryd.underlying35 rfl (by kernel_rfl) ?_
            refine hK _ ?_
            simp only [Act.put, List.setIfInBounds_toArray, List.set_cons_zero, List.set_cons_succ]
            rfl
          iterate 1
            refine wpR_one (A' := ?_) Stp.refl (by rfl) _ rfl 95 (by rfl) (by rfl) ?_ ?_ ?_
            rotate_left 1
            · simp only [Act.put, List.setIfInBounds_toArray, List.set_cons_zero, List.set_cons_succ]; rfl
            · intro w1 hs hf K hK
              go_big_quiet_op
              first
                | go_big_quiet_on
                | (refine ⟨_, fun _ _ => rfl, ?_⟩; go_big_quiet_on)
              rfl
          refine wpR_rel (A' := ?_) (by rfl) ?_ ?_ ?_
          · intro w9 hs hf
            refine does_call (w' := w9) (f := 16) (args := #[.agg (txCells Ai ci Ao co t).toArray, .int .i64 n]) (by kernel_rfl) ((IN.out w9 (HST.out w4 w9 B4.out (stp_start hs (Below.refl _ _)))).mono ?_)
            rintro e w3 ⟨v, rfl, ho, h3⟩
            exact ⟨v, rfl, own_more ho (Below.size (w := w4.drew) hs), h3⟩
          rotate_left 1
          · intro x
            simp only [Act.put, List.setIfInBounds_toArray, List.set_cons_zero, List.set_cons_succ]; rfl
          intro x47
          iterate 1
            refine wpR_one (A' := ?_) Stp.refl (by rfl) _ rfl 95 (by rfl) (by rfl) ?_ ?_ ?_
            rotate_left 1
            · simp only [Act.put, List.setIfInBounds_toArray, List.set_cons_zero, List.set_cons_succ]; rfl
            · intro w9 hs hf K hK
              obtain ⟨AL, cL, eL⟩ := own_len (AllF_at hf 0 rfl (by kernel_rfl))
              change x47 = _ at eL
              subst eL
              go_big_quiet_op
              first
                | go_big_quiet_on
                | (refine ⟨_, fun _ _ => rfl, ?_⟩; go_big_quiet_on)
              rfl
          iterate 2
            refine wpR_one (A' := ?_) Stp.refl (by rfl) _ rfl 95 (by rfl) (by rfl) ?_ ?_ ?_
            rotate_left 1
            · simp only [Act.put, List.setIfInBounds_toArray, List.set_cons_zero, List.set_cons_succ]; rfl
            · intro w1 hs hf K hK
              go_big_quiet_op
              first
                | go_big_quiet_on
                | (refine ⟨_, fun _ _ => rfl, ?_⟩; go_big_quiet_on)
              rfl
          refine wpR_one (A' := ?_) Stp.refl (by rfl) _ rfl 95 (by rfl) (by rfl) ?_ ?_ ?_
          rotate_left 1
          · simp only [Act.put, List.setIfInBounds_toArray, List.set_cons_zero, List.set_cons_succ]; rfl
          · intro w9 hs hf K hK
            refine cls_load 35 (.tmp 2) rfl (w.heap.size) (0) rfl (txCells Ai ci Ao co t) _ (fun w2 h2 => (HST.out w4 w2 B4.out (stp_start (Stp.trans _ _ _ hs h2) (Below.refl _ _))).range) Tryd.underlying35 rfl (by kernel_rfl) ?_
            refine hK _ ?_
            simp only [Act.put, List.setIfInBounds_toArray, List.set_cons_zero, List.set_cons_succ]
            rfl
          iterate 1
            refine wpR_one (A' := ?_) Stp.refl (by rfl) _ rfl 95 (by rfl) (by rfl) ?_ ?_ ?_
            rotate_left 1
            · simp only [Act.put, List.setIfInBounds_toArray, List.set_cons_zero, List.set_cons_succ]; rfl
            · intro w1 hs hf K hK
              go_big_quiet_op
              first
                | go_big_quiet_on
                | (refine ⟨_, fun _ _ => rfl, ?_⟩; go_big_quiet_on)
              rfl
          refine wpR_rel (A' := ?_) (by rfl) ?_ ?_ ?_
          · intro w9 hs hf
            refine does_call (w' := w9) (f := 17) (args := #[.agg (txCells Ai ci Ao co t).toArray, .int .i64 n]) (by kernel_rfl) ((OU.out w9 (HST.out w4 w9 B4.out (stp_start hs (Below.refl _ _)))).mono ?_)
            rintro e w3 ⟨v, rfl, ho, h3⟩
            exact ⟨v, rfl, own_more ho (Below.size (w := w4.drew) hs), h3⟩
          rotate_left 1
          · intro x
            simp only [Act.put, List.setIfInBounds_toArray, List.set_cons_zero, List.set_cons_succ]; rfl
          intro x53
          iterate 1
            refine wpR_one (A' := ?_) Stp.refl (by rfl) _ rfl 95 (by rfl) (by rfl) ?_ ?_ ?_
            rotate_left 1
            · simp only [Act.put, List.setIfInBounds_toArray, List.set_cons_zero, List.set_cons_succ]; rfl
            · intro w9 hs hf K hK
              obtain ⟨AL, cL, eL⟩ := own_len (AllF_at hf 0 rfl (by kernel_rfl))
              change x53 = _ at eL
              subst eL
              go_big_quiet_op
              first
                | go_big_quiet_on
                | (refine ⟨_, fun _ _ => rfl, ?_⟩; go_big_quiet_on)
              rfl
          iterate 1
            refine wpR_one (A' := ?_) Stp.refl (by rfl) _ rfl 95 (by rfl) (by rfl) ?_ ?_ ?_
            rotate_left 1
            · simp only [Act.put, List.setIfInBounds_toArray, List.set_cons_zero, List.set_cons_succ]; rfl
            · intro w1 hs hf K hK
              go_big_quiet_op
              first
                | go_big_quiet_on
                | (refine ⟨_, fun _ _ => rfl, ?_⟩; go_big_quiet_on)
              rfl
          iterate 2
            refine wpR_one (A' := ?_) Stp.refl (by rfl) _ rfl 95 (by rfl) (by rfl) ?_ ?_ ?_
            rotate_left 1
            · simp only [Act.put, List.setIfInBounds_toArray, List.set_cons_zero, List.set_cons_succ]; rfl
            · intro w1 hs hf K hK
              go_big_quiet_op
              first
                | go_big_quiet_on
                | (refine ⟨_, fun _ _ => rfl, ?_⟩; go_big_quiet_on)
              rfl
          refine wpR_one (A' := ?_) Stp.refl (by rfl) _ rfl 95 (by rfl) (by rfl) ?_ ?_ ?_
          rotate_left 1
          · simp only [Act.put, List.setIfInBounds_toArray, List.set_cons_zero, List.set_cons_succ]; rfl
          · intro w9 hs hf K hK
            refine cls_load 35 (.tmp 2) rfl (w.heap.size) (0) rfl (txCells Ai ci Ao co t) _ (fun w2 h2 => (HST.out w4 w2 B4.out (stp_start (Stp.trans _ _ _ hs h2) (Below.refl _ _))).range) Tryd.underlying35 rfl (by kernel_rfl) ?_
            refine hK _ ?_
            simp only [Act.put, List.setIfInBounds_toArray, List.set_cons_zero, List.set_cons_succ]
            rfl
          iterate 1
            refine wpR_one (A' := ?_) Stp.refl (by rfl) _ rfl 95 (by rfl) (by rfl) ?_ ?_ ?_
            rotate_left 1
            · simp only [Act.put, List.setIfInBounds_toArray, List.set_cons_zero, List.set_cons_succ]; rfl
            · intro w1 hs hf K hK
              go_big_quiet_op
              first
                | go_big_quiet_on
                | (refine ⟨_, fun _ _ => rfl, ?_⟩; go_big_quiet_on)
              rfl
          refine wpR_rel (A' := ?_) (by rfl) ?_ ?_ ?_
          · intro w9 hs hf
            refine does_call (w' := w9) (f := 16) (args := #[.agg (txCells Ai ci Ao co t).toArray, .int .i64 n]) (by kernel_rfl) ((IN.out w9 (HST.out w4 w9 B4.out (stp_start hs (Below.refl _ _)))).mono ?_)
            rintro e w3 ⟨v, rfl, ho, h3⟩
            exact ⟨v, rfl, own_more ho (Below.size (w := w4.drew) hs), h3⟩
          rotate_left 1
          · intro x
            simp only [Act.put, List.setIfInBounds_toArray, List.set_cons_zero, List.set_cons_succ]; rfl
          intro x60
          refine wpR_rel (A' := ?_) (by rfl) ?_ ?_ ?_
          · intro w9 hs hf
            obtain ⟨gL, cL, eL, hcL⟩ := own_cell0 (AllF_at hf 0 rfl (by kernel_rfl))
            change x60 = _ at eL
            subst eL
            refine does_run (w' := w9) (u := .pointer (some ⟨gL, 0, none⟩)) (by simp [execOp, go_sem, Act.eval]) ⟨⟨⟨gL, 0, none⟩, rfl, hcL⟩, Stp.refl _⟩
          rotate_left 1
          · intro x
            simp only [Act.put, List.setIfInBounds_toArray, List.set_cons_zero, List.set_cons_succ]; rfl
          intro x61
          refine wpR_one (A' := ?_) Stp.refl (by rfl) _ rfl 95 (by rfl) (by rfl) ?_ ?_ ?_
          rotate_left 1
          · simp only [Act.put, List.setIfInBounds_toArray, List.set_cons_zero, List.set_cons_succ]; rfl
          · intro w9 hs hf K hK
            obtain ⟨ad, eL, hcL⟩ := AllF_at hf 0 rfl (by kernel_rfl)
            change x61 = _ at eL
            subst eL
            refine cls_load_cell 3 (.tmp 61) rfl ad rfl (.int .i64 zi) (fun w h => by simp [go_sem, h]) (fun w2 h2 => by rw [Below.cell h2 (World.block_lt_of_cell? w9 _ hcL)]; exact hcL) ?_
            refine hK _ ?_
            simp only [Act.put, List.setIfInBounds_toArray, List.set_cons_zero, List.set_cons_succ]
            rfl
          refine wpR_one (A' := ?_) Stp.refl (by rfl) _ rfl 95 (by rfl) (by rfl) ?_ ?_ ?_
          rotate_left 1
          · simp only [Act.put, List.setIfInBounds_toArray, List.set_cons_zero, List.set_cons_succ]; rfl
          · intro w9 hs hf K hK
            refine cls_load 35 (.tmp 2) rfl (w.heap.size) (0) rfl (txCells Ai ci Ao co t) _ (fun w2 h2 => (HST.out w4 w2 B4.out (stp_start (Stp.trans _ _ _ hs h2) (Below.refl _ _))).range) Tryd.underlying35 rfl (by kernel_rfl) ?_
            refine hK _ ?_
            simp only [Act.put, List.setIfInBounds_toArray, List.set_cons_zero, List.set_cons_succ]
            rfl
          iterate 1
            refine wpR_one (A' := ?_) Stp.refl (by rfl) _ rfl 95 (by rfl) (by rfl) ?_ ?_ ?_
            rotate_left 1
            · simp only [Act.put, List.setIfInBounds_toArray, List.set_cons_zero, List.set_cons_succ]; rfl
            · intro w1 hs hf K hK
              go_big_quiet_op
              first
                | go_big_quiet_on
                | (refine ⟨_, fun _ _ => rfl, ?_⟩; go_big_quiet_on)
              rfl
          refine wpR_rel (A' := ?_) (by rfl) ?_ ?_ ?_
          · intro w9 hs hf
            refine does_call (w' := w9) (f := 17) (args := #[.agg (txCells Ai ci Ao co t).toArray, .int .i64 n]) (by kernel_rfl) ((OU.out w9 (HST.out w4 w9 B4.out (stp_start hs (Below.refl _ _)))).mono ?_)
            rintro e w3 ⟨v, rfl, ho, h3⟩
            exact ⟨v, rfl, own_more ho (Below.size (w := w4.drew) hs), h3⟩
          rotate_left 1
          · intro x
            simp only [Act.put, List.setIfInBounds_toArray, List.set_cons_zero, List.set_cons_succ]; rfl
          intro x65
          refine wpR_rel (A' := ?_) (by rfl) ?_ ?_ ?_
          · intro w9 hs hf
            obtain ⟨gL, cL, eL, hcL⟩ := own_cell0 (AllF_at hf 0 rfl (by kernel_rfl))
            change x65 = _ at eL
            subst eL
            refine does_run (w' := w9) (u := .pointer (some ⟨gL, 0, none⟩)) (by simp [execOp, go_sem, Act.eval]) ⟨⟨⟨gL, 0, none⟩, rfl, hcL⟩, Stp.refl _⟩
          rotate_left 1
          · intro x
            simp only [Act.put, List.setIfInBounds_toArray, List.set_cons_zero, List.set_cons_succ]; rfl
          intro x66
          refine wpR_one (A' := ?_) Stp.refl (by rfl) _ rfl 95 (by rfl) (by rfl) ?_ ?_ ?_
          rotate_left 1
          · simp only [Act.put, List.setIfInBounds_toArray, List.set_cons_zero, List.set_cons_succ]; rfl
          · intro w9 hs hf K hK
            obtain ⟨ad, eL, hcL⟩ := AllF_at hf 0 rfl (by kernel_rfl)
            change x66 = _ at eL
            subst eL
            refine cls_load_cell 3 (.tmp 66) rfl ad rfl (.int .i64 zo) (fun w h => by simp [go_sem, h]) (fun w2 h2 => by rw [Below.cell h2 (World.block_lt_of_cell? w9 _ hcL)]; exact hcL) ?_
            refine hK _ ?_
            simp only [Act.put, List.setIfInBounds_toArray, List.set_cons_zero, List.set_cons_succ]
            rfl
          iterate 1
            refine wpR_one (A' := ?_) Stp.refl (by rfl) _ rfl 95 (by rfl) (by rfl) ?_ ?_ ?_
            rotate_left 1
            · simp only [Act.put, List.setIfInBounds_toArray, List.set_cons_zero, List.set_cons_succ]; rfl
            · intro w1 hs hf K hK
              go_big_quiet_op
              first
                | go_big_quiet_on
                | (refine ⟨_, fun _ _ => rfl, ?_⟩; go_big_quiet_on)
              rfl
          iterate 7
            refine wpR_one (A' := ?_) Stp.refl (by rfl) _ rfl 95 (by rfl) (by rfl) ?_ ?_ ?_
            rotate_left 1
            · simp only [Act.put, List.setIfInBounds_toArray, List.set_cons_zero, List.set_cons_succ]; rfl
            · intro w1 hs hf K hK
              go_big_quiet_op
              first
                | go_big_quiet_on
                | (refine ⟨_, fun _ _ => rfl, ?_⟩; go_big_quiet_on)
              rfl
          iterate 14
            refine wpR_skip (A' := ?_) (by rfl) ?_ ?_
            rotate_left 1
            · simp only [Act.put, List.setIfInBounds_toArray, List.set_cons_zero, List.set_cons_succ]; rfl
          iterate 3
            refine wpR_one (A' := ?_) Stp.refl (by rfl) _ rfl 95 (by rfl) (by rfl) ?_ ?_ ?_
            rotate_left 1
            · simp only [Act.put, List.setIfInBounds_toArray, List.set_cons_zero, List.set_cons_succ]; rfl
            · intro w1 hs hf K hK
              go_big_quiet_op
              first
                | go_big_quiet_on
                | (refine ⟨_, fun _ _ => rfl, ?_⟩; go_big_quiet_on)
              rfl
          refine wpR_one (A' := ?_) Stp.refl (by rfl) _ rfl 95 (by rfl) (by rfl) ?_ ?_ ?_
          rotate_left 1
          · simp only [Act.put, List.setIfInBounds_toArray, List.set_cons_zero, List.set_cons_succ]; rfl
          · intro w9 hs hf K hK
            go_big_quiet_op
            apply Exists.intro
            refine ⟨fun w4x h2 => ?_, ?_⟩
            · refine (AW.out w4x (HST.out w4 w4x B4.out (stp_start (Stp.trans _ _ _ hs h2) (Below.refl _ _))).glob).mono ?_
              rintro e w3 ⟨rfl, h3⟩
              exact ⟨rfl, Stp.trans _ _ _ h2 h3⟩
            · go_big_quiet_on
              rfl
          iterate 2
            refine wpR_one (A' := ?_) Stp.refl (by rfl) _ rfl 95 (by rfl) (by rfl) ?_ ?_ ?_
            rotate_left 1
            · simp only [Act.put, List.setIfInBounds_toArray, List.set_cons_zero, List.set_cons_succ]; rfl
            · intro w1 hs hf K hK
              go_big_quiet_op
              first
                | go_big_quiet_on
                | (refine ⟨_, fun _ _ => rfl, ?_⟩; go_big_quiet_on)
              rfl
          intro w9 hs hf
          have HS9 := Lib.hid (HST.out w4 w9 B4.out (stp_start hs (Below.refl _ _)))
          clear hs hf
          go_wp2
          go_ret
          exact ⟨rfl, FIN.out _ HS9.out.stp⟩
      · have e2 : sb = false := by
          rw [HSB.out]; exact decide_eq_false fun h => by
            obtain ⟨z, h1, h2⟩ := BK.out h
            exact hO (by rw [h2]; rfl)
        subst e2
        obtain ⟨ko, hko⟩ : ∃ ko, ko = (gathZ lo).length := ⟨_, rfl⟩
        rw [← hko] at OU hO GO
        have hd : ((ko : Int) == 1) = false := beq_false_of_ne (by omega)
        have hko64 := GO.out
        obtain ⟨go, hgo⟩ : ∃ go, go = gathZ lo := ⟨_, rfl⟩
        rw [← hgo] at OU
        clear hI hO hzi HNX HNY PA PB YS BK HSV HSB GI GO hko hgo
        go_wp2_with fail
        refine wp_region_rel 95 Stp (.one ?_ :: .one ?_ :: .one ?_ :: .one ?_ :: .one ?_ :: .one ?_ :: .one ?_ :: .one ?_ :: .one ?_ :: .rel (fun v w => w.ownsRow w4.heap.size 3 1 v 1 (i64s [zi])) :: .one ?_ :: .one ?_ :: .one ?_ :: .one ?_ :: .one ?_ :: .rel (fun v w => w.ownsRow w4.heap.size 3 1 v ko (i64s go)) :: .one ?_ :: .one ?_ :: .one ?_ :: .one ?_ :: .one undef :: .one undef :: .one undef :: .one undef :: .one undef :: .one undef :: .one undef :: .one undef :: .one undef :: .one undef :: .one undef :: .one ?_ :: .one ?_ :: .one ?_ :: .one ?_ :: .one ?_ :: .one ?_ :: .one ?_ :: .one undef :: .one undef :: .one undef :: .one undef :: .one undef :: .one undef :: .one undef :: .one undef :: .one undef :: .one undef :: .one undef :: .one undef :: .one undef :: .one undef :: .one ?_ :: .one ?_ :: .one ?_ :: .one ?_ :: .one ?_ :: .one ?_ :: []) (by kernel_rfl) (by kernel_rfl) rfl (by kernel_rfl) Stp.refl Stp.trans ⟨fun v w w' h hs => own_below h hs, fun v w w' h hs => own_below h hs, trivial⟩ ?main
        case main =>
        iterate 7
          refine wpR_one (A' := ?_) Stp.refl (by rfl) _ rfl 95 (by rfl) (by rfl) ?_ ?_ ?_
          rotate_left 1
          · simp only [Act.put, List.setIfInBounds_toArray, List.set_cons_zero, List.set_cons_succ]; rfl
          · intro w1 hs hf K hK
            go_big_quiet_op
            first
              | go_big_quiet_on
              | (refine ⟨_, fun _ _ => rfl, ?_⟩; go_big_quiet_on)
            rfl
        refine wpR_one (A' := ?_) Stp.refl (by rfl) _ rfl 95 (by rfl) (by rfl) ?_ ?_ ?_
        rotate_left 1
        · simp only [Act.put, List.setIfInBounds_toArray, List.set_cons_zero, List.set_cons_succ]; rfl
        · intro w9 hs hf K hK
          refine cls_load 35 (.tmp 2) rfl (w.heap.size) (0) rfl (txCells Ai ci Ao co t) _ (fun w2 h2 => (HST.out w4 w2 B4.out (stp_start (Stp.trans _ _ _ hs h2) (Below.refl _ _))).range) Tryd.underlying35 rfl (by kernel_rfl) ?_
          refine hK _ ?_
          simp only [Act.put, List.setIfInBounds_toArray, List.set_cons_zero, List.set_cons_succ]
          rfl
        iterate 1
          refine wpR_one (A' := ?_) Stp.refl (by rfl) _ rfl 95 (by rfl) (by rfl) ?_ ?_ ?_
          rotate_left 1
          · simp only [Act.put, List.setIfInBounds_toArray, List.set_cons_zero, List.set_cons_succ]; rfl
          · intro w1 hs hf K hK
            go_big_quiet_op
            first
              | go_big_quiet_on
              | (refine ⟨_, fun _ _ => rfl, ?_⟩; go_big_quiet_on)
            rfl
        refine wpR_rel (A' := ?_) (by rfl) ?_ ?_ ?_
        · intro w9 hs hf
          refine does_call (w' := w9) (f := 16) (args := #[.agg (txCells Ai ci Ao co t).toArray, .int .i64 n]) (by kernel_rfl) ((IN.out w9 (HST.out w4 w9 B4.out (stp_start hs (Below.refl _ _)))).mono ?_)
          rintro e w3 ⟨v, rfl, ho, h3⟩
          exact ⟨v, rfl, own_more ho (Below.size (w := w4.drew) hs), h3⟩
        rotate_left 1
        · intro x
          simp only [Act.put, List.setIfInBounds_toArray, List.set_cons_zero, List.set_cons_succ]; rfl
        intro x47
        iterate 1
          refine wpR_one (A' := ?_) Stp.refl (by rfl) _ rfl 95 (by rfl) (by rfl) ?_ ?_ ?_
          rotate_left 1
          · simp only [Act.put, List.setIfInBounds_toArray, List.set_cons_zero, List.set_cons_succ]; rfl
          · intro w9 hs hf K hK
            obtain ⟨AL, cL, eL⟩ := own_len (AllF_at hf 0 rfl (by kernel_rfl))
            change x47 = _ at eL
            subst eL
            go_big_quiet_op
            first
              | go_big_quiet_on
              | (refine ⟨_, fun _ _ => rfl, ?_⟩; go_big_quiet_on)
            rfl
        iterate 2
          refine wpR_one (A' := ?_) Stp.refl (by rfl) _ rfl 95 (by rfl) (by rfl) ?_ ?_ ?_
          rotate_left 1
          · simp only [Act.put, List.setIfInBounds_toArray, List.set_cons_zero, List.set_cons_succ]; rfl
          · intro w1 hs hf K hK
            go_big_quiet_op
            first
              | go_big_quiet_on
              | (refine ⟨_, fun _ _ => rfl, ?_⟩; go_big_quiet_on)
            rfl
        refine wpR_one (A' := ?_) Stp.refl (by rfl) _ rfl 95 (by rfl) (by rfl) ?_ ?_ ?_
        rotate_left 1
        · simp only [Act.put, List.setIfInBounds_toArray, List.set_cons_zero, List.set_cons_succ]; rfl
        · intro w9 hs hf K hK
          refine cls_load 35 (.tmp 2) rfl (w.heap.size) (0) rfl (txCells Ai ci Ao co t) _ (fun w2 h2 => (HST.out w4 w2 B4.out (stp_start (Stp.trans _ _ _ hs h2) (Below.refl _ _))).range) Tryd.underlying35 rfl (by kernel_rfl) ?_
          refine hK _ ?_
          simp only [Act.put, List.setIfInBounds_toArray, List.set_cons_zero, List.set_cons_succ]
          rfl
        iterate 1
          refine wpR_one (A' := ?_) Stp.refl (by rfl) _ rfl 95 (by rfl) (by rfl) ?_ ?_ ?_
          rotate_left 1
          · simp only [Act.put, List.setIfInBounds_toArray, List.set_cons_zero, List.set_cons_succ]; rfl
          · intro w1 hs hf K hK
            go_big_quiet_op
            first
              | go_big_quiet_on
              | (refine ⟨_, fun _ _ => rfl, ?_⟩; go_big_quiet_on)
            rfl
        refine wpR_rel (A' := ?_) (by rfl) ?_ ?_ ?_
        · intro w9 hs hf
          refine does_call (w' := w9) (f := 17) (args := #[.agg (txCells Ai ci Ao co t).toArray, .int .i64 n]) (by kernel_rfl) ((OU.out w9 (HST.out w4 w9 B4.out (stp_start hs (Below.refl _ _)))).mono ?_)
          rintro e w3 ⟨v, rfl, ho, h3⟩
          exact ⟨v, rfl, own_more ho (Below.size (w := w4.drew) hs), h3⟩
        rotate_left 1
        · intro x
          simp only [Act.put, List.setIfInBounds_toArray, List.set_cons_zero, List.set_cons_succ]; rfl
        intro x53
        iterate 1
          refine wpR_one (A' := ?_) Stp.refl (by rfl) _ rfl 95 (by rfl) (by rfl) ?_ ?_ ?_
          rotate_left 1
          · simp only [Act.put, List.setIfInBounds_toArray, List.set_cons_zero, List.set_cons_succ]; rfl
          · intro w9 hs hf K hK
            obtain ⟨AL, cL, eL⟩ := own_len (AllF_at hf 0 rfl (by kernel_rfl))
            change x53 = _ at eL
            subst eL
            go_big_quiet_op
            first
              | go_big_quiet_on
              | (refine ⟨_, fun _ _ => rfl, ?_⟩; go_big_quiet_on)
            rfl
        iterate 1
          refine wpR_one (A' := ?_) Stp.refl (by rfl) _ rfl 95 (by rfl) (by rfl) ?_ ?_ ?_
          rotate_left 1
          · simp only [Act.put, List.setIfInBounds_toArray, List.set_cons_zero, List.set_cons_succ]; rfl
          · intro w1 hs hf K hK
            go_big_quiet_op
            first
              | go_big_quiet_on
              | (refine ⟨_, fun _ _ => rfl, ?_⟩; go_big_quiet_on)
            rfl
        iterate 2
          refine wpR_one (A' := ?_) Stp.refl (by rfl) _ rfl 95 (by rfl) (by rfl) ?_ ?_ ?_
          rotate_left 1
          · simp only [Act.put, List.setIfInBounds_toArray, List.set_cons_zero, List.set_cons_succ]; rfl
          · intro w1 hs hf K hK
            go_big_quiet_op
            first
              | go_big_quiet_on
              | (refine ⟨_, fun _ _ => rfl, ?_⟩; go_big_quiet_on)
            rfl
        iterate 11
          refine wpR_skip (A' := ?_) (by rfl) ?_ ?_
          rotate_left 1
          · simp only [Act.put, List.setIfInBounds_toArray, List.set_cons_zero, List.set_cons_succ]; rfl
        iterate 7
          refine wpR_one (A' := ?_) Stp.refl (by rfl) _ rfl 95 (by rfl) (by rfl) ?_ ?_ ?_
          rotate_left 1
          · simp only [Act.put, List.setIfInBounds_toArray, List.set_cons_zero, List.set_cons_succ]; rfl
          · intro w1 hs hf K hK
            go_big_quiet_op
            first
              | go_big_quiet_on
              | (refine ⟨_, fun _ _ => rfl, ?_⟩; go_big_quiet_on)
            rfl
        iterate 14
          refine wpR_skip (A' := ?_) (by rfl) ?_ ?_
          rotate_left 1
          · simp only [Act.put, List.setIfInBounds_toArray, List.set_cons_zero, List.set_cons_succ]; rfl
        iterate 3
          refine wpR_one (A' := ?_) Stp.refl (by rfl) _ rfl 95 (by rfl) (by rfl) ?_ ?_ ?_
          rotate_left 1
          · simp only [Act.put, List.setIfInBounds_toArray, List.set_cons_zero, List.set_cons_succ]; rfl
          · intro w1 hs hf K hK
            go_big_quiet_op
            first
              | go_big_quiet_on
              | (refine ⟨_, fun _ _ => rfl, ?_⟩; go_big_quiet_on)
            rfl
        refine wpR_one (A' := ?_) Stp.refl (by rfl) _ rfl 95 (by rfl) (by rfl) ?_ ?_ ?_
        rotate_left 1
        · simp only [Act.put, List.setIfInBounds_toArray, List.set_cons_zero, List.set_cons_succ]; rfl
        · intro w9 hs hf K hK
          go_big_quiet_op
          apply Exists.intro
          refine ⟨fun w4x h2 => ?_, ?_⟩
          · refine (AW.out w4x (HST.out w4 w4x B4.out (stp_start (Stp.trans _ _ _ hs h2) (Below.refl _ _))).glob).mono ?_
            rintro e w3 ⟨rfl, h3⟩
            exact ⟨rfl, Stp.trans _ _ _ h2 h3⟩
          · go_big_quiet_on
            rfl
        iterate 2
          refine wpR_one (A' := ?_) Stp.refl (by rfl) _ rfl 95 (by rfl) (by rfl) ?_ ?_ ?_
          rotate_left 1
          · simp only [Act.put, List.setIfInBounds_toArray, List.set_cons_zero, List.set_cons_succ]; rfl
          · intro w1 hs hf K hK
            go_big_quiet_op
            first
              | go_big_quiet_on
              | (refine ⟨_, fun _ _ => rfl, ?_⟩; go_big_quiet_on)
            rfl
        intro w9 hs hf
        have HS9 := Lib.hid (HST.out w4 w9 B4.out (stp_start hs (Below.refl _ _)))
        clear hs hf
        go_wp2
        go_ret
        exact ⟨rfl, FIN.out _ HS9.out.stp⟩
    · have e2 : sb = false := by
        rw [HSB.out]; exact decide_eq_false fun h => by
          obtain ⟨z, h1, h2⟩ := BK.out h
          exact hI (by rw [h1]; rfl)
      subst e2
      obtain ⟨ki, hki⟩ : ∃ ki, ki = (gathZ li).length := ⟨_, rfl⟩
      rw [← hki] at IN hI GI
      have hd : ((ki : Int) == 1) = false := beq_false_of_ne (by omega)
      have hki64 := GI.out
      obtain ⟨gi, hgi⟩ : ∃ gi, gi = gathZ li := ⟨_, rfl⟩
      rw [← hgi] at IN
      clear hI HNX HNY PA PB YS BK HSV HSB GI GO hki hgi
      go_wp2_with fail
      refine wp_region_rel 95 Stp (.one ?_ :: .one ?_ :: .one ?_ :: .one ?_ :: .one ?_ :: .one ?_ :: .one ?_ :: .one ?_ :: .one ?_ :: .rel (fun v w => w.ownsRow w4.heap.size 3 1 v ki (i64s gi)) :: .one ?_ :: .one ?_ :: .one ?_ :: .one undef :: .one undef :: .one undef :: .one undef :: .one undef :: .one ?_ :: .one ?_ :: .one undef :: .one undef :: .one undef :: .one undef :: .one undef :: .one undef :: .one undef :: .one undef :: .one undef :: .one undef :: .one undef :: .one ?_ :: .one ?_ :: .one ?_ :: .one ?_ :: .one ?_ :: .one ?_ :: .one ?_ :: .one undef :: .one undef :: .one undef :: .one undef :: .one undef :: .one undef :: .one undef :: .one undef :: .one undef :: .one undef :: .one undef :: .one undef :: .one undef :: .one undef :: .one ?_ :: .one ?_ :: .one ?_ :: .one ?_ :: .one ?_ :: .one ?_ :: []) (by kernel_rfl) (by kernel_rfl) rfl (by kernel_rfl) Stp.refl Stp.trans ⟨fun v w w' h hs => own_below h hs, trivial⟩ ?main
      case main =>
      iterate 7
        refine wpR_one (A' := ?_) Stp.refl (by rfl) _ rfl 95 (by rfl) (by rfl) ?_ ?_ ?_
        rotate_left 1
        · simp only [Act.put, List.setIfInBounds_toArray, List.set_cons_zero, List.set_cons_succ]; rfl
        · intro w1 hs hf K hK
          go_big_quiet_op
          first
            | go_big_quiet_on
            | (refine ⟨_, fun _ _ => rfl, ?_⟩; go_big_quiet_on)
          rfl
      refine wpR_one (A' := ?_) Stp.refl (by rfl) _ rfl 95 (by rfl) (by rfl) ?_ ?_ ?_
      rotate_left 1
      · simp only [Act.put, List.setIfInBounds_toArray, List.set_cons_zero, List.set_cons_succ]; rfl
      · intro w9 hs hf K hK
        refine cls_load 35 (.tmp 2) rfl (w.heap.size) (0) rfl (txCells Ai ci Ao co t) _ (fun w2 h2 => (HST.out w4 w2 B4.out (stp_start (Stp.trans _ _ _ hs h2) (Below.refl _ _))).range) Tryd.underlying35 rfl (by kernel_rfl) ?_
        refine hK _ ?_
        simp only [Act.put, List.setIfInBounds_toArray, List.set_cons_zero, List.set_cons_succ]
        rfl
      iterate 1
        refine wpR_one (A' := ?_) Stp.refl (by rfl) _ rfl 95 (by rfl) (by rfl) ?_ ?_ ?_
        rotate_left 1
        · simp only [Act.put, List.setIfInBounds_toArray, List.set_cons_zero, List.set_cons_succ]; rfl
        · intro w1 hs hf K hK
          go_big_quiet_op
          first
            | go_big_quiet_on
            | (refine ⟨_, fun _ _ => rfl, ?_⟩; go_big_quiet_on)
          rfl
      refine wpR_rel (A' := ?_) (by rfl) ?_ ?_ ?_
      · intro w9 hs hf
        refine does_call (w' := w9) (f := 16) (args := #[.agg (txCells Ai ci Ao co t).toArray, .int .i64 n]) (by kernel_rfl) ((IN.out w9 (HST.out w4 w9 B4.out (stp_start hs (Below.refl _ _)))).mono ?_)
        rintro e w3 ⟨v, rfl, ho, h3⟩
        exact ⟨v, rfl, own_more ho (Below.size (w := w4.drew) hs), h3⟩
      rotate_left 1
      · intro x
        simp only [Act.put, List.setIfInBounds_toArray, List.set_cons_zero, List.set_cons_succ]; rfl
      intro x47
      iterate 1
        refine wpR_one (A' := ?_) Stp.refl (by rfl) _ rfl 95 (by rfl) (by rfl) ?_ ?_ ?_
        rotate_left 1
        · simp only [Act.put, List.setIfInBounds_toArray, List.set_cons_zero, List.set_cons_succ]; rfl
        · intro w9 hs hf K hK
          obtain ⟨AL, cL, eL⟩ := own_len (AllF_at hf 0 rfl (by kernel_rfl))
          change x47 = _ at eL
          subst eL
          go_big_quiet_op
          first
            | go_big_quiet_on
            | (refine ⟨_, fun _ _ => rfl, ?_⟩; go_big_quiet_on)
          rfl
      iterate 2
        refine wpR_one (A' := ?_) Stp.refl (by rfl) _ rfl 95 (by rfl) (by rfl) ?_ ?_ ?_
        rotate_left 1
        · simp only [Act.put, List.setIfInBounds_toArray, List.set_cons_zero, List.set_cons_succ]; rfl
        · intro w1 hs hf K hK
          go_big_quiet_op
          first
            | go_big_quiet_on
            | (refine ⟨_, fun _ _ => rfl, ?_⟩; go_big_quiet_on)
          rfl
      iterate 5
        refine wpR_skip (A' := ?_) (by rfl) ?_ ?_
        rotate_left 1
        · simp only [Act.put, List.setIfInBounds_toArray, List.set_cons_zero, List.set_cons_succ]; rfl
      iterate 2
        refine wpR_one (A' := ?_) Stp.refl (by rfl) _ rfl 95 (by rfl) (by rfl) ?_ ?_ ?_
        rotate_left 1
        · simp only [Act.put, List.setIfInBounds_toArray, List.set_cons_zero, List.set_cons_succ]; rfl
        · intro w1 hs hf K hK
          go_big_quiet_op
          first
            | go_big_quiet_on
            | (refine ⟨_, fun _ _ => rfl, ?_⟩; go_big_quiet_on)
          rfl
      iterate 11
        refine wpR_skip (A' := ?_) (by rfl) ?_ ?_
        rotate_left 1
        · simp only [Act.put, List.setIfInBounds_toArray, List.set_cons_zero, List.set_cons_succ]; rfl
      iterate 7
        refine wpR_one (A' := ?_) Stp.refl (by rfl) _ rfl 95 (by rfl) (by rfl) ?_ ?_ ?_
        rotate_left 1
        · simp only [Act.put, List.setIfInBounds_toArray, List.set_cons_zero, List.set_cons_succ]; rfl
        · intro w1 hs hf K hK
          go_big_quiet_op
          first
            | go_big_quiet_on
            | (refine ⟨_, fun _ _ => rfl, ?_⟩; go_big_quiet_on)
          rfl
      iterate 14
        refine wpR_skip (A' := ?_) (by rfl) ?_ ?_
        rotate_left 1
        · simp only [Act.put, List.setIfInBounds_toArray, List.set_cons_zero, List.set_cons_succ]; rfl
      iterate 3
        refine wpR_one (A' := ?_) Stp.refl (by rfl) _ rfl 95 (by rfl) (by rfl) ?_ ?_ ?_
        rotate_left 1
        · simp only [Act.put, List.setIfInBounds_toArray, List.set_cons_zero, List.set_cons_succ]; rfl
        · intro w1 hs hf K hK
          go_big_quiet_op
          first
            | go_big_quiet_on
            | (refine ⟨_, fun _ _ => rfl, ?_⟩; go_big_quiet_on)
          rfl
      refine wpR_one (A' := ?_) Stp.refl (by rfl) _ rfl 95 (by rfl) (by rfl) ?_ ?_ ?_
      rotate_left 1
      · simp only [Act.put, List.setIfInBounds_toArray, List.set_cons_zero, List.set_cons_succ]; rfl
      · intro w9 hs hf K hK
        go_big_quiet_op
        apply Exists.intro
        refine ⟨fun w4x h2 => ?_, ?_⟩
        · refine (AW.out w4x (HST.out w4 w4x B4.out (stp_start (Stp.trans _ _ _ hs h2) (Below.refl _ _))).glob).mono ?_
          rintro e w3 ⟨rfl, h3⟩
          exact ⟨rfl, Stp.trans _ _ _ h2 h3⟩
        · go_big_quiet_on
          rfl
      iterate 2
        refine wpR_one (A' := ?_) Stp.refl (by rfl) _ rfl 95 (by rfl) (by rfl) ?_ ?_ ?_
        rotate_left 1
        · simp only [Act.put, List.setIfInBounds_toArray, List.set_cons_zero, List.set_cons_succ]; rfl
        · intro w1 hs hf K hK
          go_big_quiet_op
          first
            | go_big_quiet_on
            | (refine ⟨_, fun _ _ => rfl, ?_⟩; go_big_quiet_on)
          rfl
      intro w9 hs hf
      have HS9 := Lib.hid (HST.out w4 w9 B4.out (stp_start hs (Below.refl _ _)))
      clear hs hf
      go_wp2
      go_ret
      exact ⟨rfl, FIN.out _ HS9.out.stp⟩
  · have hz1 : ((chk t : Int) != 0) = true := by simp; omega
    unfold txV at K0 ⊢
    generalize chk t = z at *
    go_enter Tryd.func6, Tryd.ntmps6
    go_upto_region 1 with fail
    change Code.wp _ _ _ _ (w.alloc (.cells (txCells Ai ci Ao co t).toArray 35))
    rw [← hw0]
    clear hw0
    go_wp2_with (go_at_call 19; refine stop ?_)
    unfold Stop
    refine K0.out.mono ?_
    rintro e w1 ⟨rfl, hb1⟩
    have B1 := Lib.hid (HST.out _ _ B0.out hb1)
    clear hb1 c0 c1 c2 c3 K0
    go_wp2_with (go_at_call 9; refine stop ?_)
    unfold Stop
    refine (AW.out w1 B1.out.glob).mono ?_
    rintro e w2 ⟨rfl, hb2⟩
    have B2 := Lib.hid (HST.out _ _ B1.out hb2)
    clear hb2
    go_wp2
    go_ret
    exact ⟨rfl, FIN.out _ B2.out.stp⟩
end Go.Proofs.YtoclfohgchlpnaaDoor
