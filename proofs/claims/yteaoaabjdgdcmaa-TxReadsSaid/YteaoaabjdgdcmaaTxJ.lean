/- The form of a transaction, and the contracts of 'putIns' and 'putOuts'. -/
import Derived.Test.YteaoaabjdgdcmaaTxI
set_option linter.unusedVariables false
set_option linter.unusedSimpArgs false
namespace Go.Proofs.Yteaoaabjdgdcmaa
open Go.RowKit
def inF (p : Pin) : List B8 := p.d ++ (numB p.x.toNat ++ (numB p.n ++ (numB p.b.length ++ p.b)))
def insF (l : List Pin) : List B8 := l.flatMap inF
def outF (p : Pout) : List B8 := p.d ++ numB p.n
def outsF (l : List Pout) : List B8 := l.flatMap outF
def formB (t : Ptx) : List B8 := (numB t.ins.length ++ insF t.ins) ++ ((numB t.outs.length ++ outsF t.outs) ++ (numB t.fee ++ numB t.exp.toNat))
set_option maxRecDepth 100000 in
theorem outB_false {p : Pin} (h : outB p = false) : p.b.length ≤ 64 ∧ 0 ≤ p.x ∧ p.x ≤ 15 := by
  unfold outB at h
  simp at h
  omega
set_option maxRecDepth 100000 in
theorem inF_le {p : Pin} (h : p.ok) (h2 : outB p = false) : (inF p).length ≤ 123 := by
  obtain ⟨a, b, c⟩ := outB_false h2
  have h1 := numB_le h.n
  have h2 := numB_le (n := p.x.toNat) (by omega)
  have h3 := numB_le (n := p.b.length) (by omega)
  have h4 := h.d
  simp [inF]; omega
set_option maxRecDepth 100000 in
theorem insF_le {l : List Pin} (h : ∀ p ∈ l, p.ok) (h2 : ∀ p ∈ l, outB p = false) : (insF l).length ≤ 123 * l.length := by
  induction l with
  | nil => simp [insF]
  | cons p l ih =>
    have h3 := ih (fun q hq => h q (by simp [hq])) (fun q hq => h2 q (by simp [hq]))
    have h4 := inF_le (h p (by simp)) (h2 p (by simp))
    have : insF (p :: l) = inF p ++ insF l := rfl
    rw [this]; simp; omega
set_option maxRecDepth 100000 in
theorem outsF_le {l : List Pout} (h : ∀ p ∈ l, p.ok) : (outsF l).length ≤ 41 * l.length := by
  induction l with
  | nil => simp [outsF]
  | cons p l ih =>
    have h3 := ih (fun q hq => h q (by simp [hq]))
    have h4 := numB_le (h p (by simp)).n
    have h5 := (h p (by simp)).d
    have : outsF (p :: l) = outF p ++ outsF l := rfl
    rw [this]; simp [outF]; omega
set_option maxRecDepth 100000 in
theorem insF_succ {l : List Pin} {k : Nat} (h : k < l.length) : insF (l.take (k + 1)) = insF (l.take k) ++ inF l[k] := by
  unfold insF; rw [List.take_succ_eq_append_getElem h, List.flatMap_append]; simp
set_option maxRecDepth 100000 in
theorem outsF_succ {l : List Pout} {k : Nat} (h : k < l.length) : outsF (l.take (k + 1)) = outsF (l.take k) ++ outF l[k] := by
  unfold outsF; rw [List.take_succ_eq_append_getElem h, List.flatMap_append]; simp
/-- A block that no writing of the pen turns. -/
def PenFree (w : World) (p : Nat) (v : Value) (g : Nat) : Prop := g ≠ p ∧ v.ownBlock ≠ some g ∧ g < w.heap.size
set_option maxRecDepth 100000 in
theorem PenFree.step {w w' : World} {p g : Nat} {v v' : Value} (h : PenFree w p v g) (s : PenStep w w' p v v') : PenFree w' p v' g := by
  obtain ⟨h1, h2, h3⟩ := h
  refine ⟨h1, ?_, Nat.lt_of_lt_of_le h3 s.1.size⟩
  rcases s.2 with e | ⟨k, e, hk⟩
  · rw [e]; exact h2
  · rw [e]; intro x; injection x with x; omega
set_option maxRecDepth 100000 in
theorem PenFree.not {w : World} {p g : Nat} {v : Value} (h : PenFree w p v g) : ¬ (g = p ∨ some g = v.ownBlock) := fun x => x.elim h.1 (fun x => h.2.1 x.symm)
set_option maxRecDepth 100000 in
theorem PenStep.heap {w w' : World} {p g : Nat} {v v' : Value} {o : Obj} (s : PenStep w w' p v v') (h : PenFree w p v g) (hg : w.heap[g]? = some o) : w'.heap[g]? = some o := s.1.heap hg h.not
set_option maxRecDepth 100000 in
theorem PenAt.low {w : World} {p B i : Nat} {v : Value} {xs : List B8} (h : PenAt w p B v xs) (hi : i < p) : ¬ (i = p ∨ some i = v.ownBlock) := by
  rintro (e | e)
  · omega
  · have := (h.2.1.lt i e.symm).1
    have := h.2.2.1
    omega
set_option maxRecDepth 100000 in
theorem PenAt.new {w : World} {p B : Nat} {v : Value} {xs : List B8} (h : PenAt w p B v xs) (o : Obj) : PenAt (w.alloc o) p B v xs ∧ PenFree (w.alloc o) p v w.heap.size ∧ PenStep w (w.alloc o) p v v := by
  refine ⟨h.turn ((Turn.refl (fun _ => False) w).alloc o) (fun h => h) (fun _ _ h => h), ⟨?_, ?_, by simp⟩, (Turn.refl _ _).alloc _, .inl rfl⟩
  · have := lt_of_block h.1; omega
  · intro e
    have := (h.2.1.lt _ e).2
    omega
set_option maxRecDepth 100000 in
theorem Pin.idr {w : World} {g : Nat} {p : Pin} {S : Option Addr} {c : Nat} {t : TypeId} {fr : Nat × Nat} (h : w.heap[g]? = some (.cells (p.cells S c).toArray t fr)) : w.rangeAt g 0 (p.d.map bv) := fun j v hj => by
  rw [cell_of_row w g _ _ _ _ h, List.getElem?_toArray, Nat.zero_add]
  unfold Pin.cells
  rw [List.getElem?_append_left (List.getElem?_eq_some_iff.1 hj).1]; exact hj
set_option maxRecDepth 100000 in
theorem Pin.cell {w : World} {g : Nat} {p : Pin} {S : Option Addr} {c : Nat} {t : TypeId} {fr : Nat × Nat} (h : w.heap[g]? = some (.cells (p.cells S c).toArray t fr)) (hd : p.d.length = 32) :
    w.cell? ⟨g, 32, none⟩ = some (.int .i64 p.x) ∧ w.cell? ⟨g, 33, none⟩ = some (.int .u64 (p.n : Int)) ∧ w.cell? ⟨g, 34, none⟩ = some (.slice S p.b.length c) := by
  obtain ⟨a, b, d⟩ := p.at S c hd
  refine ⟨?_, ?_, ?_⟩ <;> rw [cell_of_row w g _ _ _ _ h, List.getElem?_toArray] <;> assumption
set_option maxRecDepth 100000 in
set_option maxHeartbeats 4000000 in
theorem putIns_any (p B B0 : Nat) (v : Value) (xs : List B8) (A : Option Addr) (c : Nat) (l : List Pin) (w : World) (h : PenAt w p B v xs) (hI : InsAt w B0 A l) (hB : B0 ≤ p) (hl : l.length ≤ 16) (hb : ∀ q ∈ l, outB q = false) (hlen : xs.length ≤ 1000000) :
    Calls Try.prog 42 #[.pointer (some ⟨p, 0, none⟩), .slice A l.length c] w fun r w' => r = .returned (.tuple #[]) ∧ ∃ v', PenAt w' p B v' (xs ++ (numB l.length ++ insF l)) ∧ PenStep w w' p v v' := by
  have hzd := zero_in
  change ∀ w, _ = Result.ok (Value.agg ZIn) w at hzd
  have T0 := Lib.hid (pnum_any p B v xs l.length w h (by omega) (by omega))
  have hnl := numB_le (n := l.length) (by omega)
  have HI := Lib.hid hI
  have HB := Lib.hid hb
  have HH := Lib.hid h
  have HK := Lib.hid (fun k => insF_le (l := l.take k) (fun p hp => hI.oks p (List.mem_of_mem_take hp)) (fun p hp => hb p (List.mem_of_mem_take hp)))
  clear h hI hb
  go_enter Try.func42, Try.ntmps42
  go_wp2_with fail
  refine T0.out.mono ?_
  rintro r w1 ⟨rfl, v1, hp1, st1⟩
  have HP1 := Lib.hid hp1
  have HS1 := Lib.hid st1
  clear hp1 st1 T0
  go_wp2
  go_loopw [13] (fun i wr => ∃ (k : Nat) (u : Value), k ≤ l.length ∧ i = .int .i64 k ∧ PenAt wr p B u (xs ++ (numB l.length ++ insF (l.take k))) ∧ PenStep w wr p v u) (fun i _ => l.length - (intOf i).toNat)
  case atStart => exact ⟨0, v1, Nat.zero_le _, rfl, by simpa [insF] using HP1.out, HS1.out⟩
  case round =>
    clear HP1 HS1
    obtain ⟨k, u, hk, rfl, hp, hst⟩ := hrel
    by_cases hlt : k < l.length
    · have hlk := List.getElem?_eq_getElem hlt
      obtain ⟨hok, b, o, S, cp, rfl, hbb, hs, hr⟩ := HI.out k l[k] hlk
      have hlow : ∀ i, i < B0 → ¬ (i = p ∨ some i = v.ownBlock) := fun i hi => HH.out.low (by omega)
      have hr1 := hst.1.range hr (hlow b hbb)
      have hs1 := hs.turn hst.1 hlow
      have HSUC := Lib.hid (insF_succ hlt)
      have hxl : (xs ++ (numB l.length ++ insF (l.take k))).length ≤ 1002000 := by
        have := HK.out k
        rw [List.length_take] at this
        simp only [List.length_append]; omega
      have hout := HB.out l[k] (List.getElem_mem hlt)
      obtain ⟨q, hq⟩ : ∃ q, q = l[k] := ⟨_, rfl⟩
      rw [← hq] at hok hr1 hlk hs1 hout HSUC
      obtain ⟨ob, ox0, ox1⟩ := outB_false hout
      obtain ⟨y, hy⟩ : ∃ y : Nat, q.x = (y : Int) := ⟨q.x.toNat, by omega⟩
      have hyn : q.x.toNat = y := by omega
      have hin : inF q = q.d ++ (numB y ++ (numB q.n ++ (numB q.b.length ++ q.b))) := by unfold inF; rw [hyn]
      have HL := Lib.hid (show (Try.prog.info? 41).map (·.size) = some (q.cells S cp).length by rw [q.len S cp hok.d]; kernel_rfl)
      obtain ⟨D, hD⟩ : ∃ D, D = (q.cells S cp).toArray := ⟨_, rfl⟩
      have sD : D.size = 35 := by rw [hD, List.size_toArray, q.len S cp hok.d]
      have H1 := Lib.hid (show (Try.prog.info? 41).map (·.size) = some D.size by rw [sD]; kernel_rfl)
      have H2 := Lib.hid (show ZIn.size = D.size by rw [sD]; rfl)
      have H3 := Lib.hid (show D.all (·.oneCell') = true by rw [hD]; exact q.one S cp)
      have HR := Lib.hid hr1
      obtain ⟨hp0, hf0, hst0⟩ := hp.new (.cells D 41)
      obtain ⟨w0, hw0⟩ : ∃ w0, w0 = wr.alloc (.cells D 41) := ⟨_, rfl⟩
      obtain ⟨g, hg⟩ : ∃ g, g = wr.heap.size := ⟨_, rfl⟩
      have hg0 : w0.heap[g]? = some (.cells (q.cells S cp).toArray 41 (0, 0)) := by rw [hw0, hg, ← hD]; exact heap_alloc_new wr _
      rw [← hw0] at hp0 hf0 hst0
      rw [← hg] at hf0
      have HS0 := Lib.hid (hs1.turn ((Turn.refl (fun _ => False) wr).alloc (.cells D 41)) (fun _ _ h => h))
      rw [← hw0] at HS0
      obtain ⟨C, hC⟩ : ∃ C, C = (q.d.map bv).toArray := ⟨_, rfl⟩
      have HLI := Lib.hid (show (Try.prog.info? 37).map (·.size) = some (q.d.map bv).length by rw [List.length_map, hok.d]; kernel_rfl)
      have T1 := Lib.hid (pid_any p B u _ q.d w0 hp0 hok.d (by omega))
      rw [← hC] at T1
      have RI := Lib.hid (Pin.idr hg0)
      obtain ⟨d32, d33, d34⟩ := Pin.cell hg0 hok.d
      have HG0 := Lib.hid hg0
      have HF0 := Lib.hid hf0
      have HDD := Lib.hid hD
      have HCC := Lib.hid hC
      have HIN := Lib.hid hin
      have HST := Lib.hid hst
      have HST0 := Lib.hid hst0
      have hn64 := hok.n
      have HQD := Lib.hid hok.d
      have HPL := Lib.hid hp0
      rw [hy] at d32
      have HOY := Lib.hid hy
      have hy15 : y ≤ 15 := by omega
      have HW0 := Lib.hid hw0
      have HGG := Lib.hid hg
      have CELLS := Lib.hid (fun (w' : World) (hg : w'.heap[g]? = some (.cells (q.cells S cp).toArray 41 (0, 0))) => Pin.cell hg hok.d)
      clear hr hr1 hok hp hq hs hs1 hlk hD sD hC hout hin hst hst0 hp0 hf0 hg0 hlow hyn hw0 hg d32 d33 d34 hy ox0 ox1
      go_wp2_with (first
        | (refine wpList_load_mid (op := ⟨some 16, _, _, _, _, _⟩) rfl _ _ rfl b (o + k * 35) rfl (q.cells S cp) _ HR.out Try.underlying41 rfl HL.out ?_; rw [← HDD.out])
        | (refine wpList_store_row (o := ⟨none, .store 41 _ _, _, _, _, _⟩) rfl _ _ _ rfl wr.heap.size D rfl rfl 41 _ (heap_alloc_new wr _) H1.out H2.out H3.out ?_; rw [World.setRow_alloc_new, ← HW0.out, ← HGG.out])
        | (refine wpList_load_mid (op := ⟨some 20, _, _, _, _, _⟩) rfl _ _ rfl g 0 rfl (q.d.map bv) _ RI.out Try.underlying37 rfl HLI.out ?_; rw [← HCC.out]))
      refine T1.out.mono ?_
      rintro r w2 ⟨rfl, v2, hp2, st2⟩
      have hf2 := HF0.out.step st2
      have hg2 := st2.heap HF0.out HG0.out
      have hs2 := HS0.out.turn st2.1 (fun i hi => HPL.out.low (by omega))
      obtain ⟨c32, c33, c34⟩ := CELLS.out _ hg2
      rw [HOY.out] at c32
      have T2 := Lib.hid (pnum_any p B v2 _ y w2 hp2 (by omega) (by have := HQD.out; simp only [List.length_append] at hxl ⊢; omega))
      have HF2 := Lib.hid hf2
      have HG2 := Lib.hid hg2
      have HS2 := Lib.hid hs2
      have HP2 := Lib.hid hp2
      have ST2 := Lib.hid (HST0.out.trans st2)
      clear hf2 hg2 hs2 hp2 st2 T1
      go_wp2_with fail
      refine T2.out.mono ?_
      rintro r w3 ⟨rfl, v3, hp3, st3⟩
      have hf3 := HF2.out.step st3
      have hg3 := st3.heap HF2.out HG2.out
      have hs3 := HS2.out.turn st3.1 (fun i hi => HP2.out.low (by omega))
      clear c32 c33 c34
      obtain ⟨c32, c33, c34⟩ := CELLS.out _ hg3
      have hy9 := numB_le (n := y) (by omega)
      have T3 := Lib.hid (pnum_any p B v3 _ q.n w3 hp3 hn64 (by have := HQD.out; simp only [List.length_append] at hxl ⊢; omega))
      have HF3 := Lib.hid hf3
      have HG3 := Lib.hid hg3
      have HS3 := Lib.hid hs3
      have HP3 := Lib.hid hp3
      have ST3 := Lib.hid (ST2.out.trans st3)
      clear hf3 hg3 hs3 hp3 st3 T2 HP2
      go_wp2_with fail
      refine T3.out.mono ?_
      rintro r w4 ⟨rfl, v4, hp4, st4⟩
      have hf4 := HF3.out.step st4
      have hg4 := st4.heap HF3.out HG3.out
      have hs4 := HS3.out.turn st4.1 (fun i hi => HP3.out.low (by omega))
      clear c32 c33 c34
      obtain ⟨c32, c33, c34⟩ := CELLS.out _ hg4
      have hn9 := numB_le hn64
      have T4 := Lib.hid (ptext_any p B v4 _ q.b S cp w4 hp4 (SlN.of hs4.s (fun i hi => hp4.low (by omega))) hs4.a hs4.c (by have := HQD.out; simp only [List.length_append] at hxl ⊢; omega))
      have ST4 := Lib.hid (ST3.out.trans st4)
      clear hf4 hg4 hs4 hp4 st4 T3 HP3
      go_wp2_with fail
      refine T4.out.mono ?_
      rintro r w5 ⟨rfl, v5, hp5, st5⟩
      have HP5 := Lib.hid hp5
      have ST5 := Lib.hid (ST4.out.trans st5)
      clear hp5 st5 T4
      go_wp2
      go_roundw
      case rel => exact ⟨k + 1, v5, by omega, by go_num, by rw [HSUC.out, HIN.out]; have h := HP5.out; simp only [List.append_assoc] at h ⊢; exact h, HST.out.trans ST5.out⟩
      case measure => simp [intOf]; omega
    · obtain rfl : k = l.length := by omega
      rw [List.take_length] at hp
      have HP := Lib.hid hp
      have HS := Lib.hid hst
      clear hp hst
      go_wp2
      first | go_end0 | refine bodyPost_ret (results_none rfl _ _ _) rfl ?_
      exact ⟨rfl, u, HP.out, HS.out⟩
end Go.Proofs.Yteaoaabjdgdcmaa
