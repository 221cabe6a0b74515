/- The contract of 'Read'. -/
import Derived.Test.YtomflniknnenaaaEnF
set_option linter.unusedVariables false
set_option linter.unusedSimpArgs false
namespace Go.Proofs.Ytomflniknnenaaa
open Go.RowKit
attribute [local go_sem ↓] loadAt_en loadAt_id
attribute [local go_sem] run_enLoad run_idLoad rowOf_drew rowOf_drewN
/-- What the reader of an entry comes to. -/
def RPost (e E x : Nat) (N : Nat → Prop) (b : List B8) (w : World) (r : Ending) (w' : World) : Prop :=
  (xE b = 0 ∧ r = .returned (.tuple #[]) ∧ EAt w' x (bodV b) ∧ Eye0 w' e E N (l6 b) ∧ Turn (fun i => i = e ∨ i = x) w w') ∨
  (xE b ≠ 0 ∧ r = pan E ∧ EyeX w' e E (xE b) ∧ Turn (fun i => i = e ∨ i = E ∨ i = x) w w')
set_option maxRecDepth 100000 in
theorem xE_zero {b : List B8} (h : xE b = 0) : f6 b = 0 ∧ okB (bodV b) := by
  unfold xE at h
  split at h
  · omega
  · split at h
    · rename_i h1 h2; exact ⟨by omega, h2⟩
    · omega
theorem bodV_len {b : List B8} (h : f6 b = 0) : (bodV b).d.length = 32 := (f_bounds h).2.2.1
set_option maxRecDepth 100000 in
set_option maxHeartbeats 4000000 in
theorem read1_any (e E x : Nat) (N : Nat → Prop) (b : List B8) (w : World) (h : Eye0 w e E N b) (hN : ∀ i, w.heap.size ≤ i → N i) (hx : w.heap[x]? = some (.cells Z37E 26 (0, 0))) (hxe : x ≠ e) (hxE : x ≠ E) (hNx : N x) :
    Calls Try.prog 20 #[.pointer (some ⟨e, 0, none⟩), .pointer (some ⟨x, 0, none⟩)] w (RPost e E x N b w) := by
  have T := Lib.hid (readFields_any e E N b w h hN)
  have HX := Lib.hid hx
  have HN := Lib.hid hNx
  clear h hN hx hNx
  obtain ⟨C, hC⟩ : ∃ C, C = (bodV b).cells.toArray := ⟨_, rfl⟩
  have K := Lib.hid (fun (h : f6 b = 0) => show (Try.prog.info? 26).map (·.size) = some C.size ∧ Z37E.size = C.size from by
    have s : C.size = 37 := by rw [hC, List.size_toArray, Ent.len _ (bodV_len h)]
    rw [s]; exact ⟨en_info, rfl⟩)
  have K3 := Lib.hid (show C.all (·.oneCell') = true by rw [hC]; exact Ent.one _)
  unfold FPost at T
  rw [← hC] at T
  have HC := Lib.hid hC
  clear hC
  go_enter Try.func20, Try.ntmps20
  go_wp2_with fail
  refine T.out.mono ?_
  rintro r w1 (⟨hz, rfl, he1, ht1⟩ | ⟨hz, rfl, he1, ht1⟩)
  · have HE1 := Lib.hid he1
    have HT1 := Lib.hid ht1
    have HZ := Lib.hid hz
    have X1 := Lib.hid (ht1.heap HX.out hxe)
    have KK := Lib.hid (K.out (xE_zero hz).1)
    clear he1 ht1 hz T
    go_wp2_with (refine wpList_store_row rfl _ _ _ rfl x C rfl rfl 26 Z37E X1.out KK.out.1 KK.out.2 K3.out ?_)
    have h3 := setRow_heap w1 x Z37E C 26 (0, 0) X1.out
    have t4 : Turn (fun i => i = x) w1 (w1.setRow x C) := (Turn.refl _ _).setRow _ _ (fun _ => rfl)
    refine bodyPost_ret (results_none rfl _ _ _) rfl (.inl ⟨HZ.out, rfl, ?_, HE1.out.turn t4 (fun h => hxe h.symm) (fun h => hxE h.symm) (fun i h => by rw [h]; exact HN.out), (HT1.out.mono (fun _ _ h => .inl h)).trans t4 (fun _ _ h => .inr h)⟩)
    unfold EAt
    rw [h3, HC.out]
  · have HE1 := Lib.hid he1
    have HT1 := Lib.hid ht1
    have HZ := Lib.hid hz
    clear he1 ht1 hz T
    dsimp only [pan]
    go_wp2_with fail
    exact ⟨rfl, .inr ⟨HZ.out, rfl, HE1.out, HT1.out.mono (fun _ _ h => h.elim .inl (fun h => .inr (.inl h)))⟩⟩
def readE (b : List B8) : Nat := if xE b ≠ 0 then xE b else if l6 b = [] then 0 else 3
def readV (b : List B8) : Ent := if readE b ≠ 0 then EZ else bodV b
set_option maxRecDepth 100000 in
theorem results_en {fn : Func} {p u : Tmp} (h : fn.results = #[.cell p 26, .tmp u]) (tmps : Array Value) (w : World) (g : Nat) (cs : Array Value) (v : Value)
    (hp : tmps.getD p undef = .pointer (some ⟨g, 0, none⟩)) (hv : tmps.getD u undef = v) (hg : w.heap[g]? = some (.cells cs 26 (0, 0))) (hc : cs.size = 37) :
    (results fn tmps).run Try.prog w = .ok (.tuple #[.agg cs, v]) w := by
  rw [results_cell_tmp h, hp, hv]
  simp [asAddr, run_loadVar_row w g 26 26 cs (0, 0) _ hg Try.underlying26 rfl (by rw [hc]; kernel_rfl), Result.andThen]
set_option maxRecDepth 100000 in
set_option maxHeartbeats 4000000 in
theorem read_any' (A : Option Addr) (c : Nat) (b : List B8) (w : World) (hs : Sl w w.heap.size A (b.map bv)) (hA : A = none → c = 0) (hc : b.length ≤ c) (hlen : b.length ≤ 1099511627776) :
    Calls Try.prog 11 #[.slice A b.length c] w fun r w' => r = .returned (.tuple #[.agg (readV b).cells.toArray, .int .i64 ((readE b : Nat) : Int)]) ∧ Turn (fun _ => False) w w' := by
  have hmf : ∀ (fn : Fn) (first cap : Array Value) (w : World), (Instr.makeFunc fn first cap).run Try.prog w = .ok (.func fn first cap) w := fun _ _ _ _ => rfl
  have hzd := en_zero
  obtain ⟨w2, hw2⟩ : ∃ w2, w2 = (w.alloc (.cells Z37E 26)).alloc (.cells Z37E 26) := ⟨_, rfl⟩
  have s2 : w2.heap.size = w.heap.size + 2 := by rw [hw2]; simp
  have t2 : Turn (fun _ => False) w w2 := by rw [hw2]; exact ((Turn.refl _ _).alloc _).alloc _
  have gr : w2.heap[w.heap.size]? = some (.cells Z37E 26 (0, 0)) := by rw [hw2]; exact heap_alloc2_old _ _ _
  have gx : w2.heap[w.heap.size + 1]? = some (.cells Z37E 26 (0, 0)) := by rw [hw2]; exact heap_alloc2_new _ _ _
  have T := Lib.hid (read_cap 20 (.pointer (some ⟨w.heap.size + 1, 0, none⟩)) A c b w2 (fun i => i = w2.heap.size + 1 ∨ i = w2.heap.size ∨ i = w.heap.size + 1) (fun i => w.heap.size ≤ i)
    (fun l w3 => xE b = 0 ∧ l = l6 b ∧ EAt w3 (w.heap.size + 1) (bodV b) ∧ Turn (fun i => i = w.heap.size + 1) w2 w3)
    (fun k w3 => xE b = k ∧ Turn (fun i => i = w.heap.size + 1) w2 w3) (fun _ _ => by kernel_rfl)
    ((SlN.of hs (N := fun i => w.heap.size ≤ i) (fun i hi => by omega)).turn t2 (fun _ h => h.elim) (fun _ _ h => h)) hA hc hlen (by omega)
    (by
      intro w1 t1 s1 e1
      refine (read1_any (w2.heap.size + 1) w2.heap.size (w.heap.size + 1) _ b w1 e1 (fun i hi => .inr (by omega)) (t1.heap gx (fun h => h)) (by omega) (by omega) (.inl (by omega))).mono ?_
      rintro r w3 (⟨hz, rfl, hx, he, ht⟩ | ⟨hz, rfl, he, ht⟩)
      · exact ⟨ht.mono (fun i _ h => by omega), .inl ⟨rfl, _, he, hz, rfl, hx, (t1.mono (fun _ _ h => h.elim)).trans ht (fun i hi h => by omega)⟩⟩
      · exact ⟨ht.mono (fun i _ h => by omega), .inr ⟨rfl, _, hz, he, rfl, (t1.mono (fun _ _ h => h.elim)).trans ht (fun i hi h => by omega)⟩⟩))
  have GR := Lib.hid gr
  have T2 := Lib.hid t2
  have HS2 := Lib.hid s2
  clear hs hlen gr gx t2 s2
  go_enter Try.func11, Try.ntmps11
  go_upto_region 2 with fail
  change Code.wp _ _ _ _ ((w.alloc (.cells Z37E 26)).alloc (.cells Z37E 26))
  rw [← hw2]
  clear hw2
  go_wp2_with fail
  refine T.out.mono ?_
  rintro r w4 ⟨w3, ht4, (⟨l, ⟨hz, rfl, hx, ht3⟩, rfl⟩ | ⟨k, hk, ⟨hz, ht3⟩, rfl⟩)⟩
  · have G4 := Lib.hid (ht4.heap (ht3.heap GR.out (by omega)) (by have := HS2.out; omega))
    have X4 := Lib.hid (hx.turn ht4 (by have := HS2.out; omega))
    have T4 := Lib.hid (show Turn (fun _ => False) w w4 from (T2.out.trans ht3 (fun i hi h => by omega)).trans ht4 (fun i hi h => by have := HS2.out; omega))
    have HD := Lib.hid (bodV_len (xE_zero hz).1)
    have HZ := Lib.hid hz
    clear hx ht3 ht4 hz T
    by_cases hl : l6 b = []
    · have HIF := Lib.hid (show (if l6 b = [] then (0 : Int) else 3) = 0 by rw [if_pos hl])
      have HRE := Lib.hid (show readE b = 0 by unfold readE; rw [if_neg (by rw [HZ.out]; omega), if_pos hl])
      have HRV := Lib.hid (show readV b = bodV b by unfold readV; rw [if_neg (by rw [HRE.out]; omega)])
      rw [HIF.out]
      clear HIF hl
      have hrow := X4.out.row HD.out
      obtain ⟨C, hC⟩ : ∃ C, C = (bodV b).cells.toArray := ⟨_, rfl⟩
      rw [← hC] at hrow
      have sC : C.size = 37 := by rw [hC, List.size_toArray, Ent.len _ HD.out]
      have K1 := Lib.hid (show (Try.prog.info? 26).map (·.size) = some C.size by rw [sC]; exact en_info)
      have K2 := Lib.hid (show Z37E.size = C.size by rw [sC]; rfl)
      have K3 := Lib.hid (show C.all (·.oneCell') = true by rw [hC]; exact Ent.one _)
      have HC := Lib.hid hC
      have HSC := Lib.hid sC
      clear hC sC
      go_wp2_with (refine wpList_store_row rfl _ _ _ rfl w.heap.size C rfl rfl 26 Z37E G4.out K1.out K2.out K3.out ?_)
      have h3 := setRow_heap w4 w.heap.size Z37E C 26 (0, 0) G4.out
      have t5 : Turn (fun i => i = w.heap.size) w4 (w4.setRow w.heap.size C) := (Turn.refl _ _).setRow _ _ (fun _ => rfl)
      refine bodyPost_ret (v := .tuple #[.agg C, .int .i64 0]) ?_ rfl ⟨by rw [HRE.out, HRV.out, HC.out]; rfl, T4.out.trans t5 (fun i hi h => by omega)⟩
      exact results_en Try.results11 _ _ w.heap.size _ _ rfl rfl h3 HSC.out
    · have HIF := Lib.hid (show (if l6 b = [] then (0 : Int) else 3) = 3 by rw [if_neg hl])
      have HRE := Lib.hid (show readE b = 3 by unfold readE; rw [if_neg (by rw [HZ.out]; omega), if_neg hl])
      have HRV := Lib.hid (show readV b = EZ by unfold readV; rw [if_pos (by rw [HRE.out]; omega)])
      rw [HIF.out]
      clear HIF hl
      obtain ⟨CZ, hCZ⟩ : ∃ CZ, CZ = Z37E := ⟨_, rfl⟩
      have sZ : CZ.size = 37 := by rw [hCZ]; rfl
      have K1 := Lib.hid (show (Try.prog.info? 26).map (·.size) = some CZ.size by rw [sZ]; exact en_info)
      have K2 := Lib.hid (show Z37E.size = CZ.size by rw [sZ]; rfl)
      have K3 := Lib.hid (show CZ.all (·.oneCell') = true by rw [hCZ, ← EZ_eq]; exact Ent.one _)
      have HCZ := Lib.hid hCZ
      have HSZ := Lib.hid sZ
      clear hCZ sZ
      go_wp2_with (refine wpList_store_row rfl _ _ _ rfl w.heap.size CZ rfl (by rw [HCZ.out]; rfl) 26 Z37E G4.out K1.out K2.out K3.out ?_)
      have h3 := setRow_heap w4 w.heap.size Z37E CZ 26 (0, 0) G4.out
      have t5 : Turn (fun i => i = w.heap.size) w4 (w4.setRow w.heap.size CZ) := (Turn.refl _ _).setRow _ _ (fun _ => rfl)
      refine bodyPost_ret (v := .tuple #[.agg CZ, .int .i64 3]) ?_ rfl ⟨by rw [HRE.out, HRV.out, HCZ.out]; rfl, T4.out.trans t5 (fun i hi h => by omega)⟩
      exact results_en Try.results11 _ _ w.heap.size _ _ rfl rfl h3 HSZ.out
  · have hRE : readE b = k := by unfold readE; rw [if_pos (by rw [hz]; exact hk), hz]
    have hRV : readV b = EZ := by unfold readV; rw [if_pos (by rw [hRE]; exact hk)]
    have G4 := Lib.hid (ht4.heap (ht3.heap GR.out (by omega)) (by have := HS2.out; omega))
    have T4 := Lib.hid (show Turn (fun _ => False) w w4 from (T2.out.trans ht3 (fun i hi h => by omega)).trans ht4 (fun i hi h => by have := HS2.out; omega))
    have HRE := Lib.hid hRE
    have HRV := Lib.hid hRV
    have hk1 : ((k : Int) == 0) = false := by simp; omega
    have hk2 : ((k : Int) != 0) = true := by simp; omega
    clear T hz ht3 ht4 hRE hRV hk
    obtain ⟨CZ, hCZ⟩ : ∃ CZ, CZ = Z37E := ⟨_, rfl⟩
    have sZ : CZ.size = 37 := by rw [hCZ]; rfl
    have K1 := Lib.hid (show (Try.prog.info? 26).map (·.size) = some CZ.size by rw [sZ]; exact en_info)
    have K2 := Lib.hid (show Z37E.size = CZ.size by rw [sZ]; rfl)
    have K3 := Lib.hid (show CZ.all (·.oneCell') = true by rw [hCZ, ← EZ_eq]; exact Ent.one _)
    have HCZ := Lib.hid hCZ
    have HSZ := Lib.hid sZ
    clear hCZ sZ
    go_wp2_with (refine wpList_store_row rfl _ _ _ rfl w.heap.size CZ rfl (by rw [HCZ.out]; rfl) 26 Z37E G4.out K1.out K2.out K3.out ?_)
    have h3 := setRow_heap w4 w.heap.size Z37E CZ 26 (0, 0) G4.out
    have t5 : Turn (fun i => i = w.heap.size) w4 (w4.setRow w.heap.size CZ) := (Turn.refl _ _).setRow _ _ (fun _ => rfl)
    refine bodyPost_ret (v := .tuple #[.agg CZ, .int .i64 (k : Int)]) ?_ rfl ⟨by rw [HRE.out, HRV.out, HCZ.out]; rfl, T4.out.trans t5 (fun i hi h => by omega)⟩
    exact results_en Try.results11 _ _ w.heap.size _ _ rfl rfl h3 HSZ.out
end Go.Proofs.Ytomflniknnenaaa
