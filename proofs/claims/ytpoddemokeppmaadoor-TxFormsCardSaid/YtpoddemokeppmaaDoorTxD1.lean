/- The contracts of the code's Same. -/
import Derived.Test.YtpoddemokeppmaaDoorTxY
import Derived.Laws.IdiomStrings
import Derived.Laws.BytesArg
set_option linter.unusedVariables false
set_option linter.unusedSimpArgs false
namespace Go.Proofs.YtpoddemokeppmaaDoor
open Go.RowKit
attribute [local go_sem ↓] loadAt_pt loadAt_out
attribute [local go_sem] rowOf_drew rowOf_drewN run_ptLoad run_outLoad
set_option maxRecDepth 100000 in
theorem u8s_len (b : List B8) : (u8s b).length = b.length := by simp [u8s]
set_option maxRecDepth 100000 in
theorem str_any (A : Option Addr) (c B : Nat) (b : List B8) (w : World) (hs : Sl w B A (b.map bv)) (hA : A = none → c = 0) (hc : b.length ≤ c) :
    (convert 29 9 (.slice A b.length c)).run Tryd.prog w = .ok (.string ⟨(u8s b).toArray⟩) w := by
  cases A with
  | none =>
    have hb : b = [] := by
      have := hA rfl
      exact List.eq_nil_of_length_eq_zero (by omega)
    subst hb
    exact run_convert_bytes_nil w 29 5 Tryd.underlying29 Tryd.underlying5 _ _ _ Tryd.underlying9
  | some ad =>
    have h := run_convert_bytes_back (P := Tryd.prog) w 29 9 5 ad c (u8s b) Tryd.underlying29 Tryd.underlying5 Tryd.underlying9 (fun j hj => by
      rw [u8s_len] at hj
      obtain ⟨ad', e, -, hcell⟩ := hs j _ (bvs_at b j hj)
      injection e with e; subst e
      rw [hcell]
      simp [u8s, bv])
    rw [u8s_len] at h
    exact h
set_option maxRecDepth 100000 in
theorem bequal_any (A A' : Option Addr) (c c' B B' : Nat) (a b : List B8) (w : World) (hs : Sl w B A (a.map bv)) (hA : A = none → c = 0) (hc : a.length ≤ c) (hs' : Sl w B' A' (b.map bv)) (hA' : A' = none → c' = 0) (hc' : b.length ≤ c') :
    Calls Tryd.prog 69 #[.slice A a.length c, .slice A' b.length c'] w fun e w' => e = .returned (.bool (decide (a = b))) ∧ w = w' := by
  have h1 := str_any A c B a w hs hA hc
  have h2 := str_any A' c' B' b w hs' hA' hc'
  have h3 := Lib.hid (show ((ByteArray.mk (u8s a).toArray).toList == (ByteArray.mk (u8s b).toArray).toList) = decide (a = b) by
    rw [← u8s_inj]
    simp [ByteArray.toList_eq])
  generalize decide (a = b) = r at *
  generalize a.length = n at *
  generalize b.length = m at *
  generalize (ByteArray.mk (u8s a).toArray) = sa at *
  generalize (ByteArray.mk (u8s b).toArray) = sb at *
  clear hs hs' hA hA' hc hc'
  go_enter Tryd.func69, Tryd.ntmps69
  go_wp2
  go_ret
  exact ⟨ret_bool h3.out, rfl⟩
set_option maxRecDepth 100000 in
theorem sameIn_any (p q : Pin) (S S' : Option Addr) (c c' B B' : Nat) (w : World) (hp : p.ok) (hq : q.ok) (hs : BAt w B S c p.b) (hs' : BAt w B' S' c' q.b) :
    Calls Tryd.prog 43 #[.agg (p.cells S c).toArray, .agg (q.cells S' c').toArray] w fun e w' => e = .returned (.bool (decide (p = q))) ∧ Turn (fun _ => False) w w' := by
  obtain ⟨w0, hw0⟩ : ∃ w0, w0 = (w.alloc (.cells (p.cells S c).toArray 47)).alloc (.cells (q.cells S' c').toArray 47) := ⟨_, rfl⟩
  have hT0 : Turn (fun _ => False) w w0 := by rw [hw0]; exact ((Turn.refl _ _).alloc _).alloc _
  have g1 : w0.heap[w.heap.size]? = some (.cells (p.cells S c).toArray 47 (0, 0)) := by rw [hw0]; exact heap_alloc2_old _ _ _
  have g2 : w0.heap[w.heap.size + 1]? = some (.cells (q.cells S' c').toArray 47 (0, 0)) := by rw [hw0]; exact heap_alloc2_new _ _ _
  obtain ⟨-, p33, p34⟩ := Pin.cell g1 hp.d
  obtain ⟨-, q33, q34⟩ := Pin.cell g2 hq.d
  have rp := rowOf_eq (recV_len p.d (.int .i64 p.x) hp.d) (Pin.point g1)
  have rq := rowOf_eq (recV_len q.d (.int .i64 q.x) hq.d) (Pin.point g2)
  have he := eql_point p q hp.d hq.d
  have HB := Lib.hid (bequal_any S S' c c' B B' p.b q.b w0 (hT0.sl hs.s (fun _ _ h => h)) hs.a hs.c (hT0.sl hs'.s (fun _ _ h => h)) hs'.a hs'.c)
  have HT0 := Lib.hid hT0
  have HE := Lib.hid (show decide (p = q) = (samePt p q && (((p.n : Int) == (q.n : Int)) && decide (p.b = q.b))) from by
    rw [Bool.eq_iff_iff]
    simp only [Bool.and_eq_true, decide_eq_true_eq, beq_iff_eq]
    constructor
    · rintro rfl; exact ⟨by simp [samePt], rfl, rfl⟩
    · rintro ⟨h1, h2, h3⟩; exact pin_eq h1 (by omega) h3)
  generalize decide (p = q) = r at *
  generalize samePt p q = r1 at *
  generalize decide (p.b = q.b) = r3 at *
  generalize (recV p.d (.int .i64 p.x)).toArray = PP at *
  generalize (recV q.d (.int .i64 q.x)).toArray = PQ at *
  generalize (p.cells S c).toArray = CP at *
  generalize (q.cells S' c').toArray = CQ at *
  generalize hr2 : ((p.n : Int) == (q.n : Int)) = r2 at *
  clear g1 g2 hT0 hs hs' hp hq
  cases r1
  · have HR := Lib.hid (show false = r from HE.out.symm)
    go_enter Tryd.func43, Tryd.ntmps43
    go_upto_region 1 with fail
    change Code.wp _ _ _ _ ((w.alloc (.cells CP 47)).alloc (.cells CQ 47))
    rw [← hw0]
    clear hw0
    go_wp2
    go_ret
    exact ⟨ret_bool HR.out, HT0.out⟩
  · cases r2
    · have HR := Lib.hid (show false = r from HE.out.symm)
      go_enter Tryd.func43, Tryd.ntmps43
      go_upto_region 1 with fail
      change Code.wp _ _ _ _ ((w.alloc (.cells CP 47)).alloc (.cells CQ 47))
      rw [← hw0]
      clear hw0
      go_wp2
      go_ret
      exact ⟨ret_bool HR.out, HT0.out⟩
    · have HR := Lib.hid (show r3 = r from by rw [HE.out]; simp)
      go_enter Tryd.func43, Tryd.ntmps43
      go_upto_region 1 with fail
      change Code.wp _ _ _ _ ((w.alloc (.cells CP 47)).alloc (.cells CQ 47))
      rw [← hw0]
      clear hw0
      go_wp2_with fail
      refine HB.out.mono ?_
      rintro e w1 ⟨rfl, rfl⟩
      go_wp2
      go_ret
      exact ⟨ret_bool HR.out, HT0.out⟩
end Go.Proofs.YtpoddemokeppmaaDoor
