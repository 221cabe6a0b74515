/- Merged: ChestKeeps, plain: the sure records of the live side (SI), and what a side's first sector may tell (WI). ChestKeeps, plain: what Find tells behind a start, and what Open makes of it. ChestKeeps, plain: what Keep, Sync, Turn and a fuse keep of a chest that is on, whatever they answer. ChestKeeps: the landed chest and its drum, with what is sure; contracts of Keep, Sync, Turn, Fuse, whatever the power does. ChestKeeps: a start, and the chest opened behind it. -/
import Derived.Test.YtajdcekkmikbcaaDoorM47
namespace Go.Proofs.YtajdcekkmikbcaaDoor
section
set_option linter.unusedVariables false
set_option linter.unusedSimpArgs false
set_option maxRecDepth 100000
theorem write_LW (d : Dr) (j : Nat) (s : Sec) : (d.write (j : Int) s).L = d.L ∧ ((d.write (j : Int) s).W = d.W ∨ (d.write (j : Int) s).W = d.W ++ [(j, s)]) := by
  unfold Dr.write Dr.burn
  split
  · exact ⟨rfl, .inl rfl⟩
  · split
    · exact ⟨rfl, .inl rfl⟩
    · exact ⟨rfl, .inr (by simp)⟩
theorem sync_LW (d : Dr) : (d.sync.L = d.L ∧ d.sync.W = d.W) ∨ (d.sync.L = landL d.L d.W [] ∧ d.sync.W = []) := by
  unfold Dr.sync Dr.burn Dr.land
  split
  · exact .inl ⟨rfl, rfl⟩
  · split
    · exact .inl ⟨rfl, rfl⟩
    · exact .inr ⟨rfl, rfl⟩
/-- The sure records S of turn t on side a. -/
structure SI (d : Dr) (a t : Nat) (S : List (List B8)) : Prop where
  ok : d.Ok 24
  a1 : a ≤ 1
  room : secsS t 0 S ≤ 12
  cut : cutD d (a * 12) (secsS t 0 S) = formsS t 0 S
  wait : ∀ w ∈ d.W, ¬ (a * 12 ≤ w.1 ∧ w.1 < a * 12 + secsS t 0 S)
  turn : t ≤ 200
  lens : ∀ i (h : i < S.length), (fldS t i S[i]).length ≤ 65524
  par : t % 2 = (a + 1) % 2
  pos : 1 ≤ t
  ne : 1 ≤ S.length
theorem SI.of {d d' : Dr} {a t : Nat} {S : List (List B8)} (h : SI d a t S) (ok : d'.Ok 24) (hn : ∀ k, a * 12 ≤ k → k < a * 12 + secsS t 0 S → d'.now k = d.now k) (hw : ∀ w ∈ d'.W, ¬ (a * 12 ≤ w.1 ∧ w.1 < a * 12 + secsS t 0 S)) : SI d' a t S :=
  ⟨ok, h.a1, h.room, by rw [cutD_congr _ _ hn]; exact h.cut, hw, h.turn, h.lens, h.par, h.pos, h.ne⟩
theorem SI.write {d : Dr} {a t : Nat} {S : List (List B8)} (h : SI d a t S) (j : Nat) (s : Sec) (hj : ¬ (a * 12 ≤ j ∧ j < a * 12 + secsS t 0 S)) : SI (d.write (j : Int) s) a t S := by
  obtain ⟨h1, h2⟩ := write_LW d j s
  refine h.of (h.ok.write _ _) (fun k k1 k2 => ?_) fun w hw => ?_
  · unfold Dr.now
    rw [h1]
    rcases h2 with h2 | h2
    · rw [h2]
    · rw [h2]
      unfold nowS
      rw [List.foldl_append, List.foldl_cons, List.foldl_nil, if_neg (show ¬ j = k by omega)]
  · rcases h2 with h2 | h2
    · rw [h2] at hw; exact h.wait w hw
    · rw [h2] at hw
      rcases List.mem_append.1 hw with hw | hw
      · exact h.wait w hw
      · rw [List.mem_singleton] at hw; subst hw; exact hj
theorem SI.sync {d : Dr} {a t : Nat} {S : List (List B8)} (h : SI d a t S) : SI d.sync a t S := by
  rcases sync_LW d with ⟨h1, h2⟩ | ⟨h1, h2⟩
  · exact h.of h.ok.sync (fun k _ _ => by unfold Dr.now; rw [h1, h2]) (by rw [h2]; exact h.wait)
  · refine h.of h.ok.sync (fun k k1 k2 => ?_) (by rw [h2]; intro w hw; cases hw)
    unfold Dr.now
    rw [h1, h2]
    exact landL_now k d.W d.L fun w hw => by rw [h.ok.len]; exact h.ok.wait w hw
theorem SI.lay {d : Dr} {a t : Nat} {S : List (List B8)} (h : SI d a t S) (m : Int) : SI (d.lay m) a t S :=
  h.of ⟨h.ok.len, h.ok.sec, h.ok.wait⟩ (fun _ _ _ => rfl) h.wait
theorem SI.start {d : Dr} {a t : Nat} {S : List (List B8)} (h : SI d a t S) (M : List B8) : SI (d.start M) a t S :=
  h.of (h.ok.start M) (fun k k1 k2 => start_other d M k fun w hw e => h.wait w hw (by omega)) (fun w hw => by cases hw)
/-- What a side's first sector may be. -/
def Wd (a : Nat) (s : Sec) : Prop := s[12]? = some 0 ∨ (s[12]? = some 1 ∧ ∃ v : B8, s[13]? = some v ∧ v.toNat % 2 = (a + 1) % 2)
theorem Wd.zero (a : Nat) : Wd a (zeros 64) := .inl rfl
theorem Wd.torn {a : Nat} {x y : Sec} (hx : Wd a x) (hy : Wd a y) (m : B8) : Wd a (tornS x y m) := by
  have e12 := tornS_at x y m 12 (by omega)
  have e13 := tornS_at x y m 13 (by omega)
  have key : ∀ z : Sec, Wd a z → (tornS x y m)[12]? = some (z.getD 12 0) → (tornS x y m)[13]? = some (z.getD 13 0) → Wd a (tornS x y m) := fun z hz h1 h2 => by
    rcases hz with hz | ⟨hz, v, hv, hp⟩
    · left; rw [h1, List.getD_eq_getElem?_getD, hz]; rfl
    · right
      refine ⟨by rw [h1, List.getD_eq_getElem?_getD, hz]; rfl, v, by rw [h2, List.getD_eq_getElem?_getD, hv]; rfl, hp⟩
  cases hm : m.getLsbD 1 with
  | true => exact key y hy (by rw [e12, show 12 / 8 = 1 from rfl, hm]; rfl) (by rw [e13, show 13 / 8 = 1 from rfl, hm]; rfl)
  | false => exact key x hx (by rw [e12, show 12 / 8 = 1 from rfl, hm]; rfl) (by rw [e13, show 13 / 8 = 1 from rfl, hm]; rfl)
theorem wd_land {a k : Nat} (W : List (Nat × Sec)) : ∀ (L : List Sec) (M : List B8), k < L.length → Wd a (L.getD k []) → (∀ w ∈ W, w.1 = k → Wd a w.2) → Wd a ((landL L W M).getD k []) := by
  induction W with
  | nil => intro L M _ h _; exact h
  | cons w W ih =>
    intro L M hk h hW
    rw [landL]
    refine ih _ _ (by rw [List.length_set]; exact hk) ?_ fun w' hw' => hW w' (List.mem_cons_of_mem _ hw')
    rw [List.getD_eq_getElem?_getD, List.getElem?_set]
    split
    · rename_i e
      rw [if_pos (by omega)]
      exact Wd.torn (by rw [e]; exact h) (hW w (List.mem_cons_self ..) e) _
    · rw [List.getD_eq_getElem?_getD] at h; exact h
structure WI (d : Dr) (a : Nat) : Prop where
  ok : d.Ok 24
  a1 : a ≤ 1
  l : Wd a (d.L.getD (a * 12) [])
  w : ∀ w ∈ d.W, w.1 = a * 12 → Wd a w.2
theorem WI.new (a : Nat) (ha : a ≤ 1) : WI (Dr.new 24) a := by
  refine ⟨.new 24, ha, ?_, fun w hw => by cases hw⟩
  show Wd a ((List.replicate 24 (zeros 64)).getD (a * 12) [])
  rw [List.getD_eq_getElem?_getD, List.getElem?_replicate, if_pos (by omega)]
  exact Wd.zero a
theorem WI.write {d : Dr} {a : Nat} (h : WI d a) (j : Nat) (s : Sec) (hs : j = a * 12 → Wd a s) : WI (d.write (j : Int) s) a := by
  obtain ⟨h1, h2⟩ := write_LW d j s
  refine ⟨h.ok.write _ _, h.a1, by rw [h1]; exact h.l, fun w hw e => ?_⟩
  rcases h2 with h2 | h2
  · rw [h2] at hw; exact h.w w hw e
  · rw [h2] at hw
    rcases List.mem_append.1 hw with hw | hw
    · exact h.w w hw e
    · rw [List.mem_singleton] at hw; subst hw; exact hs e
theorem WI.sync {d : Dr} {a : Nat} (h : WI d a) : WI d.sync a := by
  have hk := h.a1
  rcases sync_LW d with ⟨h1, h2⟩ | ⟨h1, h2⟩
  · exact ⟨h.ok.sync, h.a1, by rw [h1]; exact h.l, by rw [h2]; exact h.w⟩
  · exact ⟨h.ok.sync, h.a1, by rw [h1]; exact wd_land _ _ _ (by rw [h.ok.len]; omega) h.l h.w, by rw [h2]; intro w hw; cases hw⟩
theorem WI.lay {d : Dr} {a : Nat} (h : WI d a) (m : Int) : WI (d.lay m) a := ⟨⟨h.ok.len, h.ok.sec, h.ok.wait⟩, h.a1, h.l, h.w⟩
theorem WI.start {d : Dr} {a : Nat} (h : WI d a) (M : List B8) : WI (d.start M) a := by
  have hk := h.a1
  exact ⟨h.ok.start M, h.a1, wd_land _ _ _ (by rw [h.ok.len]; omega) h.l h.w, fun w hw => by cases hw⟩
theorem WI.now {d : Dr} {a : Nat} (h : WI d a) : Wd a (d.now (a * 12)) := by
  have key : ∀ (W : List (Nat × Sec)) (b : Sec), Wd a b → (∀ w ∈ W, w.1 = a * 12 → Wd a w.2) → Wd a (nowS (a * 12) b W) := fun W => by
    induction W with
    | nil => intro b h _; exact h
    | cons w W ih =>
      intro b hb hW
      rw [nowS_cons]
      refine ih _ ?_ fun w' hw' => hW w' (List.mem_cons_of_mem _ hw')
      split
      · exact hW w (List.mem_cons_self ..) (by assumption)
      · exact hb
  exact key _ _ h.l h.w
/-- The first sector of a record of number 0. -/
theorem form_at (t n : Nat) (b : List B8) : (formS t n b)[12]? = some (BitVec.ofNat 8 (klen t)) ∧ (klen t = 1 → (formS t n b)[13]? = some (BitVec.ofNat 8 t)) := by
  have e : formS t n b = headS (fldS t n b) ++ (BitVec.ofNat 8 (klen t) :: (beN (klen t) t ++ (numB n ++ (numB b.length ++ b)) ++ zeros (secPad (12 + (fldS t n b).length)))) := by
    unfold formS laidS
    conv => lhs; rhs; lhs; unfold fldS numB
    simp [numB]
  constructor
  · rw [e, List.getElem?_append_right (by rw [headS_len]; omega), headS_len]; rfl
  · intro h1
    rw [e, List.getElem?_append_right (by rw [headS_len]; omega), headS_len, h1]
    simp [beN]
end
section
set_option linter.unusedVariables false
set_option linter.unusedSimpArgs false
set_option maxRecDepth 100000
theorem cut_first {d : Dr} {s : Nat} (ok : d.Ok 24) (hs : s ≤ 1) (j : Nat) (hj : j < 64) : (cutD d (s * (24 / 2)) (24 / 2))[j]? = (d.now (s * 12))[j]? := by
  have hl : (d.now (s * 12)).length = 64 := Dr.now_len ok _ (by omega)
  have e : cutD d (s * 12) 12 = d.now (s * 12) ++ cutD d (s * 12 + 1) 11 := by
    rw [cutD_split ok (s * 12) 12 1 (by omega) (by omega), cutD_succ]; rfl
  show (cutD d (s * 12) 12)[j]? = _
  rw [e, List.getElem?_append_left (by omega)]
theorem WI.peek {d : Dr} {s : Nat} (h : WI d s) (on : d.off = false) : pkT d 24 s = 0 ∨ pkT d 24 s % 2 = (s + 1) % 2 := by
  have hs := h.a1
  cases hr : readS (cutD d (s * (24 / 2)) (24 / 2)) with
  | none => exact .inl (pkT_none hr)
  | some r =>
    rw [pkT_of on hs hr]
    by_cases hn : r.n = 0
    · rw [if_pos hn]
      obtain ⟨b1, b2, b3, b4⟩ := read_back hr
      obtain ⟨z1, z2, z3⟩ := readS_size hr
      have hel : ∀ j, j < 64 → (formS r.t r.n r.b)[j]? = (d.now (s * 12))[j]? := fun j hj => by
        rw [← b1, List.getElem?_take_of_lt (by omega), cut_first h.ok hs j hj]
      obtain ⟨f1, f2⟩ := form_at r.t r.n r.b
      rw [hel 12 (by omega)] at f1
      rw [hel 13 (by omega)] at f2
      have hk : klen r.t ≤ 8 := klen_eight (by unfold mostS at b3; omega)
      have hlt := klen_lt r.t
      rcases h.now with hz | ⟨hz, v, hv, hp⟩
      · left
        rw [hz] at f1
        injection f1 with f1
        have h1 := congrArg BitVec.toNat f1
        rw [BitVec.toNat_ofNat] at h1
        have h2 : (0 : B8).toNat = 0 := rfl
        have h0 : klen r.t = 0 := by omega
        rw [h0] at hlt
        omega
      · right
        rw [hz] at f1
        injection f1 with f1
        have h1 := congrArg BitVec.toNat f1
        rw [BitVec.toNat_ofNat] at h1
        have h2 : (1 : B8).toNat = 1 := rfl
        have h0 : klen r.t = 1 := by omega
        have f3 := f2 h0
        rw [hv] at f3
        injection f3 with f3
        rw [h0] at hlt
        rw [f3, BitVec.toNat_ofNat] at hp
        omega
    · rw [if_neg hn]; exact .inl rfl
theorem SI.bytes {d : Dr} {a t : Nat} {S : List (List B8)} (h : SI d a t S) : ∃ R, cutD d (a * (24 / 2)) (24 / 2) = formsS t 0 S ++ R := by
  have h1 := h.a1
  have h2 := h.room
  refine ⟨cutD d (a * 12 + secsS t 0 S) (12 - secsS t 0 S), ?_⟩
  show cutD d (a * 12) 12 = _
  rw [cutD_split h.ok (a * 12) 12 (secsS t 0 S) (by omega) h2, h.cut]
theorem SI.many {d : Dr} {a t : Nat} {S : List (List B8)} (h : SI d a t S) : S.length ≤ 12 := Nat.le_trans (secsS_ge t S 0) h.room
theorem SI.told {d : Dr} {a t : Nat} {S : List (List B8)} (h : SI d a t S) : ∃ w', (scanN (cutD d (a * (24 / 2)) (24 / 2)) t 0).1 = S ++ w' := by
  obtain ⟨R, e⟩ := h.bytes
  have hm := h.many
  have ht := h.turn
  rw [e, scan_forms t (by unfold mostS; omega) R S 0 (by unfold mostS; omega) (fun i hi => by rw [Nat.zero_add]; exact h.lens i hi)]
  exact ⟨_, rfl⟩
theorem SI.peek {d : Dr} {a t : Nat} {S : List (List B8)} (h : SI d a t S) (on : d.off = false) : pkT d 24 a = t := by
  obtain ⟨R, e⟩ := h.bytes
  have ht := h.turn
  have hne := h.ne
  have hl := h.lens
  cases S with
  | nil => simp at hne
  | cons b S =>
    have h0 := hl 0 (by simp)
    rw [formsS, List.append_assoc] at e
    have hr := form_read t 0 b (formsS t (0 + 1) S ++ R) (by unfold mostS; omega) (by unfold mostS; omega) h0
    rw [← e] at hr
    rw [pkT_of on h.a1 hr]
    exact if_pos rfl
/-- What Find tells behind a start. -/
theorem keeps_find {d : Dr} {a t : Nat} {S : List (List B8)} (h : SI d a t S) (h0 : WI d 0) (h1 : WI d 1) (on : d.off = false) :
    t ≤ (fnd d 24).2 ∧ (fnd d 24).1 ≤ 1 ∧ (fnd d 24).2 % 2 = ((fnd d 24).1 + 1) % 2 ∧ ((fnd d 24).2 = t → (fnd d 24).1 = a) := by
  have hp := h.peek on
  have ht := h.pos
  have ha := h.a1
  have hpar := h.par
  have o0 := h0.peek on
  have o1 := h1.peek on
  rw [show fnd d 24 = fndK d 24 1 (fndK d 24 0 (0, 0)) from rfl]
  rcases Nat.lt_or_ge a 1 with h9 | h9
  · obtain rfl : a = 0 := by omega
    rw [show fndK d 24 0 (0, 0) = (0, pkT d 24 0) from if_pos (by show 0 < pkT d 24 0; omega), hp]
    by_cases hq : t < pkT d 24 1
    · rw [show fndK d 24 1 (0, t) = (1, pkT d 24 1) from if_pos hq]
      simp only
      exact ⟨by omega, by omega, by omega, fun e => by omega⟩
    · rw [show fndK d 24 1 (0, t) = (0, t) from if_neg hq]
      simp only
      exact ⟨by omega, by omega, by omega, fun e => by omega⟩
  · obtain rfl : a = 1 := by omega
    by_cases hz : 0 < pkT d 24 0
    · rw [show fndK d 24 0 (0, 0) = (0, pkT d 24 0) from if_pos hz]
      by_cases hq : pkT d 24 0 < pkT d 24 1
      · rw [show fndK d 24 1 (0, pkT d 24 0) = (1, pkT d 24 1) from if_pos hq, hp]
        simp only
        exact ⟨by omega, by omega, by omega, fun e => by omega⟩
      · rw [show fndK d 24 1 (0, pkT d 24 0) = (0, pkT d 24 0) from if_neg hq]
        simp only
        exact ⟨by omega, by omega, by omega, fun e => by omega⟩
    · rw [show fndK d 24 0 (0, 0) = (0, 0) from if_neg hz]
      rw [show fndK d 24 1 (0, 0) = (1, pkT d 24 1) from if_pos (by show 0 < pkT d 24 1; omega), hp]
      simp only
      exact ⟨by omega, by omega, by omega, fun e => by omega⟩
/-- The document's Find behind a start. -/
theorem keeps_told {d : Dr} {a t : Nat} {S : List (List B8)} (h : SI d a t S) (h0 : WI d 0) (h1 : WI d 1) (on : OnD d 24) :
    t ≤ (findS (cutD d 0 24)).1 ∧ ((findS (cutD d 0 24)).1 = t → S.length ≤ (findS (cutD d 0 24)).2.length) ∧ (findS (cutD d 0 24)).1 = (fnd d 24).2 ∧ (findS (cutD d 0 24)).2 = (scanN (cutD d ((fnd d 24).1 * (24 / 2)) (24 / 2)) (fnd d 24).2 0).1 := by
  obtain ⟨f1, f2, f3, f4⟩ := keeps_find h h0 h1 on.off
  obtain ⟨g1, g2, g3⟩ := find_on on
  have ht := h.pos
  have g4 := g3 (by omega)
  refine ⟨by rw [g1]; exact f1, fun e => ?_, g1, g4⟩
  rw [g1] at e
  obtain ⟨w', hw⟩ := h.told
  rw [g4, e, f4 e, hw, List.length_append]
  omega
/-- Open behind a start: the records found are sure. -/
theorem keeps_open {d : Dr} {a t : Nat} {S : List (List B8)} (h : SI d a t S) (h0 : WI d 0) (h1 : WI d 1) (on : OnD d 24) (hW : d.W = []) (hT : (fnd d 24).2 ≤ 200) :
    (begR d 24).2 = 0 ∧ CG (begR d 24).1 24 (begK d 24) ∧ (begR d 24).1.W.length ≤ 12 ∧ (begK d 24).t = (findS (cutD d 0 24)).1 ∧ (begK d 24).L = (findS (cutD d 0 24)).2 ∧
    SI (begR d 24).1 (begK d 24).a (begK d 24).t (begK d 24).L ∧ WI (begR d 24).1 0 ∧ WI (begR d 24).1 1 := by
  obtain ⟨f1, f2, f3, f4⟩ := keeps_find h h0 h1 on.off
  obtain ⟨t1, t2, t3, t4⟩ := keeps_told h h0 h1 on
  have ht := h.pos
  obtain ⟨o1, o2, o3, o4, o5⟩ := opened_on on (by omega) (show 1 ≤ (fnd d 24).2 by omega)
  have hlen : (cutD d ((fnd d 24).1 * (24 / 2)) (24 / 2)).length = 64 * 12 := cutD_len on.ok _ 12 (by show (fnd d 24).1 * 12 + 12 ≤ 24; omega)
  obtain ⟨s1, s2, s3, s4⟩ := scan_back (fnd d 24).2 _ (cutD d ((fnd d 24).1 * (24 / 2)) (24 / 2)) 0 (Nat.le_refl _)
  have s5 := scanN_le (fnd d 24).2 _ (cutD d ((fnd d 24).1 * (24 / 2)) (24 / 2)) 0 (Nat.le_refl _)
  rw [hlen] at s5
  have hK : begK d 24 = ⟨(fnd d 24).1, (fnd d 24).2, (scanN (cutD d ((fnd d 24).1 * (24 / 2)) (24 / 2)) (fnd d 24).2 0).1, (fnd d 24).1 * (24 / 2) + (scanN (cutD d ((fnd d 24).1 * (24 / 2)) (24 / 2)) (fnd d 24).2 0).2⟩ := by
    unfold begK; rw [if_neg (by omega)]
  have hR : begR d 24 = wipeR d ((fnd d 24).1 * (24 / 2) + (scanN (cutD d ((fnd d 24).1 * (24 / 2)) (24 / 2)) (fnd d 24).2 0).2) (24 / 2 - (scanN (cutD d ((fnd d 24).1 * (24 / 2)) (24 / 2)) (fnd d 24).2 0).2) := by
    unfold begR; rw [if_neg (by omega)]
  have ne := o2.ne
  rw [o5] at ne
  obtain ⟨V, hV⟩ : ∃ V, V = scanN (cutD d ((fnd d 24).1 * (24 / 2)) (24 / 2)) (fnd d 24).2 0 := ⟨_, rfl⟩
  rw [← hV] at s1 s2 s3 s5 hK hR ne t4
  have sg : 1 ≤ V.2 := by have := secsS_ge (fnd d 24).2 V.1 0; omega
  have si : SI d (fnd d 24).1 (fnd d 24).2 V.1 := by
    refine ⟨on.ok, f2, by omega, ?_, fun w hw => (by rw [hW] at hw; cases hw), hT, fun i hi => ?_, f3, by omega, ne⟩
    · rw [s2, ← s1]
      exact (cutD_take on.ok ((fnd d 24).1 * 12) 12 V.2 (by omega) (by omega)).symm
    · have := (s3 i hi).1
      rwa [Nat.zero_add] at this
  have key : SI (begR d 24).1 (fnd d 24).1 (fnd d 24).2 V.1 ∧ WI (begR d 24).1 0 ∧ WI (begR d 24).1 1 := by
    rw [hR]
    refine wipeR_keeps (fun x => SI x (fnd d 24).1 (fnd d 24).2 V.1 ∧ WI x 0 ∧ WI x 1) _ _ _ (fun j x hj hq => ?_) (fun x hq => ⟨hq.1.sync, hq.2.1.sync, hq.2.2.sync⟩) ⟨si, h0, h1⟩
    refine ⟨hq.1.write _ _ ?_, hq.2.1.write _ _ fun _ => Wd.zero 0, hq.2.2.write _ _ fun _ => Wd.zero 1⟩
    rw [s2]
    show ¬ ((fnd d 24).1 * 12 ≤ (fnd d 24).1 * 12 + V.2 + j ∧ (fnd d 24).1 * 12 + V.2 + j < (fnd d 24).1 * 12 + V.2)
    omega
  refine ⟨o1, o2, by rw [hW] at o3; exact o3, by rw [o4, t3], by rw [hK, t4], ?_, key.2⟩
  rw [hK]
  exact key.1
end
section
set_option linter.unusedVariables false
set_option linter.unusedSimpArgs false
set_option maxRecDepth 100000
structure KOn (d : Dr) (k : Ck) (sure : Nat) : Prop where
  cg : CG d.nf 24 k
  si : SI d k.a k.t (k.L.take sure)
  le : sure ≤ k.L.length
  w0 : WI d 0
  w1 : WI d 1
theorem KOn.off {d : Dr} {k : Ck} {sure : Nat} (h : KOn d k sure) : d.off = false := h.cg.iv.on.off
/-- What stands when the power is gone. -/
def KOff (d : Dr) (t sure : Nat) : Prop := ∃ a S, SI d a t S ∧ S.length = sure ∧ WI d 0 ∧ WI d 1
theorem take_len {l : List (List B8)} {n : Nat} (h : n ≤ l.length) : (l.take n).length = n := by rw [List.length_take]; omega
theorem secs_take (t : Nat) (l : List (List B8)) (n : Nat) : secsS t 0 (l.take n) ≤ secsS t 0 l := by
  conv => rhs; rw [← List.take_append_drop n l, secsS_append]
  omega
theorem KOn.lay {d : Dr} {k : Ck} {sure : Nat} (h : KOn d k sure) (m : Int) : KOn (d.lay m) k sure := ⟨h.cg, h.si.lay m, h.le, h.w0.lay m, h.w1.lay m⟩
theorem KOff.lay {d : Dr} {t sure : Nat} (h : KOff d t sure) (m : Int) : KOff (d.lay m) t sure := by
  obtain ⟨a, S, h1, h2, h3, h4⟩ := h
  exact ⟨a, S, h1.lay m, h2, h3.lay m, h4.lay m⟩
theorem KOff.start {d : Dr} {t sure : Nat} (h : KOff d t sure) (M : List B8) : KOff (d.start M) t sure := by
  obtain ⟨a, S, h1, h2, h3, h4⟩ := h
  exact ⟨a, S, h1.start M, h2, h3.start M, h4.start M⟩
theorem KOn.any {d : Dr} {k : Ck} {sure : Nat} (h : KOn d k sure) : KOff d k.t sure := ⟨_, _, h.si, take_len h.le, h.w0, h.w1⟩
theorem KOn.keep {d : Dr} {k : Ck} {sure : Nat} (h : KOn d k sure) (b : List B8) (hl : k.L.length < mostS) :
    KOff ((k.scr (24 / 2)).putD d b) k.t sure ∧ ((k.scr (24 / 2)).putE d b = 0 → KOn ((k.scr (24 / 2)).putD d b) ⟨k.a, k.t, k.L ++ [b], k.p + secsOf (formV13 k.t k.L.length b)⟩ sure) := by
  have hp : k.p = k.a * 12 + secsS k.t 0 k.L := h.cg.p
  have ha := h.cg.a
  have hs := secs_take k.t k.L sure
  have h1 : 1 ≤ secsS k.t 0 (k.L.take sure) := Nat.le_trans h.si.ne (secsS_ge _ _ _)
  have key := put_keeps (fun x => SI x k.a k.t (k.L.take sure) ∧ WI x 0 ∧ WI x 1) (k.scr (24 / 2)) d b (fun hq i x e hx hk => by
    have hi : i < secsOf ((k.scr (24 / 2)).form b) := by
      obtain ⟨hi, -⟩ := List.getElem?_eq_some_iff.1 hx
      rwa [chunks_len] at hi
    have hr : k.p + secsOf ((k.scr (24 / 2)).form b) ≤ k.a * 12 + 12 := by
      unfold Scr.pre at hq
      split at hq
      · cases hq
      · split at hq
        · rename_i h2; exact absurd hq h2
        · split at hq
          · cases hq
          · rename_i h3
            have h3 : ¬ k.a * 12 + 12 < k.p + secsOf ((k.scr (24 / 2)).form b) := h3
            omega
    show SI (e.write ((k.p + i : Nat) : Int) x) _ _ _ ∧ WI (e.write ((k.p + i : Nat) : Int) x) 0 ∧ WI (e.write ((k.p + i : Nat) : Int) x) 1
    exact ⟨hk.1.write _ _ (by omega), hk.2.1.write _ _ (by omega), hk.2.2.write _ _ (by omega)⟩) ⟨h.si, h.w0, h.w1⟩
  refine ⟨⟨_, _, key.1, take_len h.le, key.2⟩, fun h0 => ?_⟩
  obtain ⟨e1, e2⟩ := nf_put h0
  have c := ((h.cg.keep b hl).2.2.2 e1).1
  rw [e2] at c
  refine ⟨c, ?_, by show sure ≤ (k.L ++ [b]).length; rw [List.length_append]; have := h.le; omega, key.2.1, key.2.2⟩
  show SI _ k.a k.t ((k.L ++ [b]).take sure)
  rw [List.take_append_of_le_length h.le]
  exact key.1
theorem KOn.sync {d : Dr} {k : Ck} {sure : Nat} (h : KOn d k sure) : KOff d.sync k.t sure ∧ (d.syncE = 0 → KOn d.sync k k.L.length ∧ d.sync.W = []) := by
  refine ⟨⟨_, _, h.si.sync, take_len h.le, h.w0.sync, h.w1.sync⟩, fun h0 => ?_⟩
  obtain ⟨e1, e2⟩ := nf_sync h0
  obtain ⟨s1, s2, s3⟩ := h.cg.sync
  rw [e2] at s2 s3
  have s3 : d.sync.W = [] := s3
  have iv := s2.iv
  have hl := iv.lens
  refine ⟨⟨s2, ?_, Nat.le_refl _, h.w0.sync, h.w1.sync⟩, s3⟩
  rw [List.take_length]
  exact ⟨h.si.ok.sync, h.cg.a, iv.room, iv.cut, fun w hw => (by rw [s3] at hw; cases hw), h.si.turn, iv.lens, h.si.par, h.si.pos, h.cg.ne⟩
theorem form_first {t : Nat} (ht : 1 ≤ t) (h2 : t ≤ 200) (b : List B8) : (formS t 0 b)[12]? = some 1 ∧ (formS t 0 b)[13]? = some (BitVec.ofNat 8 t) := by
  have hk : klen t = 1 := klen_eq (by omega) (.inr (by simpa using ht))
  obtain ⟨f1, f2⟩ := form_at t 0 b
  exact ⟨by rw [f1, hk]; rfl, f2 hk⟩
theorem KOn.turn {d : Dr} {k : Ck} {sure : Nat} (h : KOn d k sure) (b : List B8) (ht : k.t + 1 ≤ 200) (hb : turnP k (24 / 2) b = 0) :
    KOff (turnR d k (24 / 2) b).1 k.t sure ∧ ((turnR d k (24 / 2) b).2 = 0 → KOn (turnR d k (24 / 2) b).1 ⟨1 - k.a, k.t + 1, [b], (1 - k.a) * (24 / 2) + secsOf (formV13 ((k.t + 1 : Nat) : Int) 0 b)⟩ 1 ∧ (turnR d k (24 / 2) b).1.W = []) := by
  have ha := h.cg.a
  have hpar := h.si.par
  have hroom := h.si.room
  have hE : formE13 ((k.t + 1 : Nat) : Int) ((0 : Nat) : Int) b = 0 := by
    unfold turnP at hb
    by_cases hq : formE13 ((k.t + 1 : Nat) : Int) 0 b ≠ 0
    · rw [if_pos hq] at hb; exact absurd hb hq
    · exact Decidable.not_not.1 hq
  have hV : formV13 ((k.t + 1 : Nat) : Int) ((0 : Nat) : Int) b = formS (k.t + 1) 0 b := (formV_ok hE).1
  obtain ⟨g1, g2⟩ := form_first (t := k.t + 1) (by omega) ht b
  have key := layR_keeps (fun x => SI x k.a k.t (k.L.take sure) ∧ WI x 0 ∧ WI x 1) d ((1 - k.a) * (24 / 2)) (24 / 2) (k.t + 1) b
    (fun j x hj hk => ⟨hk.1.write _ _ (by omega), hk.2.1.write _ _ (fun _ => Wd.zero 0), hk.2.2.write _ _ (fun _ => Wd.zero 1)⟩)
    (fun x hk => ⟨hk.1.sync, hk.2.1.sync, hk.2.2.sync⟩)
    (fun hq i x e hx hk => by
      rw [hV] at hx
      have hi : i < secsOf (formS (k.t + 1) 0 b) := by
        obtain ⟨hi, -⟩ := List.getElem?_eq_some_iff.1 hx
        rwa [chunks_len] at hi
      have hr : secsOf (formS (k.t + 1) 0 b) ≤ 12 := by
        unfold Scr.pre at hq
        split at hq
        · cases hq
        · split at hq
          · rename_i h2; exact absurd hq h2
          · split at hq
            · cases hq
            · rename_i h3
              have h3 : ¬ (1 - k.a) * (24 / 2) + 24 / 2 < (1 - k.a) * (24 / 2) + secsOf (formV13 ((k.t + 1 : Nat) : Int) ((0 : Nat) : Int) b) := h3
              rw [hV] at h3
              omega
      have hx0 : i = 0 → Wd (1 - k.a) x := fun h0 => by
        subst h0
        obtain ⟨m, hm⟩ : ∃ m, secsOf (formS (k.t + 1) 0 b) = m + 1 := ⟨_, (Nat.succ_pred_eq_of_pos hi).symm⟩
        rw [hm, chunks] at hx
        have hx : some ((formS (k.t + 1) 0 b).take 64) = some x := hx
        injection hx with hx
        right
        refine ⟨by rw [← hx, List.getElem?_take_of_lt (by omega), g1], BitVec.ofNat 8 (k.t + 1), by rw [← hx, List.getElem?_take_of_lt (by omega), g2], ?_⟩
        rw [BitVec.toNat_ofNat]
        omega
      refine ⟨hk.1.write _ _ (by omega), hk.2.1.write _ _ fun e0 => ?_, hk.2.2.write _ _ fun e1 => ?_⟩
      · have := hx0 (by omega)
        rwa [show 1 - k.a = 0 by omega] at this
      · have := hx0 (by omega)
        rwa [show 1 - k.a = 1 by omega] at this) ⟨h.si, h.w0, h.w1⟩
  refine ⟨⟨_, _, key.1, take_len h.le, key.2⟩, fun h0 => ?_⟩
  obtain ⟨c1, c2, c3⟩ := h.cg.turned b hb
  have e : turnR d.nf k (24 / 2) b = ((turnR d k (24 / 2) b).1.nf, 0) := nf_layR h0
  rw [e] at c2 c3
  have c3 : (turnR d k (24 / 2) b).1.W = [] := c3
  have iv := c2.iv
  refine ⟨⟨c2, ?_, Nat.le_refl _, key.2.1, key.2.2⟩, c3⟩
  show SI _ (1 - k.a) (k.t + 1) ([b].take 1)
  exact ⟨key.1.ok, by omega, iv.room, iv.cut, fun w hw => (by rw [c3] at hw; cases hw), ht, iv.lens, by omega, by omega, Nat.le_refl _⟩
end
section
set_option linter.unusedVariables false
set_option linter.unusedSimpArgs false
open Go.RowKit
set_option maxRecDepth 100000
/-- The chest (turn t, len records, sure of them sure) and its drum, the power on or gone. -/
def HSt (w : World) (g c i t sure len : Nat) (on : Bool) (D E : Nat → Prop) : Prop :=
  t ≤ 1 + i ∧ (if on = true then ∃ d k, KAt w g c 24 d k D E ∧ KOn d k sure ∧ k.t = t ∧ k.L.length = len ∧ d.W.length ≤ 24 * i
  else ∃ d, LD w g 24 d D ∧ d.off = true ∧ KOff d t sure ∧ KGn w c ∧ ¬ D c ∧ c < w.heap.size ∧ 2 ≤ c ∧ (∀ j, E j ↔ j = c))
theorem HSt.yes {w : World} {g c i t sure len : Nat} {D E : Nat → Prop} {d : Dr} {k : Ck} (h1 : t ≤ 1 + i) (h2 : KAt w g c 24 d k D E) (h3 : KOn d k sure) (h4 : k.t = t) (h5 : k.L.length = len) (h6 : d.W.length ≤ 24 * i) : HSt w g c i t sure len true D E := by
  unfold HSt; rw [if_pos rfl]; exact ⟨h1, d, k, h2, h3, h4, h5, h6⟩
theorem HSt.no {w : World} {g c i t sure len : Nat} {D : Nat → Prop} {d : Dr} (h1 : t ≤ 1 + i) (h2 : LD w g 24 d D) (h3 : d.off = true) (h4 : KOff d t sure) (h5 : KGn w c) (h6 : ¬ D c) (h7 : c < w.heap.size) (h8 : 2 ≤ c) : HSt w g c i t sure len false D (fun j => j = c) := by
  unfold HSt; rw [if_neg (by simp)]; exact ⟨h1, d, h2, h3, h4, h5, h6, h7, h8, fun j => Iff.rfl⟩
/-- What Keep, Sync or Turn comes to: it went well (then the chest is as 'ok' says), was refused, or the power is gone. -/
def HPost (g c i t sure len : Nat) (on : Bool) (D E : Nat → Prop) (ok : Nat × Nat × Nat) (w : World) (r : Ending) (w' : World) : Prop :=
  ∃ (e : Nat) (on' : Bool) (q : Nat × Nat × Nat) (D' E' : Nat → Prop), r = .returned (.int .i64 (e : Int)) ∧ HSt w' g c (i + 1) q.1 q.2.1 q.2.2 on' D' E' ∧ (∀ j, D' j → Dn D w w' j) ∧ (∀ j, E' j → Dn E w w' j) ∧ Turn (fun j => D j ∨ E j) w w' ∧
    ((on = true ∧ on' = true ∧ e = 0 ∧ q = ok) ∨ (on = true ∧ on' = true ∧ (e = 4 ∨ e = 18) ∧ q = (t, sure, len)) ∨ (on' = false ∧ e = 20 ∧ q = (t, sure, len)))
theorem KOn.len {d : Dr} {k : Ck} {sure : Nat} (h : KOn d k sure) : k.L.length ≤ 12 := Nat.le_trans (secsS_ge k.t k.L 0) h.cg.iv.room
theorem hoff_any {w : World} {g c i t sure len : Nat} {D E : Nat → Prop} (ok : Nat × Nat × Nat) (h : HSt w g c i t sure len false D E) : KGn w c ∧ HPost g c i t sure len false D E ok w (.returned (.int .i64 20)) w := by
  unfold HSt at h
  rw [if_neg (by simp)] at h
  obtain ⟨h1, d, h2, h3, h4, h5, h6, h7, h8, h9⟩ := h
  exact ⟨h5, 20, false, (t, sure, len), D, fun j => j = c, rfl, HSt.no (by omega) h2 h3 h4 h5 h6 h7 h8, fun j hj => .inl hj, fun j hj => .inl ((h9 j).2 hj), Turn.refl _ _, .inr (.inr ⟨rfl, rfl, rfl⟩)⟩
set_option maxHeartbeats 4000000 in
theorem hkeep_any (w : World) (g c i t sure len : Nat) (on : Bool) (D E : Nat → Prop) (A : Option Addr) (cb : Nat) (b : List B8) (h : HSt w g c i t sure len on D E) (hi : i ≤ 50) (hs : SlN w (fun j => D j ∨ E j) A (b.map bv)) (hA : A = none → cb = 0) (hc : b.length ≤ cb) (hlen : b.length ≤ 900000) :
    Calls Tryd.prog 15 #[.pointer (some ⟨c, 0, none⟩), .slice A b.length cb] w (HPost g c i t sure len on D E (t, sure, len + 1) w) := by
  cases on with
  | false =>
    obtain ⟨kg, hp⟩ := hoff_any (t, sure, len + 1) h
    refine (kkeep_gone c A cb b.length w kg).mono ?_
    rintro r w' ⟨rfl, hw⟩
    rw [hw]; exact hp
  | true =>
    unfold HSt at h
    rw [if_pos rfl] at h
    obtain ⟨ht, d, k, ka, ko, hkt, hkl, hW⟩ := h
    have h12 := ko.len
    have hoff := ko.off
    obtain ⟨p1, p2⟩ := ko.keep b (by unfold mostS; omega)
    refine (kkeep_any w g c 24 d k D E A cb b ka (by omega) hs hA hc (by omega) (by omega) (by omega)).mono ?_
    rintro r w' ⟨D', E', rfl, h1, h2, h3, hpost⟩
    rcases hpost with ⟨h0, ka'⟩ | ⟨hp, ka'⟩ | ⟨hp, hq, ld', kg, hcD, hcl⟩
    · have hp0 : (k.scr (24 / 2)).pre b = 0 := by
        by_cases hq : (k.scr (24 / 2)).pre b = 0
        · exact hq
        · unfold Scr.putE at h0; rw [if_pos hq] at h0; exact absurd h0 hq
      obtain ⟨q1, q2, q3⟩ := put_power (s := k.scr (24 / 2)) ka.ld.ok hoff ka.ok.fin hp0
      have hf := ka.ok.fin
      have q3 : (k.scr (24 / 2)).pos + secsOf ((k.scr (24 / 2)).form b) ≤ k.fin (24 / 2) := q3
      exact ⟨0, true, (t, sure, len + 1), D', E', by rw [h0], HSt.yes (by show t ≤ _; omega) ka' (p2 h0) hkt (by show (k.L ++ [b]).length = len + 1; rw [List.length_append, List.length_singleton]; omega) (by omega), h1, h2, h3, .inl ⟨rfl, rfl, rfl, rfl⟩⟩
    · have hE : (k.scr (24 / 2)).putE d b = (k.scr (24 / 2)).pre b := by unfold Scr.putE; rw [if_pos hp]
      have hv : (k.scr (24 / 2)).pre b = 4 ∨ (k.scr (24 / 2)).pre b = 18 := (ck_pre ka.ok b).resolve_left hp
      exact ⟨(k.scr (24 / 2)).pre b, true, (t, sure, len), D', E', by rw [hE], HSt.yes (by show t ≤ _; omega) ka' ko hkt hkl (by omega), h1, h2, h3, .inr (.inl ⟨rfl, rfl, hv, rfl⟩)⟩
    · obtain ⟨q1, -, -⟩ := put_power (s := k.scr (24 / 2)) ka.ld.ok hoff ka.ok.fin hq
      rcases q1 with ⟨q, -⟩ | ⟨q, q'⟩
      · exact absurd q hp
      · refine ⟨20, false, (t, sure, len), D', fun j => j = c, by rw [q], HSt.no (by show t ≤ _; omega) ld' q' (by rw [← hkt]; exact p1) kg hcD hcl (ka.two c ka.own), h1, fun j hj => .inl (by have hj : j = c := hj; rw [hj]; exact ka.own), h3, .inr (.inr ⟨rfl, rfl, rfl⟩)⟩
set_option maxHeartbeats 4000000 in
theorem hsync_any (w : World) (g c i t sure len : Nat) (on : Bool) (D E : Nat → Prop) (h : HSt w g c i t sure len on D E) :
    Calls Tryd.prog 16 #[.pointer (some ⟨c, 0, none⟩)] w (HPost g c i t sure len on D E (t, len, len) w) := by
  cases on with
  | false =>
    obtain ⟨kg, hp⟩ := hoff_any (t, len, len) h
    refine (ksync_gone c w kg).mono ?_
    rintro r w' ⟨rfl, hw⟩
    rw [hw]; exact hp
  | true =>
    unfold HSt at h
    rw [if_pos rfl] at h
    obtain ⟨ht, d, k, ka, ko, hkt, hkl, hW⟩ := h
    obtain ⟨p1, p2⟩ := ko.sync
    refine (ksync_any w g c 24 d k D E ka).mono ?_
    rintro r w' ⟨D', rfl, h1, h3, hpost⟩
    rcases hpost with ⟨h0, ka'⟩ | ⟨h0, ld', kg, hcD, hcl⟩
    · obtain ⟨k1, k2⟩ := p2 h0
      exact ⟨0, true, (t, len, len), D', E, by rw [h0], HSt.yes (by show t ≤ _; omega) ka' (by show KOn _ _ len; rw [← hkl]; exact k1) hkt hkl (by rw [k2]; exact Nat.zero_le _), h1, fun j hj => .inl hj, h3, .inl ⟨rfl, rfl, rfl, rfl⟩⟩
    · rcases sync_power ko.off with ⟨q, -⟩ | ⟨q, q'⟩
      · exact absurd q h0
      · exact ⟨20, false, (t, sure, len), D', fun j => j = c, by rw [q], HSt.no (by show t ≤ _; omega) ld' q' (by rw [← hkt]; exact p1) kg hcD hcl (ka.two c ka.own), h1, fun j hj => .inl (by have hj : j = c := hj; rw [hj]; exact ka.own), h3, .inr (.inr ⟨rfl, rfl, rfl⟩)⟩
set_option maxHeartbeats 4000000 in
theorem hturn_any (w : World) (g c i t sure len : Nat) (on : Bool) (D E : Nat → Prop) (A : Option Addr) (cb : Nat) (b : List B8) (h : HSt w g c i t sure len on D E) (hi : i ≤ 50) (hs : SlN w (fun j => D j ∨ E j) A (b.map bv)) (hA : A = none → cb = 0) (hc : b.length ≤ cb) (hlen : b.length ≤ 900000) :
    Calls Tryd.prog 18 #[.pointer (some ⟨c, 0, none⟩), .slice A b.length cb] w (HPost g c i t sure len on D E (t + 1, 1, 1) w) := by
  cases on with
  | false =>
    obtain ⟨kg, hp⟩ := hoff_any (t + 1, 1, 1) h
    refine (kturn_gone c A cb b.length w kg).mono ?_
    rintro r w' ⟨rfl, hw⟩
    rw [hw]; exact hp
  | true =>
    unfold HSt at h
    rw [if_pos rfl] at h
    obtain ⟨ht, d, k, ka, ko, hkt, hkl, hW⟩ := h
    have hoff := ko.off
    refine (kturn_any w g c 24 k d D E A cb b ka hoff (by omega) hs hA hc (by omega) (by omega)).mono ?_
    rintro r w' ⟨D', E', h1, h2, h3, hpost⟩
    rcases hpost with ⟨h0, rfl, ka'⟩ | ⟨h0, rfl, hq⟩
    · have hv : turnP k (24 / 2) b = 4 ∨ turnP k (24 / 2) b = 18 := by
        unfold turnP at h0 ⊢
        rcases formE_vals (t := k.t + 1) (n := 0) (by unfold mostS; omega) (by unfold mostS; omega) b with e | e
        · have e : formE13 ((k.t + 1 : Nat) : Int) 0 b = 0 := e
          rw [if_neg (by rw [e]; simp)] at h0 ⊢
          split at h0
          · rename_i h9; rw [if_pos h9]; exact .inr rfl
          · exact absurd rfl h0
        · have e : formE13 ((k.t + 1 : Nat) : Int) 0 b = 4 := e
          rw [if_pos (by rw [e]; simp), e]
          exact .inl rfl
      exact ⟨turnP k (24 / 2) b, true, (t, sure, len), D', E', rfl, HSt.yes (by show t ≤ _; omega) ka' ko hkt hkl (by omega), h1, h2, h3, .inr (.inl ⟨rfl, rfl, hv, rfl⟩)⟩
    · obtain ⟨p1, p2⟩ := ko.turn b (by omega) h0
      rcases hq with ⟨hq, ka'⟩ | ⟨hq, ld', kg, hcD, hcl⟩
      · obtain ⟨k1, k2⟩ := p2 hq
        exact ⟨0, true, (t + 1, 1, 1), D', E', by rw [hq], HSt.yes (by show t + 1 ≤ _; omega) ka' k1 (by show k.t + 1 = t + 1; omega) rfl (by rw [k2]; exact Nat.zero_le _), h1, h2, h3, .inl ⟨rfl, rfl, rfl, rfl⟩⟩
      · have hE : formE13 ((k.t + 1 : Nat) : Int) ((0 : Nat) : Int) b = 0 := by
          unfold turnP at h0
          by_cases hq : formE13 ((k.t + 1 : Nat) : Int) 0 b ≠ 0
          · rw [if_pos hq] at h0; exact absurd h0 hq
          · exact Decidable.not_not.1 hq
        have hr : secsOf (formV13 ((k.t + 1 : Nat) : Int) ((0 : Nat) : Int) b) ≤ 24 / 2 := by
          unfold turnP at h0
          rw [if_neg (show ¬ (formE13 ((k.t + 1 : Nat) : Int) 0 b ≠ 0) from fun h => h hE)] at h0
          by_cases hq : 24 / 2 < secsOf (formV13 ((k.t + 1 : Nat) : Int) 0 b)
          · rw [if_pos hq] at h0; cases h0
          · have : ¬ 24 / 2 < secsOf (formV13 ((k.t + 1 : Nat) : Int) ((0 : Nat) : Int) b) := hq
            omega
        obtain ⟨l1, l2⟩ := layR_power (p := (1 - k.a) * (24 / 2)) (m := 24 / 2) (t := k.t + 1) ka.ld.ok hoff (by omega) hE hr
        have e : turnR d k (24 / 2) b = layR d ((1 - k.a) * (24 / 2)) (24 / 2) (k.t + 1) b := rfl
        rw [← e] at l1 l2
        rcases l1 with ⟨q, -⟩ | ⟨q, q'⟩
        · exact absurd q hq
        · exact ⟨20, false, (t, sure, len), D', fun j => j = c, by rw [q], HSt.no (by show t ≤ _; omega) ld' q' (by rw [← hkt]; exact p1) kg hcD hcl (ka.two c ka.own), h1, fun j hj => .inl (by have hj : j = c := hj; rw [hj]; exact ka.own), h3, .inr (.inr ⟨rfl, rfl, rfl⟩)⟩
/-- A fuse laid: nothing else turns. -/
theorem KAt.lay {w w' : World} {g c n : Nat} {d d' : Dr} {k : Ck} {D E : Nat → Prop} (h : KAt w g c n d k D E) (ld : LD w' g n d' D) (tt : Turn D w w') : KAt w' g c n d' k D E := by
  obtain ⟨-, ok, ⟨s, hd, Ah, ch, NV, o, vs, h1, h2, h3, h4, h5, h6, h7, h8, h9, h10, h11⟩, own, two, dj, lt⟩ := h
  exact ⟨ld, ok, ⟨s, hd, Ah, ch, NV, o, vs, h1.turn tt (dj c own), sbp_keep h2 tt (fun j hj => by have hj : j = s := hj; rw [hj]; exact dj s h10), h3, h4.turn tt (fun _ h => .inl h) (fun _ _ h => h), h5, h6, ownsO_turn h7 tt (fun j hj => dj j (h11 j hj).1), h8.turn tt (fun _ h => .inl h) (fun _ _ h => h), h9, h10, h11⟩, own, two, dj, fun j hj => Nat.lt_of_lt_of_le (lt j hj) tt.size⟩
theorem hfuse_any (w : World) (g c i t sure len : Nat) (on : Bool) (D E : Nat → Prop) (a : Int) (ha : a < 9223372036854775808) (h : HSt w g c i t sure len on D E) :
    Calls Tryd.prog 20 #[.pointer (some ⟨g, 0, none⟩), .int .i64 a] w fun r w' => (∃ v, r = .returned v) ∧ HSt w' g c (i + 1) t sure len on D E ∧ Turn D w w' := by
  unfold HSt at h
  cases on with
  | false =>
    rw [if_neg (by simp)] at h
    obtain ⟨h1, d, h2, h3, h4, ⟨PS, half, a', t', H, NV, h5⟩, h6, h7, h8, h9⟩ := h
    refine (h2.fuse a ha).mono ?_
    rintro r w' ⟨hr, ld, tt⟩
    refine ⟨hr, ?_, tt⟩
    unfold HSt
    rw [if_neg (by simp)]
    exact ⟨by omega, _, ld, h3, h4.lay a, ⟨PS, half, a', t', H, NV, h5.turn tt h6⟩, h6, Nat.lt_of_lt_of_le h7 tt.size, h8, h9⟩
  | true =>
    rw [if_pos rfl] at h
    obtain ⟨ht, d, k, ka, ko, hkt, hkl, hW⟩ := h
    refine (ka.ld.fuse a ha).mono ?_
    rintro r w' ⟨hr, ld, tt⟩
    exact ⟨hr, HSt.yes (by omega) (ka.lay ld tt) (ko.lay a) hkt hkl (by show d.W.length ≤ _; omega), tt⟩
end
section
set_option linter.unusedVariables false
set_option linter.unusedSimpArgs false
open Go.RowKit
set_option maxRecDepth 100000
/-- The drum behind a start. -/
def BSt (w : World) (g i t sure : Nat) (D : Nat → Prop) (d : Dr) : Prop := LD w g 24 d D ∧ OnD d 24 ∧ d.W = [] ∧ KOff d t sure ∧ t ≤ 1 + i
theorem hstart_any (w : World) (g c i t sure len : Nat) (on : Bool) (D E : Nat → Prop) (A : Option Addr) (cM : Nat) (M : List B8) (h : HSt w g c i t sure len on D E) (hM : SlN w D A (M.map bv)) (hMl : M.length ≤ maxLen) :
    Calls Tryd.prog 22 #[.pointer (some ⟨g, 0, none⟩), .slice A M.length cM] w fun r w' => (∃ v, r = .returned v) ∧ (∃ d, BSt w' g i t sure D d) ∧ Turn D w w' := by
  unfold HSt at h
  have key : ∃ d, LD w g 24 d D ∧ KOff d t sure ∧ t ≤ 1 + i := by
    cases on with
    | true =>
      rw [if_pos rfl] at h
      obtain ⟨ht, d, k, ka, ko, hkt, hkl, hW⟩ := h
      exact ⟨d, ka.ld, by rw [← hkt]; exact ko.any, ht⟩
    | false =>
      rw [if_neg (by simp)] at h
      obtain ⟨ht, d, h2, h3, h4, -⟩ := h
      exact ⟨d, h2, h4, ht⟩
  obtain ⟨d, ld, ko, ht⟩ := key
  refine (ld.start A cM M hM hMl).mono ?_
  rintro r w' ⟨hr, ld', tt⟩
  exact ⟨hr, ⟨d.start M, ld', ⟨ld'.ok, rfl, rfl⟩, rfl, ko.start M, ht⟩, tt⟩
theorem BSt.quiet {w w' : World} {g i t sure : Nat} {D : Nat → Prop} {d : Dr} (h : BSt w g i t sure D d) (tt : Turn (fun _ => False) w w') : BSt w' g i t sure D d := ⟨h.1.quiet tt, h.2⟩
/-- What the document's Find tells then. -/
theorem BSt.found {w : World} {g i t sure : Nat} {D : Nat → Prop} {d : Dr} (h : BSt w g i t sure D d) :
    t ≤ (findS (cutD d 0 24)).1 ∧ ((findS (cutD d 0 24)).1 = t → sure ≤ (findS (cutD d 0 24)).2.length) ∧ (findS (cutD d 0 24)).2.length ≤ 12 ∧ ∀ x ∈ (findS (cutD d 0 24)).2, x.length ≤ 65524 := by
  obtain ⟨ld, on, hW, ⟨a, S, si, hS, w0, w1⟩, ht⟩ := h
  obtain ⟨t1, t2, t3, t4⟩ := keeps_told si w0 w1 on
  obtain ⟨f1, f2, f3, f4⟩ := keeps_find si w0 w1 on.off
  have hlen : (cutD d ((fnd d 24).1 * (24 / 2)) (24 / 2)).length = 64 * 12 := cutD_len on.ok _ 12 (by show (fnd d 24).1 * 12 + 12 ≤ 24; omega)
  obtain ⟨s1, s2, s3, s4⟩ := scan_back (fnd d 24).2 _ (cutD d ((fnd d 24).1 * (24 / 2)) (24 / 2)) 0 (Nat.le_refl _)
  have s5 := scanN_le (fnd d 24).2 _ (cutD d ((fnd d 24).1 * (24 / 2)) (24 / 2)) 0 (Nat.le_refl _)
  rw [hlen] at s5
  have s6 := secsS_ge (fnd d 24).2 (scanN (cutD d ((fnd d 24).1 * (24 / 2)) (24 / 2)) (fnd d 24).2 0).1 0
  refine ⟨t1, fun e => by rw [← hS]; exact t2 e, by rw [t4]; omega, fun x hx => ?_⟩
  rw [t4] at hx
  obtain ⟨j, hj, e⟩ := List.getElem_of_mem hx
  have := (s3 j hj).1
  rw [e, fldS_len] at this
  omega
theorem nf_self {d : Dr} (h : d.fuse = 0) : d.nf = d := by
  obtain ⟨L, W, f, o⟩ := d
  have h : f = 0 := h
  subst h
  rfl
/-- Open behind a start: the chest that Find tells; if its turn is one of the law's, all of it is sure. -/
theorem hopen_any (w : World) (g i t sure : Nat) (D : Nat → Prop) (d : Dr) (h : BSt w g i t sure D d) (hi : i ≤ 50) :
    Calls Tryd.prog 11 #[.pointer (some ⟨g, 0, none⟩)] w fun r w' => ∃ c d' k' D' E', r = .returned (.tuple #[.pointer (some ⟨c, 0, none⟩), .int .i64 0]) ∧ KAt w' g c 24 d' k' D' E' ∧ CG d' 24 k' ∧ k'.t = (findS (cutD d 0 24)).1 ∧ k'.L = (findS (cutD d 0 24)).2 ∧
      ((findS (cutD d 0 24)).1 ≤ 1 + i → HSt w' g c (i + 1) (findS (cutD d 0 24)).1 (findS (cutD d 0 24)).2.length (findS (cutD d 0 24)).2.length true D' E') ∧ (∀ j, D' j → Dn D w w' j) ∧ (∀ j, E' j → w.heap.size ≤ j) ∧ Turn D w w' := by
  obtain ⟨ld, on, hW, ⟨a, S, si, hS, w0, w1⟩, ht⟩ := h
  obtain ⟨t1, t2, t3, t4⟩ := keeps_told si w0 w1 on
  have tp := si.pos
  obtain ⟨o1, o2, o3, o4, o5⟩ := opened_on on (by omega) (show 1 ≤ (fnd d 24).2 by omega)
  refine (kopen_any w g 24 d D ld on.off (by omega) (by omega) (by rw [hW]; show 0 + 24 / 2 + 1024 < 10000; omega)).mono ?_
  rintro r w' ⟨D', h1, h2, hpost⟩
  rcases hpost with ⟨-, c, E', h3, h4, h5⟩ | ⟨h0, -⟩
  · refine ⟨c, (begR d 24).1, begK d 24, D', E', h3, h4, o2, by rw [o4, t3], by rw [o5, t4], fun hT => ?_, h1, fun j hj => (h5 j hj).1, h2⟩
    obtain ⟨k1, k2, k3, k4, k5, k6, k7, k8⟩ := keeps_open si w0 w1 on hW (by omega)
    refine HSt.yes (by omega) h4 ⟨?_, ?_, ?_, k7, k8⟩ k4 (by rw [k5]) (by omega)
    · rw [nf_self k2.iv.on.fuse]; exact k2
    · rw [← k5, List.take_length]; exact k6
    · rw [k5]; exact Nat.le_refl _
  · exact absurd o1 h0
/-- A new chest on a new drum. -/
theorem HSt.first {w : World} {g c : Nat} {D E : Nat → Prop} {d : Dr} {k : Ck} (ka : KAt w g c 24 d k D E) (cg : CG d 24 k) (ht : k.t = 1) (hL : k.L = [[]]) (ha : k.a = 0) (hW : d.W = []) (w0 : WI d 0) (w1 : WI d 1) : HSt w g c 0 1 1 1 true D E := by
  have iv := cg.iv
  refine HSt.yes (by omega) ka ⟨by rw [nf_self iv.on.fuse]; exact cg, ?_, by rw [hL]; exact Nat.le_refl _, w0, w1⟩ ht (by rw [hL]; rfl) (by rw [hW]; exact Nat.zero_le _)
  rw [hL] at iv ⊢
  exact ⟨iv.on.ok, cg.a, iv.room, iv.cut, fun w hw => (by rw [hW] at hw; cases hw), by omega, iv.lens, by omega, by omega, Nat.le_refl _⟩
end
end Go.Proofs.YtajdcekkmikbcaaDoor
