/- Merged: A drum as plain functions (no program is named here): its sectors as they are sure, what waits, its fuse, whether it is off; and what the statements of layer 12 want of these functions. -/
import Derived.Test.YtajdcekkmikbcaaDoorM01
namespace Go.Proofs.YtajdcekkmikbcaaDoor
section

abbrev Sec := List B8
structure Dr where
  L : List Sec
  W : List (Nat × Sec)
  fuse : Nat
  off : Bool

def tornS (was to : Sec) (m : B8) : Sec := (List.range 64).map fun k => if m.getLsbD (k / 8) then to.getD k 0 else was.getD k 0
def landL : List Sec → List (Nat × Sec) → List B8 → List Sec
  | L, [], _ => L
  | L, w :: W, M => landL (L.set w.1 (tornS (L.getD w.1 []) w.2 (M.headD 255))) W M.tail
def nowS (k : Nat) (b : Sec) (W : List (Nat × Sec)) : Sec := W.foldl (fun b w => if w.1 = k then w.2 else b) b
def Dr.new (n : Nat) : Dr := ⟨List.replicate n (zeros 64), [], 0, false⟩
def Dr.now (d : Dr) (k : Nat) : Sec := nowS k (d.L.getD k []) d.W
def Dr.readE (d : Dr) (a : Int) : Nat := if d.off = true then 21 else if 0 ≤ a ∧ a < d.L.length then 0 else 5
def Dr.readV (d : Dr) (a : Int) : Sec := if d.readE a = 0 then d.now a.toNat else []
def Dr.burn (d : Dr) : Dr := { d with fuse := d.fuse - 1, off := d.off || d.fuse == 1 }
def Dr.writeE (d : Dr) (a : Int) (b : Sec) : Nat := if d.readE a ≠ 0 then d.readE a else if b.length ≠ 64 then 1 else if d.fuse = 1 then 20 else 0
def Dr.write (d : Dr) (a : Int) (b : Sec) : Dr :=
  if d.readE a ≠ 0 ∨ b.length ≠ 64 then d else if d.fuse = 1 then d.burn else { d.burn with W := d.W ++ [(a.toNat, b)] }
def Dr.syncE (d : Dr) : Nat := if d.off = true then 21 else if d.fuse = 1 then 20 else 0
def Dr.land (d : Dr) (M : List B8) : Dr := { d with L := landL d.L d.W M, W := [] }
def Dr.sync (d : Dr) : Dr := if d.off = true then d else if d.fuse = 1 then d.burn else d.burn.land []
def Dr.start (d : Dr) (M : List B8) : Dr := { d.land M with fuse := 0, off := false }
def Dr.lay (d : Dr) (n : Int) : Dr := { d with fuse := n.toNat }
def Dr.fail (d : Dr) : Dr := { d with off := true }
/-- Sectors are of 64 bytes; what waits lies on the drum. -/
structure Dr.Ok (d : Dr) (n : Nat) : Prop where
  len : d.L.length = n
  sec : ∀ s ∈ d.L, s.length = 64
  wait : ∀ w ∈ d.W, w.1 < n ∧ w.2.length = 64

set_option maxRecDepth 100000 in
theorem tornS_len (was to : Sec) (m : B8) : (tornS was to m).length = 64 := by simp [tornS]
set_option maxRecDepth 100000 in
theorem tornS_at (was to : Sec) (m : B8) (k : Nat) (h : k < 64) : (tornS was to m)[k]? = some (if m.getLsbD (k / 8) then to.getD k 0 else was.getD k 0) := by
  simp [tornS, h]
set_option maxRecDepth 100000 in
theorem tornS_all (was to : Sec) (h : to.length = 64) : tornS was to 255 = to := by
  apply List.ext_getElem?
  intro k
  by_cases hk : k < 64
  · rw [tornS_at _ _ _ _ hk]
    have : (255 : B8).getLsbD (k / 8) = true := by
      have : k / 8 < 8 := by omega
      generalize k / 8 = j at *
      have hj : j = 0 ∨ j = 1 ∨ j = 2 ∨ j = 3 ∨ j = 4 ∨ j = 5 ∨ j = 6 ∨ j = 7 := by omega
      rcases hj with rfl | rfl | rfl | rfl | rfl | rfl | rfl | rfl <;> rfl
    rw [this, if_pos rfl, List.getElem?_eq_getElem (by omega), List.getD_eq_getElem?_getD, List.getElem?_eq_getElem (by omega)]; rfl
  · rw [List.getElem?_eq_none (by rw [tornS_len]; omega), List.getElem?_eq_none (by omega)]
set_option maxRecDepth 100000 in
theorem landL_len (W : List (Nat × Sec)) : ∀ (L : List Sec) (M : List B8), (landL L W M).length = L.length := by
  induction W with
  | nil => intro L M; rfl
  | cons w W ih => intro L M; rw [landL, ih, List.length_set]
set_option maxRecDepth 100000 in
theorem landL_sec (W : List (Nat × Sec)) : ∀ (L : List Sec) (M : List B8), (∀ s ∈ L, s.length = 64) → ∀ s ∈ landL L W M, s.length = 64 := by
  induction W with
  | nil => intro L M h; exact h
  | cons w W ih =>
    intro L M h
    rw [landL]
    refine ih _ _ fun s hs => ?_
    rcases List.mem_or_eq_of_mem_set hs with h1 | rfl
    · exact h s h1
    · exact tornS_len _ _ _
set_option maxRecDepth 100000 in
theorem Dr.Ok.new (n : Nat) : (Dr.new n).Ok n := ⟨by simp [Dr.new], fun s hs => by simp [Dr.new] at hs; rw [hs.2]; simp [zeros], fun w hw => by simp [Dr.new] at hw⟩
set_option maxRecDepth 100000 in
theorem Dr.Ok.land {d : Dr} {n : Nat} (h : d.Ok n) (M : List B8) : (d.land M).Ok n := ⟨(landL_len _ _ _).trans h.len, landL_sec _ _ _ h.sec, fun w hw => by simp [Dr.land] at hw⟩
set_option maxRecDepth 100000 in
theorem Dr.Ok.burn {d : Dr} {n : Nat} (h : d.Ok n) : d.burn.Ok n := ⟨h.len, h.sec, h.wait⟩
set_option maxRecDepth 100000 in
theorem Dr.Ok.start {d : Dr} {n : Nat} (h : d.Ok n) (M : List B8) : (d.start M).Ok n := ⟨(h.land M).len, (h.land M).sec, (h.land M).wait⟩
set_option maxRecDepth 100000 in
theorem Dr.Ok.sync {d : Dr} {n : Nat} (h : d.Ok n) : d.sync.Ok n := by
  unfold Dr.sync; split
  · exact h
  · split
    · exact h.burn
    · exact h.burn.land _
set_option maxRecDepth 100000 in
theorem Dr.readE_ok {d : Dr} {n : Nat} (h : d.Ok n) {a : Int} (he : d.readE a = 0) : d.off = false ∧ 0 ≤ a ∧ a.toNat < n := by
  unfold Dr.readE at he
  rw [h.len] at he
  split at he
  · cases he
  · split at he
    · rename_i h1 h2; exact ⟨by simpa using h1, h2.1, by omega⟩
    · cases he
set_option maxRecDepth 100000 in
theorem Dr.Ok.write {d : Dr} {n : Nat} (h : d.Ok n) (a : Int) (b : Sec) : (d.write a b).Ok n := by
  unfold Dr.write; split
  · exact h
  · rename_i hn
    rw [not_or] at hn
    obtain ⟨h1, h2⟩ := hn
    split
    · exact h.burn
    · refine ⟨h.len, h.sec, fun w hw => ?_⟩
      rcases List.mem_append.1 hw with h3 | h3
      · exact h.wait w h3
      · rw [List.mem_singleton] at h3; subst h3
        exact ⟨(Dr.readE_ok h (by simpa using h1)).2.2, by simpa using h2⟩
set_option maxRecDepth 100000 in
theorem nowS_cons (k : Nat) (b : Sec) (w : Nat × Sec) (W : List (Nat × Sec)) : nowS k b (w :: W) = nowS k (if w.1 = k then w.2 else b) W := rfl
set_option maxRecDepth 100000 in
theorem nowS_len (k : Nat) (W : List (Nat × Sec)) : ∀ b : Sec, b.length = 64 → (∀ w ∈ W, w.2.length = 64) → (nowS k b W).length = 64 := by
  induction W with
  | nil => intro b h _; exact h
  | cons w W ih =>
    intro b h hW
    rw [nowS, List.foldl_cons]
    refine ih _ ?_ fun w' hw' => hW w' (List.mem_cons_of_mem _ hw')
    split
    · exact hW w (List.mem_cons_self ..)
    · exact h
set_option maxRecDepth 100000 in
theorem Dr.now_len {d : Dr} {n : Nat} (h : d.Ok n) (k : Nat) (hk : k < n) : (d.now k).length = 64 := by
  refine nowS_len _ _ _ ?_ fun w hw => (h.wait w hw).2
  rw [List.getD_eq_getElem?_getD, List.getElem?_eq_getElem (by rw [h.len]; exact hk)]
  exact h.sec _ (List.getElem_mem _)
set_option maxRecDepth 100000 in
/-- What waits lands whole: then it reads as before. -/
theorem landL_now (k : Nat) (W : List (Nat × Sec)) : ∀ L : List Sec, (∀ w ∈ W, w.1 < L.length ∧ w.2.length = 64) → (landL L W []).getD k [] = nowS k (L.getD k []) W := by
  induction W with
  | nil => intro L _; rfl
  | cons w W ih =>
    intro L h
    obtain ⟨h1, h2⟩ := h w (List.mem_cons_self ..)
    rw [landL]
    change (landL (L.set w.1 (tornS _ w.2 255)) W []).getD k [] = _
    rw [tornS_all _ _ h2, ih _ fun w' hw' => by rw [List.length_set]; exact h w' (List.mem_cons_of_mem _ hw')]
    rw [nowS_cons]
    congr 1
    rw [List.getD_eq_getElem?_getD, List.getElem?_set]
    split
    · rfl
    · rw [List.getD_eq_getElem?_getD]
set_option maxRecDepth 100000 in
theorem Dr.now_land {d : Dr} {n : Nat} (h : d.Ok n) (k : Nat) : (d.land []).now k = d.now k :=
  landL_now k d.W d.L fun w hw => by rw [h.len]; exact h.wait w hw
set_option maxRecDepth 100000 in
theorem Dr.now_write {d : Dr} {a : Int} {b : Sec} (he : d.writeE a b = 0) (k : Nat) : (d.write a b).now k = if a.toNat = k then b else d.now k := by
  unfold Dr.writeE at he; unfold Dr.write
  split at he
  · contradiction
  · rename_i h1
    split at he
    · cases he
    · rename_i h2
      split at he
      · cases he
      · rename_i h3
        rw [if_neg (by rw [not_or]; exact ⟨h1, h2⟩), if_neg h3]
        simp only [Dr.now, Dr.burn, nowS, List.foldl_append, List.foldl_cons, List.foldl_nil]
set_option maxRecDepth 100000 in
theorem Dr.now_sync {d : Dr} {n : Nat} (h : d.Ok n) (he : d.syncE = 0) (k : Nat) : d.sync.now k = d.now k := by
  unfold Dr.syncE at he; unfold Dr.sync
  split at he
  · cases he
  · rename_i h1
    split at he
    · cases he
    · rename_i h2
      rw [if_neg h1, if_neg h2]
      exact Dr.now_land (d := d.burn) h.burn k
set_option maxRecDepth 100000 in
theorem Dr.now_start {d : Dr} {n : Nat} (h : d.Ok n) (k : Nat) : (d.start []).now k = d.now k := Dr.now_land h k

/- WHAT IS SURE STAYS (pure). -/
/- WHAT IS DONE TO ONE SECTOR (pure). -/
/-- Both are on, without a fuse; sector 4 reads alike; the other one's sector 3 is blank. -/
structure Two (d o : Dr) : Prop where
  okd : d.Ok 6
  oko : o.Ok 6
  fd : d.fuse = 0
  fo : o.fuse = 0
  nd : d.off = false
  no : o.off = false
  four : d.now 4 = o.now 4
  three : o.now 3 = zeros 64
set_option maxRecDepth 100000 in
theorem Two.new : Two (Dr.new 6) (Dr.new 6) := ⟨.new 6, .new 6, rfl, rfl, rfl, rfl, rfl, rfl⟩
set_option maxRecDepth 100000 in
theorem on_writeE {d : Dr} (h : d.Ok 6) (hf : d.fuse = 0) (hn : d.off = false) (a : Nat) (ha : a < 6) (b : Sec) (hb : b.length = 64) : d.writeE (a : Int) b = 0 := by
  unfold Dr.writeE Dr.readE
  rw [h.len]
  simp [hf, hn, hb]; omega
set_option maxRecDepth 100000 in
theorem on_write {d : Dr} (hf : d.fuse = 0) (hn : d.off = false) (a : Nat) (b : Sec) : (d.write (a : Int) b).fuse = 0 ∧ (d.write (a : Int) b).off = false := by
  unfold Dr.write Dr.burn
  split
  · exact ⟨hf, hn⟩
  · split <;> simp [hf, hn]
set_option maxRecDepth 100000 in
theorem on_sync {d : Dr} (hf : d.fuse = 0) (hn : d.off = false) : d.syncE = 0 ∧ d.sync.fuse = 0 ∧ d.sync.off = false := by
  unfold Dr.syncE Dr.sync Dr.burn Dr.land
  simp [hf, hn]
set_option maxRecDepth 100000 in
theorem Two.write {d o : Dr} (h : Two d o) (a : Nat) (ha : a < 6) (b : Sec) (hb : b.length = 64) : Two (d.write (a : Int) b) (if a = 4 then o.write (a : Int) b else o) := by
  have hd := on_write h.fd h.nd a b
  have ho := on_write h.fo h.no a b
  have ed := on_writeE h.okd h.fd h.nd a ha b hb
  have eo := on_writeE h.oko h.fo h.no a ha b hb
  by_cases h4 : a = 4
  · rw [if_pos h4]
    refine ⟨h.okd.write _ _, h.oko.write _ _, hd.1, ho.1, hd.2, ho.2, ?_, ?_⟩
    · rw [Dr.now_write ed, Dr.now_write eo]; simp [h4]
    · rw [Dr.now_write eo, if_neg (by simp; omega)]; exact h.three
  · rw [if_neg h4]
    refine ⟨h.okd.write _ _, h.oko, hd.1, h.fo, hd.2, h.no, ?_, h.three⟩
    rw [Dr.now_write ed, if_neg (by simp; omega)]; exact h.four
set_option maxRecDepth 100000 in
theorem Two.sync {d o : Dr} (h : Two d o) : Two d.sync o.sync := by
  have hd := on_sync h.fd h.nd
  have ho := on_sync h.fo h.no
  exact ⟨h.okd.sync, h.oko.sync, hd.2.1, ho.2.1, hd.2.2, ho.2.2, by rw [Dr.now_sync h.okd hd.1, Dr.now_sync h.oko ho.1]; exact h.four, by rw [Dr.now_sync h.oko ho.1]; exact h.three⟩
set_option maxRecDepth 100000 in
theorem Two.start {d o : Dr} (h : Two d o) : Two (d.start []) (o.start []) :=
  ⟨h.okd.start _, h.oko.start _, rfl, rfl, rfl, rfl, by rw [Dr.now_start h.okd, Dr.now_start h.oko]; exact h.four, by rw [Dr.now_start h.oko]; exact h.three⟩

/- A FUSE (pure). -/
/-- The drum of DrumFuse behind n calls, with a fuse of k. -/
structure Fus (k n : Nat) (d : Dr) : Prop where
  ok : d.Ok 2
  fuse : d.fuse = k - n
  off : d.off = decide (0 < k ∧ k ≤ n)
set_option maxRecDepth 100000 in
theorem Fus.new (k : Nat) : Fus k 0 ((Dr.new 2).lay (k : Int)) := by
  refine ⟨⟨(Dr.Ok.new 2).len, (Dr.Ok.new 2).sec, (Dr.Ok.new 2).wait⟩, by simp [Dr.lay], ?_⟩
  simp [Dr.lay, Dr.new]; omega
/-- What a call answers: 0 while the fuse isn't at its end, then 20 once, then 21. -/
def fuseE (k n : Nat) : Nat := if k = 0 ∨ n < k - 1 then 0 else if n = k - 1 then 20 else 21
set_option maxRecDepth 100000 in
theorem Fus.off_yes {k n : Nat} {d : Dr} (h : Fus k n d) (hx : 0 < k ∧ k ≤ n) : d.off = true ∧ fuseE k n = 21 ∧ Fus k (n + 1) d := by
  have h2 : d.off = true := by rw [h.off]; simpa using hx
  refine ⟨h2, ?_, h.ok, by rw [h.fuse]; omega, by rw [h2]; symm; simp; omega⟩
  unfold fuseE; rw [if_neg (by omega), if_neg (by omega)]
set_option maxRecDepth 100000 in
theorem Fus.off_one {k n : Nat} {d : Dr} (h : Fus k n d) (hx : ¬ (0 < k ∧ k ≤ n)) (hf : d.fuse = 1) : d.off = false ∧ fuseE k n = 20 ∧ Fus k (n + 1) d.burn := by
  have h1 := h.fuse
  have h2 : d.off = false := by rw [h.off]; simpa using hx
  refine ⟨h2, ?_, h.ok.burn, by simp only [Dr.burn]; omega, ?_⟩
  · unfold fuseE; rw [if_neg (by omega), if_pos (by omega)]
  · simp only [Dr.burn, h2, hf]; symm; simp; omega
set_option maxRecDepth 100000 in
theorem Fus.off_no {k n : Nat} {d : Dr} (h : Fus k n d) (hx : ¬ (0 < k ∧ k ≤ n)) (hf : ¬ d.fuse = 1) : d.off = false ∧ fuseE k n = 0 ∧ d.burn.fuse = k - (n + 1) ∧ d.burn.off = decide (0 < k ∧ k ≤ n + 1) := by
  have h1 := h.fuse
  have h2 : d.off = false := by rw [h.off]; simpa using hx
  refine ⟨h2, ?_, by simp only [Dr.burn]; omega, ?_⟩
  · unfold fuseE; rw [if_pos (by omega)]
  · simp only [Dr.burn, h2]
    rw [show (d.fuse == 1) = false by simpa using hf]
    symm; simp; omega
set_option maxRecDepth 100000 in
theorem Fus.sync {k n : Nat} {d : Dr} (h : Fus k n d) : d.syncE = fuseE k n ∧ Fus k (n + 1) d.sync := by
  unfold Dr.syncE Dr.sync
  by_cases hx : 0 < k ∧ k ≤ n
  · obtain ⟨h1, h2, h3⟩ := h.off_yes hx
    rw [if_pos h1, if_pos h1]; exact ⟨h2.symm, h3⟩
  · by_cases hf : d.fuse = 1
    · obtain ⟨h1, h2, h3⟩ := h.off_one hx hf
      have h0 : ¬ d.off = true := by simp [h1]
      rw [if_neg h0, if_neg h0, if_pos hf, if_pos hf]; exact ⟨h2.symm, h3⟩
    · obtain ⟨h1, h2, h3, h4⟩ := h.off_no hx hf
      have h0 : ¬ d.off = true := by simp [h1]
      rw [if_neg h0, if_neg h0, if_neg hf, if_neg hf]; exact ⟨h2.symm, h.ok.burn.land _, h3, h4⟩
set_option maxRecDepth 100000 in
theorem Fus.write {k n : Nat} {d : Dr} (h : Fus k n d) (b : Sec) (hb : b.length = 64) : d.writeE 0 b = fuseE k n ∧ Fus k (n + 1) (d.write 0 b) := by
  unfold Dr.writeE Dr.write
  have hr : d.readE 0 = if d.off = true then 21 else 0 := by
    unfold Dr.readE; rw [h.ok.len]; simp
  by_cases hx : 0 < k ∧ k ≤ n
  · obtain ⟨h1, h2, h3⟩ := h.off_yes hx
    rw [if_pos h1] at hr
    rw [hr, if_pos (by simp), if_pos (by simp)]; exact ⟨h2.symm, h3⟩
  · have h0 : ¬ d.off = true := by rw [h.off]; simpa using hx
    rw [if_neg h0] at hr
    have h8 : ¬ (0 ≠ 0 ∨ b.length ≠ 64) := by simp [hb]
    have h9 : ¬ b.length ≠ 64 := by simp [hb]
    have h7 : ¬ (0 ≠ 0) := by simp
    rw [hr, if_neg h7, if_neg h9, if_neg h8]
    by_cases hf : d.fuse = 1
    · obtain ⟨h1, h2, h3⟩ := h.off_one hx hf
      rw [if_pos hf, if_pos hf]; exact ⟨h2.symm, h3⟩
    · obtain ⟨h1, h2, h3, h4⟩ := h.off_no hx hf
      rw [if_neg hf, if_neg hf]
      refine ⟨h2.symm, ⟨h.ok.len, h.ok.sec, fun w hw => ?_⟩, h3, h4⟩
      rcases List.mem_append.1 hw with h5 | h5
      · exact h.ok.wait w h5
      · rw [List.mem_singleton] at h5; subst h5; exact ⟨by simp, hb⟩

/- THE DOCUMENT'S EXAMPLE. -/
end
end Go.Proofs.YtajdcekkmikbcaaDoor
