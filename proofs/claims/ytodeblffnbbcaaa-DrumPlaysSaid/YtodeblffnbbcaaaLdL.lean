/- The walk of DrumFuse. -/
import Derived.Test.YtodeblffnbbcaaaLdK
set_option linter.unusedVariables false
namespace Go.Proofs.Ytodeblffnbbcaaa
open Go.RowKit
theorem write_few (d : Dr) (a : Int) (b : Sec) : (d.write a b).W.length ≤ d.W.length + 1 := by
  unfold Dr.write Dr.burn
  split
  · omega
  · split <;> simp
theorem sync_few (d : Dr) : d.sync.W.length ≤ d.W.length := by
  unfold Dr.sync Dr.burn Dr.land
  split
  · omega
  · split <;> simp
theorem Fus.more {k n : Nat} {d : Dr} (h : Fus k n d) : d.off = decide (0 < k ∧ k ≤ n) := h.off
set_option maxRecDepth 100000 in
set_option maxHeartbeats 2000000 in
theorem fuse_walk (a : Nat) (A : Option Addr) (c : Nat) (l : List Bool) (w : World) (ha : a < 256) (hl : Sl w w.heap.size A (l.map bov)) (hm : l.length ≤ maxLen) :
    Calls Try.prog 6 #[.int .u8 (a : Int), .slice A l.length c] w fun r w' => r = .returned (.bool true) ∧ Below w.heap.size w w' := by
  have HAW := Lib.hid awake_any
  unfold maxLen at hm
  by_cases h40 : 40 < l.length
  · go_enter Try.func6, Try.ntmps6
    go_wp2_with (go_at_call 8; refine (HAW.out _).mono ?_; rintro r w1 ⟨rfl, h1⟩; have H1 := Lib.hid h1; clear h1)
    go_ret
    exact ⟨rfl, H1.out.below (fun i _ h => h) (Nat.le_refl _)⟩
  obtain ⟨k, hk⟩ : ∃ k, k = a % 21 := ⟨_, rfl⟩
  have hk21 : k < 21 := by omega
  have hrem : ((a : Int)).tmod 21 = (k : Int) := by rw [Int.tmod_eq_emod_of_nonneg (by omega)]; omega
  have HL := Lib.hid hl
  have HN := Lib.hid (LS.new w w 2 (by omega) (by omega) (Turn.refl _ _))
  clear hl hk
  go_enter Try.func6, Try.ntmps6
  go_wp2_with (first
    | (go_at_call 7; refine HN.out.mono ?_; rintro r w1 ⟨g, rfl, h1⟩; have H1 := Lib.hid h1; clear h1 HN)
    | (go_at_call 14; refine (H1.out.fuse (k : Int) (by omega)).mono ?_; rintro r w2 ⟨⟨v2, rfl⟩, h2, -⟩; have H2 := Lib.hid h2; clear h2 H1))
  have hf0 : Fus k 0 ((Dr.new 2).lay (k : Int)) := Fus.new k
  have HF0 := Lib.hid hf0
  clear hf0
  go_loopw [7, 8] (fun dn i wr => ∃ (m : Nat) (d : Dr), m ≤ l.length ∧ dn = .int .i64 (m : Int) ∧ i = .int .i64 (m : Int) ∧ LS w wr g 2 d ∧ Fus k m d ∧ d.W.length ≤ m) (fun _ i _ => l.length - (intOf i).toNat)
  case atStart => exact ⟨0, _, Nat.zero_le _, rfl, rfl, H2.out, HF0.out, by simp [Dr.lay, Dr.new]⟩
  case round =>
    obtain ⟨m, d, hml, rfl, rfl, hs, hf, hw⟩ := hrel
    have HS := Lib.hid hs
    have HF := Lib.hid hf
    clear hs hf
    by_cases hlt : m < l.length
    · obtain ⟨ad, rfl, hab, hac⟩ := HL.out m (bov l[m]) (by simp [hlt])
      have hcell : wr.cell? (ad.add m) = some (.bool l[m]) := HS.out.2.cell hac (by rw [add_block]; omega)
      clear hac
      have hbm : ∃ b, l[m] = b := ⟨_, rfl⟩
      obtain ⟨b, hb⟩ := hbm
      rw [hb] at hcell
      clear hb
      have HLT := Lib.hid hlt
      by_cases h0 : k = 0
      · cases b with
        | true =>
          have hk0 : ((k : Int) == 0) = true := by rw [beq_iff_eq]; omega
          have hE : fuseE k m = 0 := by unfold fuseE; rw [if_pos (.inl h0)]
          have HOFF := Lib.hid (fun (d' : Dr) (h : Fus k (m + 1) d') => show d'.off = false from by rw [h.off]; rw [decide_eq_false]; omega)
          have HC := Lib.hid (show Calls Try.prog 12 #[.pointer (some ⟨g, 0, none⟩)] wr fun r w' => r = .returned (.int .i64 0) ∧ ∃ d', LS w w' g 2 d' ∧ Fus k (m + 1) d' ∧ d'.W.length ≤ m + 1 from by
            have q := HS.out.sync
            rw [HF.out.sync.1, hE] at q
            refine q.mono ?_
            rintro r w' ⟨rfl, h, -⟩
            exact ⟨rfl, _, h, HF.out.sync.2, Nat.le_trans (sync_few _) (by omega)⟩)
          clear hE h0
          go_wp2_with (first | (go_at_call 21; have hon := H3.out.on; rw [HOFF.out _ F3.out] at hon; refine hon.mono ?_; clear hon; rintro r w4 ⟨rfl, hw4⟩; rw [hw4]; clear hw4 w4) | (go_at_call 12; refine HC.out.mono ?_; rintro r w3 ⟨rfl, d3, h3, f3, n3⟩; have H3 := Lib.hid h3; have F3 := Lib.hid f3; have N3 := Lib.hid n3; clear h3 f3 n3))
          exact ⟨⟨m + 1, d3, by omega, by go_num, by go_num, H3.out, F3.out, N3.out⟩, by simp [intOf]; omega⟩
        | false =>
          have hk0 : ((k : Int) == 0) = true := by rw [beq_iff_eq]; omega
          have hE : fuseE k m = 0 := by unfold fuseE; rw [if_pos (.inl h0)]
          have HOFF := Lib.hid (fun (d' : Dr) (h : Fus k (m + 1) d') => show d'.off = false from by rw [h.off]; rw [decide_eq_false]; omega)
          have HC := Lib.hid (show ∀ (w2 : World) (A2 : Option Addr) (c2 : Nat), Turn (fun _ => False) wr w2 → SlN w2 (Since w wr) A2 ((fullS (BitVec.ofNat 8 m)).map bv) → Calls Try.prog 10 #[.pointer (some ⟨g, 0, none⟩), .int .i64 0, .slice A2 (fullS (BitVec.ofNat 8 m)).length c2] w2 fun r w' => r = .returned (.int .i64 0) ∧ ∃ d', LS w w' g 2 d' ∧ Fus k (m + 1) d' ∧ d'.W.length ≤ m + 1 from by
            intro w2 A2 c2 t2 hA2
            have hl64 : (fullS (BitVec.ofNat 8 m)).length = 64 := by simp [fullS]
            have q := HS.out.write t2 0 A2 c2 _ hA2 (by rw [hl64]; unfold maxLen; omega) (by omega)
            rw [(HF.out.write _ hl64).1, hE] at q
            refine q.mono ?_
            rintro r w' ⟨rfl, h, -⟩
            exact ⟨rfl, _, h, (HF.out.write _ hl64).2, Nat.le_trans (write_few _ _ _) (by omega)⟩)
          have HFU := Lib.hid (full_any (BitVec.ofNat 8 m) wr)
          rw [show ((BitVec.ofNat 8 m).toNat : Int) = (m : Int) from by rw [BitVec.toNat_ofNat]; omega] at HFU
          clear hE h0
          go_wp2_with (first | (go_at_call 21; have hon := H3.out.on; rw [HOFF.out _ F3.out] at hon; refine hon.mono ?_; clear hon; rintro r w4 ⟨rfl, hw4⟩; rw [hw4]; clear hw4 w4) | (go_at_call 23; refine HFU.out.mono ?_; rintro r w2 ⟨v2, rfl, hv, t2⟩; obtain ⟨A2, c2, rfl, hA2⟩ := full_sl hv (Since w wr) since_lt; have HA2 := Lib.hid hA2; have T2 := Lib.hid t2; clear hv hA2 t2) | (go_at_call 10; refine (HC.out w2 A2 c2 T2.out HA2.out).mono ?_; rintro r w3 ⟨rfl, d3, h3, f3, n3⟩; have H3 := Lib.hid h3; have F3 := Lib.hid f3; have N3 := Lib.hid n3; clear h3 f3 n3))
          exact ⟨⟨m + 1, d3, by omega, by go_num, by go_num, H3.out, F3.out, N3.out⟩, by simp [intOf]; omega⟩
      obtain ⟨k1, hk1'⟩ : ∃ k1, k = k1 + 1 := ⟨k - 1, by omega⟩
      by_cases h1 : m < k1
      · cases b with
        | true =>
          have hk0 : ((k : Int) == 0) = false := by rw [beq_eq_false_iff_ne]; omega
          have q1 : (m : Int) < (k : Int) - 1 := by omega
          have q2 : decide ((m : Int) < (k : Int) - 1) = true := decide_eq_true q1
          have hE : fuseE k m = 0 := by unfold fuseE; rw [if_pos (.inr (by omega))]
          have HOFF := Lib.hid (fun (d' : Dr) (h : Fus k (m + 1) d') => show d'.off = false from by rw [h.off]; rw [decide_eq_false]; omega)
          have HC := Lib.hid (show Calls Try.prog 12 #[.pointer (some ⟨g, 0, none⟩)] wr fun r w' => r = .returned (.int .i64 0) ∧ ∃ d', LS w w' g 2 d' ∧ Fus k (m + 1) d' ∧ d'.W.length ≤ m + 1 from by
            have q := HS.out.sync
            rw [HF.out.sync.1, hE] at q
            refine q.mono ?_
            rintro r w' ⟨rfl, h, -⟩
            exact ⟨rfl, _, h, HF.out.sync.2, Nat.le_trans (sync_few _) (by omega)⟩)
          clear hE hk1'
          go_wp2_with (first | (go_at_call 21; have hon := H3.out.on; rw [HOFF.out _ F3.out] at hon; refine hon.mono ?_; clear hon; rintro r w4 ⟨rfl, hw4⟩; rw [hw4]; clear hw4 w4) | (go_at_call 12; refine HC.out.mono ?_; rintro r w3 ⟨rfl, d3, h3, f3, n3⟩; have H3 := Lib.hid h3; have F3 := Lib.hid f3; have N3 := Lib.hid n3; clear h3 f3 n3))
          exact ⟨⟨m + 1, d3, by omega, by go_num, by go_num, H3.out, F3.out, N3.out⟩, by simp [intOf]; omega⟩
        | false =>
          have hk0 : ((k : Int) == 0) = false := by rw [beq_eq_false_iff_ne]; omega
          have q1 : (m : Int) < (k : Int) - 1 := by omega
          have q2 : decide ((m : Int) < (k : Int) - 1) = true := decide_eq_true q1
          have hE : fuseE k m = 0 := by unfold fuseE; rw [if_pos (.inr (by omega))]
          have HOFF := Lib.hid (fun (d' : Dr) (h : Fus k (m + 1) d') => show d'.off = false from by rw [h.off]; rw [decide_eq_false]; omega)
          have HC := Lib.hid (show ∀ (w2 : World) (A2 : Option Addr) (c2 : Nat), Turn (fun _ => False) wr w2 → SlN w2 (Since w wr) A2 ((fullS (BitVec.ofNat 8 m)).map bv) → Calls Try.prog 10 #[.pointer (some ⟨g, 0, none⟩), .int .i64 0, .slice A2 (fullS (BitVec.ofNat 8 m)).length c2] w2 fun r w' => r = .returned (.int .i64 0) ∧ ∃ d', LS w w' g 2 d' ∧ Fus k (m + 1) d' ∧ d'.W.length ≤ m + 1 from by
            intro w2 A2 c2 t2 hA2
            have hl64 : (fullS (BitVec.ofNat 8 m)).length = 64 := by simp [fullS]
            have q := HS.out.write t2 0 A2 c2 _ hA2 (by rw [hl64]; unfold maxLen; omega) (by omega)
            rw [(HF.out.write _ hl64).1, hE] at q
            refine q.mono ?_
            rintro r w' ⟨rfl, h, -⟩
            exact ⟨rfl, _, h, (HF.out.write _ hl64).2, Nat.le_trans (write_few _ _ _) (by omega)⟩)
          have HFU := Lib.hid (full_any (BitVec.ofNat 8 m) wr)
          rw [show ((BitVec.ofNat 8 m).toNat : Int) = (m : Int) from by rw [BitVec.toNat_ofNat]; omega] at HFU
          clear hE hk1'
          go_wp2_with (first | (go_at_call 21; have hon := H3.out.on; rw [HOFF.out _ F3.out] at hon; refine hon.mono ?_; clear hon; rintro r w4 ⟨rfl, hw4⟩; rw [hw4]; clear hw4 w4) | (go_at_call 23; refine HFU.out.mono ?_; rintro r w2 ⟨v2, rfl, hv, t2⟩; obtain ⟨A2, c2, rfl, hA2⟩ := full_sl hv (Since w wr) since_lt; have HA2 := Lib.hid hA2; have T2 := Lib.hid t2; clear hv hA2 t2) | (go_at_call 10; refine (HC.out w2 A2 c2 T2.out HA2.out).mono ?_; rintro r w3 ⟨rfl, d3, h3, f3, n3⟩; have H3 := Lib.hid h3; have F3 := Lib.hid f3; have N3 := Lib.hid n3; clear h3 f3 n3))
          exact ⟨⟨m + 1, d3, by omega, by go_num, by go_num, H3.out, F3.out, N3.out⟩, by simp [intOf]; omega⟩
      by_cases h2 : m = k1
      · cases b with
        | true =>
          subst h2
          have hk0 : ((k : Int) == 0) = false := by rw [beq_eq_false_iff_ne]; omega
          have q2 : decide ((m : Int) < (k : Int) - 1) = false := decide_eq_false (by omega)
          have q3 : ((m : Int) == (k : Int) - 1) = true := by rw [beq_iff_eq]; omega
          have q4 : decide ((k : Int) - 1 < (m : Int)) = false := decide_eq_false (by omega)
          have hE : fuseE k m = 20 := by unfold fuseE; rw [if_neg (by omega), if_pos (by omega)]
          have HOFF := Lib.hid (fun (d' : Dr) (h : Fus k (m + 1) d') => show d'.off = true from by rw [h.off]; rw [decide_eq_true]; omega)
          have HC := Lib.hid (show Calls Try.prog 12 #[.pointer (some ⟨g, 0, none⟩)] wr fun r w' => r = .returned (.int .i64 20) ∧ ∃ d', LS w w' g 2 d' ∧ Fus k (m + 1) d' ∧ d'.W.length ≤ m + 1 from by
            have q := HS.out.sync
            rw [HF.out.sync.1, hE] at q
            refine q.mono ?_
            rintro r w' ⟨rfl, h, -⟩
            exact ⟨rfl, _, h, HF.out.sync.2, Nat.le_trans (sync_few _) (by omega)⟩)
          clear hE hk1'
          go_wp2_with (first | (go_at_call 21; have hon := H3.out.on; rw [HOFF.out _ F3.out] at hon; refine hon.mono ?_; clear hon; rintro r w4 ⟨rfl, hw4⟩; rw [hw4]; clear hw4 w4) | (go_at_call 12; refine HC.out.mono ?_; rintro r w3 ⟨rfl, d3, h3, f3, n3⟩; have H3 := Lib.hid h3; have F3 := Lib.hid f3; have N3 := Lib.hid n3; clear h3 f3 n3))
          exact ⟨⟨m + 1, d3, by omega, by go_num, by go_num, H3.out, F3.out, N3.out⟩, by simp [intOf]; omega⟩
        | false =>
          subst h2
          have hk0 : ((k : Int) == 0) = false := by rw [beq_eq_false_iff_ne]; omega
          have q2 : decide ((m : Int) < (k : Int) - 1) = false := decide_eq_false (by omega)
          have q3 : ((m : Int) == (k : Int) - 1) = true := by rw [beq_iff_eq]; omega
          have q4 : decide ((k : Int) - 1 < (m : Int)) = false := decide_eq_false (by omega)
          have hE : fuseE k m = 20 := by unfold fuseE; rw [if_neg (by omega), if_pos (by omega)]
          have HOFF := Lib.hid (fun (d' : Dr) (h : Fus k (m + 1) d') => show d'.off = true from by rw [h.off]; rw [decide_eq_true]; omega)
          have HC := Lib.hid (show ∀ (w2 : World) (A2 : Option Addr) (c2 : Nat), Turn (fun _ => False) wr w2 → SlN w2 (Since w wr) A2 ((fullS (BitVec.ofNat 8 m)).map bv) → Calls Try.prog 10 #[.pointer (some ⟨g, 0, none⟩), .int .i64 0, .slice A2 (fullS (BitVec.ofNat 8 m)).length c2] w2 fun r w' => r = .returned (.int .i64 20) ∧ ∃ d', LS w w' g 2 d' ∧ Fus k (m + 1) d' ∧ d'.W.length ≤ m + 1 from by
            intro w2 A2 c2 t2 hA2
            have hl64 : (fullS (BitVec.ofNat 8 m)).length = 64 := by simp [fullS]
            have q := HS.out.write t2 0 A2 c2 _ hA2 (by rw [hl64]; unfold maxLen; omega) (by omega)
            rw [(HF.out.write _ hl64).1, hE] at q
            refine q.mono ?_
            rintro r w' ⟨rfl, h, -⟩
            exact ⟨rfl, _, h, (HF.out.write _ hl64).2, Nat.le_trans (write_few _ _ _) (by omega)⟩)
          have HFU := Lib.hid (full_any (BitVec.ofNat 8 m) wr)
          rw [show ((BitVec.ofNat 8 m).toNat : Int) = (m : Int) from by rw [BitVec.toNat_ofNat]; omega] at HFU
          clear hE hk1'
          go_wp2_with (first | (go_at_call 21; have hon := H3.out.on; rw [HOFF.out _ F3.out] at hon; refine hon.mono ?_; clear hon; rintro r w4 ⟨rfl, hw4⟩; rw [hw4]; clear hw4 w4) | (go_at_call 23; refine HFU.out.mono ?_; rintro r w2 ⟨v2, rfl, hv, t2⟩; obtain ⟨A2, c2, rfl, hA2⟩ := full_sl hv (Since w wr) since_lt; have HA2 := Lib.hid hA2; have T2 := Lib.hid t2; clear hv hA2 t2) | (go_at_call 10; refine (HC.out w2 A2 c2 T2.out HA2.out).mono ?_; rintro r w3 ⟨rfl, d3, h3, f3, n3⟩; have H3 := Lib.hid h3; have F3 := Lib.hid f3; have N3 := Lib.hid n3; clear h3 f3 n3))
          exact ⟨⟨m + 1, d3, by omega, by go_num, by go_num, H3.out, F3.out, N3.out⟩, by simp [intOf]; omega⟩
      · cases b with
        | true =>
          have hk0 : ((k : Int) == 0) = false := by rw [beq_eq_false_iff_ne]; omega
          have q2 : decide ((m : Int) < (k : Int) - 1) = false := decide_eq_false (by omega)
          have q3 : ((m : Int) == (k : Int) - 1) = false := by rw [beq_eq_false_iff_ne]; omega
          have q4 : decide ((k : Int) - 1 < (m : Int)) = true := decide_eq_true (by omega)
          have hE : fuseE k m = 21 := by unfold fuseE; rw [if_neg (by omega), if_neg (by omega)]
          have HOFF := Lib.hid (fun (d' : Dr) (h : Fus k (m + 1) d') => show d'.off = true from by rw [h.off]; rw [decide_eq_true]; omega)
          have HC := Lib.hid (show Calls Try.prog 12 #[.pointer (some ⟨g, 0, none⟩)] wr fun r w' => r = .returned (.int .i64 21) ∧ ∃ d', LS w w' g 2 d' ∧ Fus k (m + 1) d' ∧ d'.W.length ≤ m + 1 from by
            have q := HS.out.sync
            rw [HF.out.sync.1, hE] at q
            refine q.mono ?_
            rintro r w' ⟨rfl, h, -⟩
            exact ⟨rfl, _, h, HF.out.sync.2, Nat.le_trans (sync_few _) (by omega)⟩)
          clear hE hk1'
          go_wp2_with (first | (go_at_call 21; have hon := H3.out.on; rw [HOFF.out _ F3.out] at hon; refine hon.mono ?_; clear hon; rintro r w4 ⟨rfl, hw4⟩; rw [hw4]; clear hw4 w4) | (go_at_call 12; refine HC.out.mono ?_; rintro r w3 ⟨rfl, d3, h3, f3, n3⟩; have H3 := Lib.hid h3; have F3 := Lib.hid f3; have N3 := Lib.hid n3; clear h3 f3 n3))
          exact ⟨⟨m + 1, d3, by omega, by go_num, by go_num, H3.out, F3.out, N3.out⟩, by simp [intOf]; omega⟩
        | false =>
          have hk0 : ((k : Int) == 0) = false := by rw [beq_eq_false_iff_ne]; omega
          have q2 : decide ((m : Int) < (k : Int) - 1) = false := decide_eq_false (by omega)
          have q3 : ((m : Int) == (k : Int) - 1) = false := by rw [beq_eq_false_iff_ne]; omega
          have q4 : decide ((k : Int) - 1 < (m : Int)) = true := decide_eq_true (by omega)
          have hE : fuseE k m = 21 := by unfold fuseE; rw [if_neg (by omega), if_neg (by omega)]
          have HOFF := Lib.hid (fun (d' : Dr) (h : Fus k (m + 1) d') => show d'.off = true from by rw [h.off]; rw [decide_eq_true]; omega)
          have HC := Lib.hid (show ∀ (w2 : World) (A2 : Option Addr) (c2 : Nat), Turn (fun _ => False) wr w2 → SlN w2 (Since w wr) A2 ((fullS (BitVec.ofNat 8 m)).map bv) → Calls Try.prog 10 #[.pointer (some ⟨g, 0, none⟩), .int .i64 0, .slice A2 (fullS (BitVec.ofNat 8 m)).length c2] w2 fun r w' => r = .returned (.int .i64 21) ∧ ∃ d', LS w w' g 2 d' ∧ Fus k (m + 1) d' ∧ d'.W.length ≤ m + 1 from by
            intro w2 A2 c2 t2 hA2
            have hl64 : (fullS (BitVec.ofNat 8 m)).length = 64 := by simp [fullS]
            have q := HS.out.write t2 0 A2 c2 _ hA2 (by rw [hl64]; unfold maxLen; omega) (by omega)
            rw [(HF.out.write _ hl64).1, hE] at q
            refine q.mono ?_
            rintro r w' ⟨rfl, h, -⟩
            exact ⟨rfl, _, h, (HF.out.write _ hl64).2, Nat.le_trans (write_few _ _ _) (by omega)⟩)
          have HFU := Lib.hid (full_any (BitVec.ofNat 8 m) wr)
          rw [show ((BitVec.ofNat 8 m).toNat : Int) = (m : Int) from by rw [BitVec.toNat_ofNat]; omega] at HFU
          clear hE hk1'
          go_wp2_with (first | (go_at_call 21; have hon := H3.out.on; rw [HOFF.out _ F3.out] at hon; refine hon.mono ?_; clear hon; rintro r w4 ⟨rfl, hw4⟩; rw [hw4]; clear hw4 w4) | (go_at_call 23; refine HFU.out.mono ?_; rintro r w2 ⟨v2, rfl, hv, t2⟩; obtain ⟨A2, c2, rfl, hA2⟩ := full_sl hv (Since w wr) since_lt; have HA2 := Lib.hid hA2; have T2 := Lib.hid t2; clear hv hA2 t2) | (go_at_call 10; refine (HC.out w2 A2 c2 T2.out HA2.out).mono ?_; rintro r w3 ⟨rfl, d3, h3, f3, n3⟩; have H3 := Lib.hid h3; have F3 := Lib.hid f3; have N3 := Lib.hid n3; clear h3 f3 n3))
          exact ⟨⟨m + 1, d3, by omega, by go_num, by go_num, H3.out, F3.out, N3.out⟩, by simp [intOf]; omega⟩
    · obtain rfl : m = l.length := by omega
      clear hlt
      have hstart : (d.start []).off = false ∧ (d.start []).syncE = 0 ∧ (d.start []).Ok 2 := ⟨rfl, by unfold Dr.syncE; rfl, HF.out.ok.start _⟩
      obtain ⟨d5, hd5⟩ : ∃ d5, d5 = d.start [] := ⟨_, rfl⟩
      rw [← hd5] at hstart
      obtain ⟨so, ss, sk⟩ := hstart
      have SO := Lib.hid so
      have SS := Lib.hid ss
      have hST := HS.out
      have HST := Lib.hid (fun (wq : World) (h : LS w wq g 2 d) => hd5 ▸ h.start (Turn.refl _ _) none 0 [] (fun j u hu => by simp at hu) (by unfold maxLen; simp))
      clear so ss hd5
      obtain ⟨N, hN⟩ : ∃ N, N = l.length := ⟨_, rfl⟩
      rw [← hN] at HF hm h40
      by_cases hoff : 0 < k ∧ k ≤ N
      · have hE : d.readE 0 = 21 := by unfold Dr.readE; rw [if_pos (by rw [HF.out.off, decide_eq_true hoff])]
        have HE := Lib.hid hE
        have t1 : decide ((0 : Int) < (k : Int)) = true := decide_eq_true (by omega)
        have t2 : decide ((k : Int) ≤ (l.length : Int)) = true := decide_eq_true (by omega)
        have t3 : decide (k ≤ l.length) = true := decide_eq_true (by omega)
        have t4 : decide (0 < k) = true := decide_eq_true (by omega)
        clear hoff hE hN
        go_wp2_with (first
          | (go_at_call 18; have hrd := HS.out.read 0; rw [HE.out] at hrd; refine hrd.mono ?_; clear hrd; rintro r w6 ⟨v, rfl, -, h6, -⟩; have H6 := Lib.hid h6; clear h6)
          | (go_at_call 16; refine (HST.out _ H6.out).mono ?_; rintro r w7 ⟨⟨v7, rfl⟩, h7, -⟩; have H7 := Lib.hid h7; clear h7)
          | (go_at_call 21; have hon := H7.out.on; rw [SO.out] at hon; refine hon.mono ?_; clear hon; rintro r w8 ⟨rfl, hw8⟩; rw [hw8]; clear hw8 w8)
          | (go_at_call 12; have hsy := H7.out.sync; rw [SS.out] at hsy; refine hsy.mono ?_; clear hsy; rintro r w9 ⟨rfl, h9, -⟩; have H9 := Lib.hid h9; clear h9)
          | (go_at_call 8; refine (HAW.out _).mono ?_; rintro r wa ⟨rfl, ha⟩; have HA := Lib.hid ha; clear ha))
        go_ret
        exact ⟨rfl, (H9.out.2.trans HA.out (fun i hi h => Nat.le_trans H9.out.2.size h)).below (fun i _ h => h) (Nat.le_refl _)⟩
      · have hE : d.readE 0 = 0 := by
          unfold Dr.readE
          rw [if_neg (by rw [HF.out.off, decide_eq_false hoff]; simp), HF.out.ok.len]; rfl
        have HE := Lib.hid hE
        by_cases h0 : k = 0
        · have t1 : decide ((0 : Int) < (k : Int)) = false := decide_eq_false (by omega)
          have t4 : decide (0 < k) = false := decide_eq_false (by omega)
          clear hoff hE hN h0
          go_wp2_with (first
            | (go_at_call 18; have hrd := HS.out.read 0; rw [HE.out] at hrd; refine hrd.mono ?_; clear hrd; rintro r w6 ⟨v, rfl, -, h6, -⟩; have H6 := Lib.hid h6; clear h6)
            | (go_at_call 16; refine (HST.out _ H6.out).mono ?_; rintro r w7 ⟨⟨v7, rfl⟩, h7, -⟩; have H7 := Lib.hid h7; clear h7)
            | (go_at_call 21; have hon := H7.out.on; rw [SO.out] at hon; refine hon.mono ?_; clear hon; rintro r w8 ⟨rfl, hw8⟩; rw [hw8]; clear hw8 w8)
            | (go_at_call 12; have hsy := H7.out.sync; rw [SS.out] at hsy; refine hsy.mono ?_; clear hsy; rintro r w9 ⟨rfl, h9, -⟩; have H9 := Lib.hid h9; clear h9)
            | (go_at_call 8; refine (HAW.out _).mono ?_; rintro r wa ⟨rfl, ha⟩; have HA := Lib.hid ha; clear ha))
          go_ret
          exact ⟨rfl, (H9.out.2.trans HA.out (fun i hi h => Nat.le_trans H9.out.2.size h)).below (fun i _ h => h) (Nat.le_refl _)⟩
        · have t1 : decide ((0 : Int) < (k : Int)) = true := decide_eq_true (by omega)
          have t2 : decide ((k : Int) ≤ (l.length : Int)) = false := decide_eq_false (by omega)
          have t3 : decide (k ≤ l.length) = false := decide_eq_false (by omega)
          have t4 : decide (0 < k) = true := decide_eq_true (by omega)
          clear hoff hE hN h0
          go_wp2_with (first
            | (go_at_call 18; have hrd := HS.out.read 0; rw [HE.out] at hrd; refine hrd.mono ?_; clear hrd; rintro r w6 ⟨v, rfl, -, h6, -⟩; have H6 := Lib.hid h6; clear h6)
            | (go_at_call 16; refine (HST.out _ H6.out).mono ?_; rintro r w7 ⟨⟨v7, rfl⟩, h7, -⟩; have H7 := Lib.hid h7; clear h7)
            | (go_at_call 21; have hon := H7.out.on; rw [SO.out] at hon; refine hon.mono ?_; clear hon; rintro r w8 ⟨rfl, hw8⟩; rw [hw8]; clear hw8 w8)
            | (go_at_call 12; have hsy := H7.out.sync; rw [SS.out] at hsy; refine hsy.mono ?_; clear hsy; rintro r w9 ⟨rfl, h9, -⟩; have H9 := Lib.hid h9; clear h9)
            | (go_at_call 8; refine (HAW.out _).mono ?_; rintro r wa ⟨rfl, ha⟩; have HA := Lib.hid ha; clear ha))
          go_ret
          exact ⟨rfl, (H9.out.2.trans HA.out (fun i hi h => Nat.le_trans H9.out.2.size h)).below (fun i _ h => h) (Nat.le_refl _)⟩
end Go.Proofs.Ytodeblffnbbcaaa
