/- The document's eye: a field read, or the first error kept. -/
import Derived.Test.YtgjplbanfnomkaaFrE
import Derived.Test.YtgjplbanfnomkaaTxBase
import Derived.Test.YtgjplbanfnomkaaSmX
import Derived.Laws.ResultCell
import Derived.Laws.Rows
import Derived.Laws.Tables
set_option linter.unusedVariables false
set_option linter.unusedSimpArgs false
namespace Go.Proofs.Ytgjplbanfnomkaa
open Go.RowKit
set_option maxRecDepth 100000 in
theorem take_full (N : Nat → Prop) (A : Option Addr) (c n : Nat) (l : List B8) (hn : l.length = n) (f : Fd) (w : World) (hd : f.d.length = 32) (hk : f.k = 0 ∨ f.k = 1 ∨ f.k = 2) (hfn : f.n < 18446744073709551616) (hsN : SlN w N A (l.map bv)) (hA : A = none → c = 0) (hc : n ≤ c) (hm : n ≤ 1099511627776) :
    Calls Try.prog 58 #[.slice A n c, .agg f.cells.toArray] w fun r w' => ∃ g : Gt, r = .returned (.agg g.cells.toArray) ∧ g.f.d.length = 32 ∧ g.e = sE f l ∧ (sE f l ≠ 0 → g = Gx (sE f l)) ∧ (sE f l = 0 → GOk g f l ∧ GAt w N g ∧ (g.f.A = none → g.f.c = 0) ∧ g.f.b.length ≤ g.f.c) ∧ Turn (fun _ => False) w w' := by
  subst hn
  have hs : SlN w (fun _ => False) A (l.map bv) := fun j u hu => by
    obtain ⟨ad, e, -, hcl⟩ := hsN j u hu
    exact ⟨ad, e, fun h => h, hcl⟩
  by_cases h2 : f.k = 2
  · by_cases h32 : l.length < 32
    · refine (take_short A c l f w hd h2 h32).mono ?_
      rintro r w' ⟨rfl, t⟩
      have e : sE f l = 2 := by unfold sE; rw [if_pos h2, if_pos h32]
      exact ⟨Gx 2, rfl, rfl, e.symm, (fun _ => by rw [e]), (fun h => by rw [e] at h; cases h), t⟩
    · refine (take_id A c l f w hd h2 hs hc (by omega) hm).mono ?_
      rintro r w' ⟨rfl, t⟩
      have e : sE f l = 0 := by unfold sE; rw [if_pos h2, if_neg h32]
      refine ⟨_, rfl, by simp; omega, e.symm, (fun h => absurd e h), fun _ => ⟨⟨?_, ?_, ?_, ?_⟩, ⟨sln_cut hsN c 32 hc, by simp; omega, cut_none hA, fun j u h => by simp at h⟩, fun _ => rfl, Nat.zero_le _⟩, t⟩
      · unfold sN; rw [if_neg (by rw [h2]; decide)]
      · unfold sB; rw [if_neg (by rw [h2]; decide)]
      · unfold sD; rw [if_pos h2]
      · unfold sL; rw [if_pos h2]
  · have e0 : sE f l = if f.k = 0 then eNum f.n l else eText (f.n : Int) l := by unfold sE; rw [if_neg h2]
    by_cases hx : numE l = 0
    · by_cases hbig : f.n < numV l
      · refine (take_numg A c l f w hd h2 hfn hs hc hx (.inl hbig) hm).mono ?_
        rintro r w' ⟨rfl, t⟩
        have eg : takeG A c l f = Gx 5 := by unfold takeG; rw [if_neg (by rw [hx]; simp), if_pos hbig]
        have e : sE f l = 5 := by
          rw [e0]
          split
          · unfold eNum; rw [if_neg (by rw [hx]; simp), if_pos hbig]
          · unfold eText; rw [if_neg (by rw [hx]; simp), if_pos (.inr (by omega))]
        rw [eg]
        exact ⟨Gx 5, rfl, rfl, e.symm, (fun _ => by rw [e]), (fun h => by rw [e] at h; cases h), t⟩
      · by_cases h0 : f.k = 0
        · refine (take_numg A c l f w hd h2 hfn hs hc hx (.inr (.inl h0)) hm).mono ?_
          rintro r w' ⟨rfl, t⟩
          have eg : takeG A c l f = ⟨⟨0, numV l, none, 0, [], zeros 32⟩, 0, cutA A c (numK l), c - numK l, numR l⟩ := by unfold takeG; rw [if_neg (by rw [hx]; simp), if_neg hbig, if_pos h0]
          have e : sE f l = 0 := by rw [e0, if_pos h0]; unfold eNum; rw [if_neg (by rw [hx]; simp), if_neg hbig]
          rw [eg]
          refine ⟨_, rfl, by simp [zeros], e.symm, (fun h => absurd e h), fun _ => ⟨⟨?_, ?_, ?_, ?_⟩, ⟨by rw [numR_drop]; exact sln_cut hsN c _ hc, by show (numR l).length ≤ c - numK l; rw [numR_drop, List.length_drop]; omega, cut_none hA, fun j u h => by simp at h⟩, fun _ => rfl, Nat.zero_le _⟩, t⟩
          · unfold sN; rw [if_pos h0]
          · unfold sB; rw [if_neg (by rw [h0]; decide)]
          · unfold sD; rw [if_neg h2]
          · unfold sL; rw [if_neg h2, if_pos h0]
        · have h1 : f.k = 1 := by omega
          by_cases hsh : (numR l).length < numV l
          · refine (take_numg A c l f w hd h2 hfn hs hc hx (.inr (.inr hsh)) hm).mono ?_
            rintro r w' ⟨rfl, t⟩
            have eg : takeG A c l f = Gx 2 := by unfold takeG; rw [if_neg (by rw [hx]; simp), if_neg hbig, if_neg h0, if_pos hsh]
            have e : sE f l = 2 := by rw [e0, if_neg h0]; unfold eText; rw [if_neg (by rw [hx]; simp), if_neg (by omega), if_pos hsh]
            rw [eg]
            exact ⟨Gx 2, rfl, rfl, e.symm, (fun _ => by rw [e]), (fun h => by rw [e] at h; cases h), t⟩
          · refine (take_text A c l f w hd h1 hfn hs hc hx ⟨hbig, by omega⟩ hm).mono ?_
            rintro r w' ⟨rfl, t⟩
            have eg : takeG A c l f = ⟨⟨1, 0, cutA A c (numK l), c - numK l, (numR l).take (numV l), zeros 32⟩, 0, cutA (cutA A c (numK l)) (c - numK l) (numV l), c - numK l - numV l, (numR l).drop (numV l)⟩ := by unfold takeG; rw [if_neg (by rw [hx]; simp), if_neg hbig, if_neg h0, if_neg hsh]
            have e : sE f l = 0 := by rw [e0, if_neg h0]; unfold eText; rw [if_neg (by rw [hx]; simp), if_neg (by omega), if_neg hsh]
            have hr : (numR l).length ≤ c - numK l := by rw [numR_drop, List.length_drop]; omega
            have s1 : SlN w N (cutA A c (numK l)) ((numR l).map bv) := by rw [numR_drop]; exact sln_cut hsN c _ hc
            rw [eg]
            refine ⟨_, rfl, by simp [zeros], e.symm, (fun h => absurd e h), fun _ => ⟨⟨?_, ?_, ?_, ?_⟩, ⟨sln_cut s1 _ _ hr, by show ((numR l).drop (numV l)).length ≤ c - numK l - numV l; rw [List.length_drop]; omega, cut_none (cut_none hA), by rw [List.map_take]; exact s1.take _⟩, cut_none hA, by show ((numR l).take (numV l)).length ≤ c - numK l; rw [List.length_take]; omega⟩, t⟩
            · unfold sN; rw [if_neg h0]
            · unfold sB; rw [if_pos h1]
            · unfold sD; rw [if_neg h2]
            · unfold sL; rw [if_neg h2, if_neg h0]
    · refine (take_numx A c l f w hd h2 hs hx hm).mono ?_
      rintro r w' ⟨rfl, t⟩
      have e : sE f l = numE l := by
        rw [e0]
        split
        · unfold eNum; rw [if_pos hx]
        · unfold eText; rw [if_pos hx]
      exact ⟨Gx (numE l), rfl, rfl, e.symm, (fun _ => by rw [e]), (fun h => by rw [e] at h; exact absurd h hx), t⟩

abbrev FL (k : Int) (m : Nat) : Array Value := #[.int .i64 k, .int .u64 (m : Int), .slice none 0 0, Value.int .u8 0, Value.int .u8 0, Value.int .u8 0, Value.int .u8 0, Value.int .u8 0, Value.int .u8 0, Value.int .u8 0, Value.int .u8 0, Value.int .u8 0, Value.int .u8 0, Value.int .u8 0, Value.int .u8 0, Value.int .u8 0, Value.int .u8 0, Value.int .u8 0, Value.int .u8 0, Value.int .u8 0, Value.int .u8 0, Value.int .u8 0, Value.int .u8 0, Value.int .u8 0, Value.int .u8 0, Value.int .u8 0, Value.int .u8 0, Value.int .u8 0, Value.int .u8 0, Value.int .u8 0, Value.int .u8 0, Value.int .u8 0, Value.int .u8 0, Value.int .u8 0, Value.int .u8 0]
set_option maxRecDepth 100000 in
theorem FL_eq (k m : Nat) : (Fd.cells ⟨k, m, none, 0, [], zeros 32⟩).toArray = FL k m := rfl
def nE (e m : Nat) (l : List B8) : Nat := if e ≠ 0 then e else eNum m l
def tE (e m : Nat) (l : List B8) : Nat := if e ≠ 0 then e else eText (m : Int) l
def dE (e : Nat) (l : List B8) : Nat := if e ≠ 0 then e else if l.length < 32 then 2 else 0
set_option maxRecDepth 100000 in
theorem Gt.at (g : Gt) (C : Array Value) (hC : C = g.cells.toArray) (hd : g.f.d.length = 32) : C.size = 37 ∧ C.all (·.oneCell') = true ∧ C[1]? = some (.int .u64 (g.f.n : Int)) ∧ C[2]? = some (.slice g.f.A g.f.b.length g.f.c) ∧ C[35]? = some (.int .i64 (g.e : Int)) ∧ C[36]? = some (.slice g.A g.l.length g.c) := by
  have hl := g.len hd
  have hf := g.f.len hd
  refine ⟨by rw [hC, List.size_toArray, hl], by rw [hC]; exact g.one, ?_, ?_, ?_, ?_⟩
  · rw [hC]; rfl
  · rw [hC]; rfl
  · rw [hC, List.getElem?_toArray, Gt.cells, List.getElem?_append_right (by omega), hf]; rfl
  · rw [hC, List.getElem?_toArray, Gt.cells, List.getElem?_append_right (by omega), hf]; rfl
end Go.Proofs.Ytgjplbanfnomkaa
