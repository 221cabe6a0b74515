/- Merged: The document's 'Sum': the loop of a block's schedule (its body is taken out of the translation by a function). The document's 'Sum': the loop of a block's rounds. -/
import Derived.Test.YtajdcekkmikbcaaDoorM01
import Derived.Deep.RegionLaw
import Derived.Deep.AppendLies
import Derived.IntWalk
import Derived.StillTailTactics
namespace Go.Proofs.YtajdcekkmikbcaaDoor
section
set_option linter.unusedVariables false
open Go.RowKit
def loopsOf : Code → List Code
  | .loop c => c :: loopsOf c
  | .seq a b => loopsOf a ++ loopsOf b
  | .block _ c => loopsOf c
  | .scope c => loopsOf c
  | .cond _ a b => loopsOf a ++ loopsOf b
  | _ => []
noncomputable def sumLoop (n : Nat) : Code := ((Tryd.f90.body.map loopsOf).getD []).getD n .skip
set_option maxRecDepth 100000 in
theorem wr0 (x : B8) : IntKind.u32.wrap (x.toNat : Int) = x.toNat := by rw [IntKind.wrap_u32]; have := x.isLt; omega
set_option maxRecDepth 100000 in
theorem wrA (x : B8) : IntKind.u32.wrap ((x.toNat : Int) * 16777216) = (x.toNat : Int) * 16777216 := by rw [IntKind.wrap_u32]; have := x.isLt; omega
set_option maxRecDepth 100000 in
theorem wrB (x : B8) : IntKind.u32.wrap ((x.toNat : Int) * 65536) = (x.toNat : Int) * 65536 := by rw [IntKind.wrap_u32]; have := x.isLt; omega
set_option maxRecDepth 100000 in
theorem wrC (x : B8) : IntKind.u32.wrap ((x.toNat : Int) * 256) = (x.toNat : Int) * 256 := by rw [IntKind.wrap_u32]; have := x.isLt; omega
set_option maxRecDepth 100000 in
theorem right_z (x : W) (n : Nat) (z : Int) (w : World) (hz : z = (n : Int)) (hn : n ≤ 32) :
    Calls Tryd.prog 103 #[.int .u32 (x.toNat : Int), .int .i64 z] w fun e w' => e = .returned (.int .u32 ((rotr x n).toNat : Int)) ∧ ∃ n, w' = w.drewN n := by
  subst hz; exact right_any x n w hn
set_option maxRecDepth 100000 in
theorem ss0_int (x : W) : bits .xor .u32 (bits .xor .u32 ((rotr x 7).toNat : Int) ((rotr x 18).toNat : Int)) ((x.toNat : Int) / 8) = ((ss0 x).toNat : Int) := by
  rw [show (8 : Int) = 2 ^ 3 from rfl, wshr, wxor, wxor]; rfl
set_option maxRecDepth 100000 in
theorem ss1_int (x : W) : bits .xor .u32 (bits .xor .u32 ((rotr x 17).toNat : Int) ((rotr x 19).toNat : Int)) ((x.toNat : Int) / 1024) = ((ss1 x).toNat : Int) := by
  rw [show (1024 : Int) = 2 ^ 10 from rfl, wshr, wxor, wxor]; rfl
set_option maxRecDepth 100000 in
theorem u32w (z : Int) : IntKind.u32.wrap z = z % 4294967296 := by rw [IntKind.wrap_u32]
set_option maxRecDepth 1000000 in
set_option maxHeartbeats 4000000 in
theorem sched_loop (gm M cm n Hw : Nat) (blk : List B8) (wo : World) (Q0 : Exit → Act → World → Prop) (c0 c1 c2 c3 c4 c5 c6 c8 c9 c13 c14 c15 c16 c17 c18 c19 c20 c21 c22 c23 c24 c25 c26 c27 c28 c29 c30 c31 c32 c33 c34 c35 c36 c37 c38 c39 c40 c41 c42 c43 c44 c45 c46 c47 c48 c49 c50 c51 c52 c53 c54 c55 c56 c57 c58 c59 c60 c61 c62 c63 c64 c65 c66 c67 c68 c69 c70 c71 c72 c73 c74 c75 c76 c77 c78 c79 c80 c81 c82 c83 c84 c85 c86 c87 c88 c89 c90 c91 c92 c93 c94 c95 c96 c97 c98 c99 c100 c101 c102 c103 c104 c105 c106 c107 c108 c109 c110 c111 c112 c113 c114 c115 c116 c117 c118 c119 c120 c121 c122 c123 c124 c125 c126 c127 c128 c129 c130 c131 c132 c133 c134 c135 c136 c137 c138 c139 c140 c141 c142 c143 c144 c145 c146 c147 c148 c149 c150 c151 c152 c153 c154 c155 c156 c157 c158 c159 c160 c161 c162 c163 c164 c165 c166 c167 c168 c169 c170 c171 c172 c173 c174 c175 c176 c177 c178 c179 c180 c181 c182 c183 c184 c185 c186 c187 c188 c189 c190 c191 c192 c193 c194 c195 c196 c197 c198 c199 c200 c201 c202 c203 c204 c205 c206 c207 c208 c209 c210 c211 c212 c213 c214 c215 c216 c217 c218 c219 c220 c221 c222 c223 c224 c225 c226 c227 c228 c229 c230 c231 c232 c233 c234 c235 c236 c237 c238 c239 c240 c241 c242 c243 c244 c245 c246 c247 c248 c249 c250 c251 c252 c253 c254 c255 c256 c257 c258 c259 c260 c261 c262 c263 c264 c265 c266 c267 c268 c269 c270 c271 c272 c273 c274 c275 c276 c277 c278 c279 c280 c281 c282 c283 c284 c285 c286 c287 c288 c289 c290 c291 c292 c293 c294 c295 c296 c297 c298 c299 c300 c301 c302 c303 c304 c305 c306 c307 c308 c309 c310 c311 c312 c313 c314 c315 c316 c317 c318 c319 c320 c321 c322 c323 : Value)
    (hM : 64 * n + 64 ≤ M) (hMm : M ≤ 1099511627800) (hHw : Hw = wo.heap.size) (hg : gm < Hw) (hB1 : ∀ i, i < 64 → wo.cell? ⟨gm, 64 * n + i, none⟩ = some (bv (blk.getD i 0)))
    (hexit : ∀ (u13 u14 u62 u63 u64 u65 u66 u67 u68 u69 u70 u71 u72 u73 u74 u75 u76 u77 u78 u79 u80 u81 u82 u83 u84 u85 u86 u87 u88 u89 u90 u91 u92 u93 u94 u95 u96 u97 u98 u99 u100 u101 u102 u103 u104 u105 u106 u107 u108 u109 u110 u111 u112 u113 u114 u115 u116 u117 u118 u119 u120 u121 u122 u123 u124 u125 u126 u127 u128 u129 u130 u131 u132 u133 u134 u135 u136 u137 u138 u139 u140 u141 u142 u143 u144 u145 u146 u147 u148 u149 u150 u151 u152 u153 u154 u155 u156 u157 u158 u159 u160 u161 u162 u163 u164 u165 u166 u167 u168 u169 v : Value) (w' : World), w'.ownsRow Hw 133 1 v 64 ((sch blk 64).map wv) → Below Hw wo w' → Q0 (.exit 6) { tmps := List.toArray (c0 :: c1 :: c2 :: c3 :: c4 :: c5 :: c6 :: (.slice (some ⟨gm, 0, none⟩) M cm) :: c8 :: c9 :: (.int .i64 ((64 : Int) * (n : Int))) :: (v) :: (.int .i64 64) :: u13 :: u14 :: c15 :: c16 :: c17 :: c18 :: c19 :: c20 :: c21 :: c22 :: c23 :: c24 :: c25 :: c26 :: c27 :: c28 :: c29 :: c30 :: c31 :: c32 :: c33 :: c34 :: c35 :: c36 :: c37 :: c38 :: c39 :: c40 :: c41 :: c42 :: c43 :: c44 :: c45 :: c46 :: c47 :: c48 :: c49 :: c50 :: c51 :: c52 :: c53 :: c54 :: c55 :: c56 :: c57 :: c58 :: c59 :: c60 :: c61 :: u62 :: u63 :: u64 :: u65 :: u66 :: u67 :: u68 :: u69 :: u70 :: u71 :: u72 :: u73 :: u74 :: u75 :: u76 :: u77 :: u78 :: u79 :: u80 :: u81 :: u82 :: u83 :: u84 :: u85 :: u86 :: u87 :: u88 :: u89 :: u90 :: u91 :: u92 :: u93 :: u94 :: u95 :: u96 :: u97 :: u98 :: u99 :: u100 :: u101 :: u102 :: u103 :: u104 :: u105 :: u106 :: u107 :: u108 :: u109 :: u110 :: u111 :: u112 :: u113 :: u114 :: u115 :: u116 :: u117 :: u118 :: u119 :: u120 :: u121 :: u122 :: u123 :: u124 :: u125 :: u126 :: u127 :: u128 :: u129 :: u130 :: u131 :: u132 :: u133 :: u134 :: u135 :: u136 :: u137 :: u138 :: u139 :: u140 :: u141 :: u142 :: u143 :: u144 :: u145 :: u146 :: u147 :: u148 :: u149 :: u150 :: u151 :: u152 :: u153 :: u154 :: u155 :: u156 :: u157 :: u158 :: u159 :: u160 :: u161 :: u162 :: u163 :: u164 :: u165 :: u166 :: u167 :: u168 :: u169 :: c170 :: c171 :: c172 :: c173 :: c174 :: c175 :: c176 :: c177 :: c178 :: c179 :: c180 :: c181 :: c182 :: c183 :: c184 :: c185 :: c186 :: c187 :: c188 :: c189 :: c190 :: c191 :: c192 :: c193 :: c194 :: c195 :: c196 :: c197 :: c198 :: c199 :: c200 :: c201 :: c202 :: c203 :: c204 :: c205 :: c206 :: c207 :: c208 :: c209 :: c210 :: c211 :: c212 :: c213 :: c214 :: c215 :: c216 :: c217 :: c218 :: c219 :: c220 :: c221 :: c222 :: c223 :: c224 :: c225 :: c226 :: c227 :: c228 :: c229 :: c230 :: c231 :: c232 :: c233 :: c234 :: c235 :: c236 :: c237 :: c238 :: c239 :: c240 :: c241 :: c242 :: c243 :: c244 :: c245 :: c246 :: c247 :: c248 :: c249 :: c250 :: c251 :: c252 :: c253 :: c254 :: c255 :: c256 :: c257 :: c258 :: c259 :: c260 :: c261 :: c262 :: c263 :: c264 :: c265 :: c266 :: c267 :: c268 :: c269 :: c270 :: c271 :: c272 :: c273 :: c274 :: c275 :: c276 :: c277 :: c278 :: c279 :: c280 :: c281 :: c282 :: c283 :: c284 :: c285 :: c286 :: c287 :: c288 :: c289 :: c290 :: c291 :: c292 :: c293 :: c294 :: c295 :: c296 :: c297 :: c298 :: c299 :: c300 :: c301 :: c302 :: c303 :: c304 :: c305 :: c306 :: c307 :: c308 :: c309 :: c310 :: c311 :: c312 :: c313 :: c314 :: c315 :: c316 :: c317 :: c318 :: c319 :: c320 :: c321 :: c322 :: c323 :: []), defers := [] } w') :
    Code.wp Tryd.prog (Code.loop (sumLoop 3)) Q0 { tmps := List.toArray (c0 :: c1 :: c2 :: c3 :: c4 :: c5 :: c6 :: (.slice (some ⟨gm, 0, none⟩) M cm) :: c8 :: c9 :: (.int .i64 ((64 : Int) * (n : Int))) :: (.slice none 0 0) :: (.int .i64 0) :: c13 :: c14 :: c15 :: c16 :: c17 :: c18 :: c19 :: c20 :: c21 :: c22 :: c23 :: c24 :: c25 :: c26 :: c27 :: c28 :: c29 :: c30 :: c31 :: c32 :: c33 :: c34 :: c35 :: c36 :: c37 :: c38 :: c39 :: c40 :: c41 :: c42 :: c43 :: c44 :: c45 :: c46 :: c47 :: c48 :: c49 :: c50 :: c51 :: c52 :: c53 :: c54 :: c55 :: c56 :: c57 :: c58 :: c59 :: c60 :: c61 :: c62 :: c63 :: c64 :: c65 :: c66 :: c67 :: c68 :: c69 :: c70 :: c71 :: c72 :: c73 :: c74 :: c75 :: c76 :: c77 :: c78 :: c79 :: c80 :: c81 :: c82 :: c83 :: c84 :: c85 :: c86 :: c87 :: c88 :: c89 :: c90 :: c91 :: c92 :: c93 :: c94 :: c95 :: c96 :: c97 :: c98 :: c99 :: c100 :: c101 :: c102 :: c103 :: c104 :: c105 :: c106 :: c107 :: c108 :: c109 :: c110 :: c111 :: c112 :: c113 :: c114 :: c115 :: c116 :: c117 :: c118 :: c119 :: c120 :: c121 :: c122 :: c123 :: c124 :: c125 :: c126 :: c127 :: c128 :: c129 :: c130 :: c131 :: c132 :: c133 :: c134 :: c135 :: c136 :: c137 :: c138 :: c139 :: c140 :: c141 :: c142 :: c143 :: c144 :: c145 :: c146 :: c147 :: c148 :: c149 :: c150 :: c151 :: c152 :: c153 :: c154 :: c155 :: c156 :: c157 :: c158 :: c159 :: c160 :: c161 :: c162 :: c163 :: c164 :: c165 :: c166 :: c167 :: c168 :: c169 :: c170 :: c171 :: c172 :: c173 :: c174 :: c175 :: c176 :: c177 :: c178 :: c179 :: c180 :: c181 :: c182 :: c183 :: c184 :: c185 :: c186 :: c187 :: c188 :: c189 :: c190 :: c191 :: c192 :: c193 :: c194 :: c195 :: c196 :: c197 :: c198 :: c199 :: c200 :: c201 :: c202 :: c203 :: c204 :: c205 :: c206 :: c207 :: c208 :: c209 :: c210 :: c211 :: c212 :: c213 :: c214 :: c215 :: c216 :: c217 :: c218 :: c219 :: c220 :: c221 :: c222 :: c223 :: c224 :: c225 :: c226 :: c227 :: c228 :: c229 :: c230 :: c231 :: c232 :: c233 :: c234 :: c235 :: c236 :: c237 :: c238 :: c239 :: c240 :: c241 :: c242 :: c243 :: c244 :: c245 :: c246 :: c247 :: c248 :: c249 :: c250 :: c251 :: c252 :: c253 :: c254 :: c255 :: c256 :: c257 :: c258 :: c259 :: c260 :: c261 :: c262 :: c263 :: c264 :: c265 :: c266 :: c267 :: c268 :: c269 :: c270 :: c271 :: c272 :: c273 :: c274 :: c275 :: c276 :: c277 :: c278 :: c279 :: c280 :: c281 :: c282 :: c283 :: c284 :: c285 :: c286 :: c287 :: c288 :: c289 :: c290 :: c291 :: c292 :: c293 :: c294 :: c295 :: c296 :: c297 :: c298 :: c299 :: c300 :: c301 :: c302 :: c303 :: c304 :: c305 :: c306 :: c307 :: c308 :: c309 :: c310 :: c311 :: c312 :: c313 :: c314 :: c315 :: c316 :: c317 :: c318 :: c319 :: c320 :: c321 :: c322 :: c323 :: []), defers := [] } wo := by
  have HB1 := Lib.hid hB1
  have HX := Lib.hid hexit
  have HHw := Lib.hid hHw
  clear hB1 hexit hHw
  conv => arg 2; arg 1; whnf
  go_loopw [11, 12, 13, 14] (fun vw i _ _ wr => ∃ k : Nat, k ≤ 64 ∧ i = .int .i64 (k : Int) ∧ wr.ownsRow Hw 133 1 vw k ((sch blk k).map wv) ∧ Below Hw wo wr) (fun _ i _ _ _ => 64 - (intOf i).toNat)
  case atStart => exact ⟨0, by omega, rfl, World.ownsRow_nil _ _ _ _, Below.refl _ _⟩
  case round =>
    obtain ⟨k, hk, rfl, hown, hb⟩ := hrel
    by_cases hk64 : k < 64
    · obtain ⟨j0, hj, hy0, hy1, hy2⟩ := info_parts (show (Tryd.prog.info? 133).map (fun i => (i.zero, i.size, i.bytes)) = some (some (.int .u32 0), 1, 4) by kernel_rfl)
      by_cases hk16 : k < 16
      · have hgw : ∀ i, i < 64 → wr.cell? ⟨gm, 64 * n + i, none⟩ = some (bv (blk.getD i 0)) := fun i hi => (hb.cell (p := ⟨gm, 64 * n + i, none⟩) hg).trans (HB1.out i hi)
        have c0' := hgw (4 * k) (by omega)
        have c1' : wr.cell? ⟨gm, 64 * n + 4 * k + 1, none⟩ = _ := hgw (4 * k + 1) (by omega)
        have c2' : wr.cell? ⟨gm, 64 * n + 4 * k + 2, none⟩ = _ := hgw (4 * k + 2) (by omega)
        have c3' : wr.cell? ⟨gm, 64 * n + 4 * k + 3, none⟩ = _ := hgw (4 * k + 3) (by omega)
        obtain ⟨x0, hx0⟩ : ∃ x, x = blk.getD (4 * k) 0 := ⟨_, rfl⟩
        obtain ⟨x1, hx1⟩ : ∃ x, x = blk.getD (4 * k + 1) 0 := ⟨_, rfl⟩
        obtain ⟨x2, hx2⟩ : ∃ x, x = blk.getD (4 * k + 2) 0 := ⟨_, rfl⟩
        obtain ⟨x3, hx3⟩ : ∃ x, x = blk.getD (4 * k + 3) 0 := ⟨_, rfl⟩
        rw [← hx0] at c0'
        rw [← hx1] at c1'
        rw [← hx2] at c2'
        rw [← hx3] at c3'
        have HE := Lib.hid (show wordAt blk k = be4 x0 x1 x2 x3 by rw [hx0, hx1, hx2, hx3]; rfl)
        have HS := Lib.hid (show sch blk (k + 1) = sch blk k ++ [wordAt blk k] by rw [sch, if_pos hk16])
        have HO := Lib.hid hown
        have HBB := Lib.hid hb
        have hwS : Hw ≤ wr.heap.size := by rw [HHw.out]; exact hb.size
        have hwS1 : Hw ≤ wr.heap.size + 1 := by omega
        have HN9 := Lib.hid (show k + 1 ≤ maxLen by unfold maxLen; omega)
        have HBY := Lib.hid (show (k + 1) * 4 ≤ 140737488355328 by omega)
        have HFAR := Lib.hid (show ¬ some gm = u11.ownBlock from fun e => by have := (hown.lt gm e.symm).1; omega)
        have hgl : gm < wr.heap.size := by omega
        unfold bv at c0' c1' c2' c3'
        have g0 : IntKind.i64.wrap ((4 : Int) * (k : Int)) = (4 : Int) * (k : Int) := IntWalk.i64_in _ (by omega)
        have g1 : IntKind.i64.wrap ((64 : Int) * (n : Int) + (4 : Int) * (k : Int)) = (64 : Int) * (n : Int) + (4 : Int) * (k : Int) := IntWalk.i64_in _ (by omega)
        have g2 : IntKind.i64.wrap ((64 : Int) * (n : Int) + (4 : Int) * (k : Int) + 1) = (64 : Int) * (n : Int) + (4 : Int) * (k : Int) + 1 := IntWalk.i64_in _ (by omega)
        have g3 : IntKind.i64.wrap ((64 : Int) * (n : Int) + (4 : Int) * (k : Int) + 2) = (64 : Int) * (n : Int) + (4 : Int) * (k : Int) + 2 := IntWalk.i64_in _ (by omega)
        have g4 : IntKind.i64.wrap ((64 : Int) * (n : Int) + (4 : Int) * (k : Int) + 3) = (64 : Int) * (n : Int) + (4 : Int) * (k : Int) + 3 := IntWalk.i64_in _ (by omega)
        have f1 : ((64 : Int) * (n : Int) + (4 : Int) * (k : Int)).toNat = 64 * n + 4 * k := by omega
        have f2 : ((64 : Int) * (n : Int) + (4 : Int) * (k : Int) + 1).toNat = 64 * n + 4 * k + 1 := by omega
        have f3 : ((64 : Int) * (n : Int) + (4 : Int) * (k : Int) + 2).toNat = 64 * n + 4 * k + 2 := by omega
        have f4 : ((64 : Int) * (n : Int) + (4 : Int) * (k : Int) + 3).toNat = 64 * n + 4 * k + 3 := by omega
        have a1 : (0 : Int) ≤ (64 : Int) * (n : Int) + (4 : Int) * (k : Int) := by omega
        have a2 : (0 : Int) ≤ (64 : Int) * (n : Int) + (4 : Int) * (k : Int) + 1 := by omega
        have a3 : (0 : Int) ≤ (64 : Int) * (n : Int) + (4 : Int) * (k : Int) + 2 := by omega
        have a4 : (0 : Int) ≤ (64 : Int) * (n : Int) + (4 : Int) * (k : Int) + 3 := by omega
        have b1 : (64 : Int) * (n : Int) + (4 : Int) * (k : Int) < (M : Int) := by omega
        have b2 : (64 : Int) * (n : Int) + (4 : Int) * (k : Int) + 1 < (M : Int) := by omega
        have b3 : (64 : Int) * (n : Int) + (4 : Int) * (k : Int) + 2 < (M : Int) := by omega
        have b4 : (64 : Int) * (n : Int) + (4 : Int) * (k : Int) + 3 < (M : Int) := by omega
        clear hx0 hx1 hx2 hx3 hgw hown hb
        go_wp2_with fail
        go_region_held3 (fun w' => w'.cell? ⟨gm, 64 * n + 4 * k, none⟩ = some (.int .u8 (x0.toNat : Int)) ∧ w'.cell? ⟨gm, 64 * n + 4 * k + 1, none⟩ = some (.int .u8 (x1.toNat : Int)) ∧
              w'.cell? ⟨gm, 64 * n + 4 * k + 2, none⟩ = some (.int .u8 (x2.toNat : Int)) ∧ w'.cell? ⟨gm, 64 * n + 4 * k + 3, none⟩ = some (.int .u8 (x3.toNat : Int)))
            (first
              | go_keep
              | (go_split_ands; refine ⟨?_, ?_, ?_, ?_⟩ <;> (rw [hgrow5.cell_far _ (by simp; omega) (by intro e; exact HFAR.out e)]; assumption)))
            ((refine step_append_lies _ (by rfl) _ _ _ (by rfl) Hw 133 j0 _ 1 4 Tryd.underlying152 hj hy0 hy1 hy2 rfl (by omega) u11 k ((sch blk k).map wv) (by rfl) ((HO.out.alloc _).drew) ⟨wr.heap.size, 0, none⟩ 1 1 [_] (by rfl) (by rfl) (World.news_of_block (cs := #[_]) (t := 133) (fr := (0, 0)) (heap_alloc_new wr _)) (by simp [Value.oneCell']) (by omega) HN9.out HBY.out (by simpa using hwS1) (wr.heap.size + 1) (by simp) ?_; intro gg cap w5 hown5 hgrow5 hat5 hlt5))
        have HO5 := Lib.hid hown5
        have HG5 := Lib.hid (hgrow_of HO.out HBB.out.drew hwS (Nat.le_refl _) hgrow5)
        clear hown5 hgrow5 hat5 c0' c1' c2' c3' g0 g1 g2 g3 g4 f1 f2 f3 f4 a1 a2 a3 a4 b1 b2 b3 b4
        go_wp2
        go_roundw
        case rel =>
          have h5 := HO5.out
          simp only [wr0, wrA, wrB, wrC] at h5
          rw [be4_eq, ← HE.out] at h5
          exact ⟨k + 1, by omega, by go_num, by rw [HS.out, List.map_append]; exact h5, HG5.out⟩
        case measure => simp [intOf]; omega
      · have hln : (sch blk k).length = k := sch_len blk k
        obtain ⟨gv, cv, rfl, hgv1, hgv2⟩ := hown.form (by omega)
        have hcv : ∀ i, i < k → wr.cell? ⟨gv, i, none⟩ = some (.int .u32 (((sch blk k).getD i 0).toNat : Int)) := fun i hi => by
          rw [hown.cellAt i (by omega), List.getElem?_map, List.getD_eq_getElem?_getD, List.getElem?_eq_getElem (by omega)]; rfl
        have c0' := hcv (k - 16) (by omega)
        have c1' := hcv (k - 15) (by omega)
        have c2' := hcv (k - 7) (by omega)
        have c3' := hcv (k - 2) (by omega)
        obtain ⟨x0, hx0⟩ : ∃ x, x = (sch blk k).getD (k - 16) 0 := ⟨_, rfl⟩
        obtain ⟨x1, hx1⟩ : ∃ x, x = (sch blk k).getD (k - 15) 0 := ⟨_, rfl⟩
        obtain ⟨x2, hx2⟩ : ∃ x, x = (sch blk k).getD (k - 7) 0 := ⟨_, rfl⟩
        obtain ⟨x3, hx3⟩ : ∃ x, x = (sch blk k).getD (k - 2) 0 := ⟨_, rfl⟩
        rw [← hx0] at c0'
        rw [← hx1] at c1'
        rw [← hx2] at c2'
        rw [← hx3] at c3'
        have HE := Lib.hid (show nextW (sch blk k) k = x0 + ss0 x1 + x2 + ss1 x3 by rw [hx0, hx1, hx2, hx3]; rfl)
        have HS := Lib.hid (show sch blk (k + 1) = sch blk k ++ [nextW (sch blk k) k] by rw [sch, if_neg hk16])
        have HOwr := Lib.hid hown
        have HBwr := Lib.hid hb
        have Swr : Hw ≤ wr.heap.size := by rw [HHw.out]; exact hb.size
        have HN9 := Lib.hid (show k + 1 ≤ maxLen by unfold maxLen; omega)
        have HBY := Lib.hid (show (k + 1) * 4 ≤ 140737488355328 by omega)
        have a1 : (0 : Int) ≤ (k : Int) - 16 := by omega
        have a2 : (0 : Int) ≤ (k : Int) - 15 := by omega
        have a3 : (0 : Int) ≤ (k : Int) - 7 := by omega
        have a4 : (0 : Int) ≤ (k : Int) - 2 := by omega
        have a1' : (16 : Int) ≤ (k : Int) := by omega
        have a2' : (15 : Int) ≤ (k : Int) := by omega
        have a3' : (7 : Int) ≤ (k : Int) := by omega
        have a4' : (2 : Int) ≤ (k : Int) := by omega
        have b1 : (k : Int) - 16 < (k : Int) := by omega
        have b2 : (k : Int) - 15 < (k : Int) := by omega
        have b3 : (k : Int) - 7 < (k : Int) := by omega
        have b4 : (k : Int) - 2 < (k : Int) := by omega
        have f1 : ((k : Int) - 16).toNat = k - 16 := by omega
        have f2 : ((k : Int) - 15).toNat = k - 15 := by omega
        have f3 : ((k : Int) - 7).toNat = k - 7 := by omega
        have f4 : ((k : Int) - 2).toNat = k - 2 := by omega
        have g1 : IntKind.i64.wrap ((k : Int) - 16) = (k : Int) - 16 := IntWalk.i64_in _ (by omega)
        have g2 : IntKind.i64.wrap ((k : Int) - 15) = (k : Int) - 15 := IntWalk.i64_in _ (by omega)
        have g3 : IntKind.i64.wrap ((k : Int) - 7) = (k : Int) - 7 := IntWalk.i64_in _ (by omega)
        have g4 : IntKind.i64.wrap ((k : Int) - 2) = (k : Int) - 2 := IntWalk.i64_in _ (by omega)
        have R1 := Lib.hid (fun w => right_z x1 7 7 w rfl (by omega))
        have R2 := Lib.hid (fun w => right_z x1 18 18 w rfl (by omega))
        have R3 := Lib.hid (fun w => right_z x3 17 17 w rfl (by omega))
        have R4 := Lib.hid (fun w => right_z x3 19 19 w rfl (by omega))
        clear hx0 hx1 hx2 hx3 hcv hown hb
        go_wp2_with fail
        go_quiet (first
          | (go_at_call 103; with_reducible exact Calls.quiet_of (R1.out _))
          | (go_at_call 103; with_reducible exact Calls.quiet_of (R2.out _)))
        rw [ss0_int]
        obtain ⟨wa, hwwa⟩ : ∃ z, z = wr.drewN nq := ⟨_, rfl⟩
        have e0 : wa.cell? ⟨gv, k - 16, none⟩ = some (.int .u32 (x0.toNat : Int)) := by rw [hwwa]; exact c0'
        have e1 : wa.cell? ⟨gv, k - 15, none⟩ = some (.int .u32 (x1.toNat : Int)) := by rw [hwwa]; exact c1'
        have e2 : wa.cell? ⟨gv, k - 7, none⟩ = some (.int .u32 (x2.toNat : Int)) := by rw [hwwa]; exact c2'
        have e3 : wa.cell? ⟨gv, k - 2, none⟩ = some (.int .u32 (x3.toNat : Int)) := by rw [hwwa]; exact c3'
        have HOwa := Lib.hid (show wa.ownsRow Hw 133 1 (.slice (some ⟨gv, 0, none⟩) k cv) k ((sch blk k).map wv) by rw [hwwa]; exact HOwr.out)
        have HBwa := Lib.hid (show Below Hw wo wa by rw [hwwa]; exact below_drewN HBwr.out)
        have Swa : Hw ≤ wa.heap.size := by rw [hwwa]; exact Swr
        rw [← hwwa]
        clear c0' c1' c2' c3' hwwa
        go_wp2_with fail
        go_quiet (first
          | (go_at_call 103; with_reducible exact Calls.quiet_of (R3.out _))
          | (go_at_call 103; with_reducible exact Calls.quiet_of (R4.out _)))
        rw [ss1_int]
        obtain ⟨wb, hwwb⟩ : ∃ z, z = wa.drewN nq := ⟨_, rfl⟩
        have d0 : wb.cell? ⟨gv, k - 16, none⟩ = some (.int .u32 (x0.toNat : Int)) := by rw [hwwb]; exact e0
        have d1 : wb.cell? ⟨gv, k - 15, none⟩ = some (.int .u32 (x1.toNat : Int)) := by rw [hwwb]; exact e1
        have d2 : wb.cell? ⟨gv, k - 7, none⟩ = some (.int .u32 (x2.toNat : Int)) := by rw [hwwb]; exact e2
        have d3 : wb.cell? ⟨gv, k - 2, none⟩ = some (.int .u32 (x3.toNat : Int)) := by rw [hwwb]; exact e3
        have HOwb := Lib.hid (show wb.ownsRow Hw 133 1 (.slice (some ⟨gv, 0, none⟩) k cv) k ((sch blk k).map wv) by rw [hwwb]; exact HOwa.out)
        have HBwb := Lib.hid (show Below Hw wo wb by rw [hwwb]; exact below_drewN HBwa.out)
        have Swb : Hw ≤ wb.heap.size := by rw [hwwb]; exact Swa
        rw [← hwwb]
        clear e0 e1 e2 e3 hwwb
        have S1 : Hw ≤ wb.heap.size + 1 := by omega
        have hgb : gv < wb.heap.size := by have := (HOwb.out.lt gv rfl).2; exact this
        go_wp2_with fail
        refine wp_region_noPanic ?_
        go_region_law ((refine step_append_lies _ (by rfl) _ _ _ (by rfl) Hw 133 j0 _ 1 4 Tryd.underlying152 hj hy0 hy1 hy2 rfl (by omega) (.slice (some ⟨gv, 0, none⟩) k cv) k ((sch blk k).map wv) (by rfl) ((HOwb.out.alloc _).drew) ⟨wb.heap.size, 0, none⟩ 1 1 [_] (by rfl) (by rfl) (World.news_of_block (cs := #[_]) (t := 133) (fr := (0, 0)) (heap_alloc_new wb _)) (by simp [Value.oneCell']) (by omega) HN9.out HBY.out (by simpa using S1) (wb.heap.size + 1) (by simp) ?_; intro gg cap w5 hown5 hgrow5 hat5 hlt5))
        all_goals
          refine NoPanic.normal ?_
          have HO5 := Lib.hid hown5
          have HG5 := Lib.hid (hgrow_of HOwb.out HBwb.out.drew Swb (Nat.le_refl _) hgrow5)
          clear hown5 hgrow5 hat5 d0 d1 d2 d3 a1 a2 a3 a4 a1' a2' a3' a4' b1 b2 b3 b4 f1 f2 f3 f4 g1 g2 g3 g4
          go_wp2
          go_roundw
          case rel =>
            have h5 := HO5.out
            simp only [u32w] at h5
            rw [wadd, wadd, wadd, ← HE.out] at h5
            exact ⟨k + 1, by omega, by go_num, by rw [HS.out, List.map_append]; exact h5, HG5.out⟩
          case measure => simp [intOf]; omega
    · obtain rfl : k = 64 := by omega
      have HO := Lib.hid hown
      have HBB := Lib.hid hb
      clear hown hb
      go_wp2_with fail
      exact HX.out _ _ _ _ _ _ _ _ _ _ _ _ _ _ _ _ _ _ _ _ _ _ _ _ _ _ _ _ _ _ _ _ _ _ _ _ _ _ _ _ _ _ _ _ _ _ _ _ _ _ _ _ _ _ _ _ _ _ _ _ _ _ _ _ _ _ _ _ _ _ _ _ _ _ _ _ _ _ _ _ _ _ _ _ _ _ _ _ _ _ _ _ _ _ _ _ _ _ _ _ _ _ _ _ _ _ _ _ _ _ _ _ HO.out HBB.out
end
section
set_option linter.unusedVariables false
open Go.RowKit
set_option maxRecDepth 100000 in
theorem wxor3 (a b c : W) : bits .xor .u32 (bits .xor .u32 (a.toNat : Int) (b.toNat : Int)) (c.toNat : Int) = ((a ^^^ b ^^^ c).toNat : Int) := by rw [wxor, wxor]
set_option maxRecDepth 100000 in
theorem bs1_int (e : W) : bits .xor .u32 (bits .xor .u32 ((rotr e 6).toNat : Int) ((rotr e 11).toNat : Int)) ((rotr e 25).toNat : Int) = ((bs1 e).toNat : Int) := wxor3 _ _ _
set_option maxRecDepth 100000 in
theorem bs0_int (e : W) : bits .xor .u32 (bits .xor .u32 ((rotr e 2).toNat : Int) ((rotr e 13).toNat : Int)) ((rotr e 22).toNat : Int) = ((bs0 e).toNat : Int) := wxor3 _ _ _
set_option maxRecDepth 100000 in
theorem t1_int (e f g h k m : W) : ((((h.toNat : Int) + ((bs1 e).toNat : Int) + ((chW e f g).toNat : Int) + (k.toNat : Int)) % 4294967296 + (m.toNat : Int)) % 4294967296) = ((t1W e f g h k m).toNat : Int) := by
  unfold t1W; rw [BitVec.toNat_add, BitVec.toNat_add, BitVec.toNat_add, BitVec.toNat_add]; omega
set_option maxRecDepth 100000 in
theorem t2_int (a b c : W) : (((bs0 a).toNat : Int) + ((majW a b c).toNat : Int)) % 4294967296 = ((t2W a b c).toNat : Int) := by
  unfold t2W; rw [BitVec.toNat_add]; omega
set_option maxRecDepth 100000 in
theorem ch_int (e f g : W) : bits .xor .u32 (bits .and .u32 (e.toNat : Int) (f.toNat : Int)) (bits .and .u32 (4294967295 - (e.toNat : Int)) (g.toNat : Int)) = ((chW e f g).toNat : Int) := by
  rw [wnot, wand, wand, wxor]; rfl
set_option maxRecDepth 100000 in
theorem maj_int (a b c : W) : bits .xor .u32 (bits .xor .u32 (bits .and .u32 (a.toNat : Int) (b.toNat : Int)) (bits .and .u32 (a.toNat : Int) (c.toNat : Int))) (bits .and .u32 (b.toNat : Int) (c.toNat : Int)) = ((majW a b c).toNat : Int) := by
  rw [wand, wand, wand, wxor, wxor]; rfl
/-- Eight words in a block of their own. -/
def Eight (w : World) (g : Nat) (v : V8) : Prop := ∀ j, j < 8 → w.cell? ⟨g, j, none⟩ = some (.int .u32 ((v.list.getD j 0).toNat : Int))
set_option maxRecDepth 1000000 in
set_option maxHeartbeats 4000000 in
theorem rounds_loop (lo gk ck gw cw gv cv Hv : Nat) (K M : List W) (v0 : V8) (wo : World) (Q0 : Exit → Act → World → Prop) (c0 c1 c3 c4 c5 c6 c7 c8 c9 c10 c12 c13 c14 c17 c18 c19 c20 c21 c22 c23 c24 c25 c26 c27 c28 c29 c30 c31 c32 c33 c34 c35 c36 c37 c38 c39 c40 c41 c42 c43 c44 c45 c46 c47 c48 c49 c50 c51 c52 c53 c54 c55 c56 c57 c58 c59 c60 c61 c62 c63 c64 c65 c66 c67 c68 c69 c70 c71 c72 c73 c74 c75 c76 c77 c78 c79 c80 c81 c82 c83 c84 c85 c86 c87 c88 c89 c90 c91 c92 c93 c94 c95 c96 c97 c98 c99 c100 c101 c102 c103 c104 c105 c106 c107 c108 c109 c110 c111 c112 c113 c114 c115 c116 c117 c118 c119 c120 c121 c122 c123 c124 c125 c126 c127 c128 c129 c130 c131 c132 c133 c134 c135 c136 c137 c138 c139 c140 c141 c142 c143 c144 c145 c146 c147 c148 c149 c150 c151 c152 c153 c154 c155 c156 c157 c158 c159 c160 c161 c162 c163 c164 c165 c166 c167 c168 c169 c170 c171 c172 c173 c174 c175 c176 c177 c178 c179 c180 c181 c182 c183 c184 c185 c186 c187 c188 c189 c190 c191 c192 c193 c194 c195 c196 c197 c198 c199 c200 c201 c202 c203 c204 c205 c206 c207 c208 c209 c210 c211 c212 c213 c214 c215 c216 c217 c218 c219 c220 c221 c222 c223 c224 c225 c226 c227 c228 c229 c230 c231 c232 c233 c234 c235 c236 c237 c238 c239 c240 c241 c242 c243 c244 c245 c246 c247 c248 c249 c250 c251 c252 c253 c254 c255 c256 c257 c258 c259 c260 c261 c262 c263 c264 c265 c266 c267 c268 c269 c270 c271 c272 c273 c274 c275 c276 c277 c278 c279 c280 c281 c282 c283 c284 c285 c286 c287 c288 c289 c290 c291 c292 c293 c294 c295 c296 c297 c298 c299 c300 c301 c302 c303 c304 c305 c306 c307 c308 c309 c310 c311 c312 c313 c314 c315 c316 c317 c318 c319 c320 c321 c322 c323 : Value)
    (hlo1 : lo ≤ gv) (hlo2 : lo ≤ Hv) (hHv : Hv = wo.heap.size) (hgk : gk < Hv) (hgw : gw < Hv) (hK : ∀ i, i < 64 → wo.cell? ⟨gk, i, none⟩ = some (.int .u32 ((K.getD i 0).toNat : Int))) (hM : ∀ i, i < 64 → wo.cell? ⟨gw, i, none⟩ = some (.int .u32 ((M.getD i 0).toNat : Int))) (hv : Eight wo gv v0)
    (hexit : ∀ (u17 u18 u19 u20 u21 u173 u174 u175 u176 u177 u178 u179 u180 u181 u182 u183 u184 u185 u186 u187 u188 u189 u190 u191 u192 u193 u194 u195 u196 u197 u198 u199 u200 u201 u202 u203 u204 u205 u206 u207 u208 u209 u210 u211 u212 u213 u214 u215 u216 u217 u218 u219 u220 u221 u222 u223 u224 u225 u226 u227 u228 u229 u230 u231 u232 u233 u234 u235 u236 u237 u238 u239 u240 u241 u242 u243 u244 u245 u246 u247 u248 u249 u250 u251 u252 u253 u254 u255 u256 u257 u258 u259 u260 u261 u262 u263 u264 u265 u266 u267 u268 u269 u270 u271 u272 u273 u274 u275 u276 u277 u278 u279 u280 u281 u282 u283 u284 u285 u286 u287 u288 u289 : Value) (g' c' : Nat) (w' : World), Eight w' g' (V8.run K M v0 64) → Below Hv wo w' → lo ≤ g' → Q0 (.exit 8) { tmps := List.toArray (c0 :: c1 :: (.slice (some ⟨gk, 0, none⟩) 64 ck) :: c3 :: c4 :: c5 :: c6 :: c7 :: c8 :: c9 :: c10 :: (.slice (some ⟨gw, 0, none⟩) 64 cw) :: c12 :: c13 :: c14 :: (.slice (some ⟨g', 0, none⟩) 8 c') :: (.int .i64 64) :: u17 :: u18 :: u19 :: u20 :: u21 :: c22 :: c23 :: c24 :: c25 :: c26 :: c27 :: c28 :: c29 :: c30 :: c31 :: c32 :: c33 :: c34 :: c35 :: c36 :: c37 :: c38 :: c39 :: c40 :: c41 :: c42 :: c43 :: c44 :: c45 :: c46 :: c47 :: c48 :: c49 :: c50 :: c51 :: c52 :: c53 :: c54 :: c55 :: c56 :: c57 :: c58 :: c59 :: c60 :: c61 :: c62 :: c63 :: c64 :: c65 :: c66 :: c67 :: c68 :: c69 :: c70 :: c71 :: c72 :: c73 :: c74 :: c75 :: c76 :: c77 :: c78 :: c79 :: c80 :: c81 :: c82 :: c83 :: c84 :: c85 :: c86 :: c87 :: c88 :: c89 :: c90 :: c91 :: c92 :: c93 :: c94 :: c95 :: c96 :: c97 :: c98 :: c99 :: c100 :: c101 :: c102 :: c103 :: c104 :: c105 :: c106 :: c107 :: c108 :: c109 :: c110 :: c111 :: c112 :: c113 :: c114 :: c115 :: c116 :: c117 :: c118 :: c119 :: c120 :: c121 :: c122 :: c123 :: c124 :: c125 :: c126 :: c127 :: c128 :: c129 :: c130 :: c131 :: c132 :: c133 :: c134 :: c135 :: c136 :: c137 :: c138 :: c139 :: c140 :: c141 :: c142 :: c143 :: c144 :: c145 :: c146 :: c147 :: c148 :: c149 :: c150 :: c151 :: c152 :: c153 :: c154 :: c155 :: c156 :: c157 :: c158 :: c159 :: c160 :: c161 :: c162 :: c163 :: c164 :: c165 :: c166 :: c167 :: c168 :: c169 :: c170 :: c171 :: c172 :: u173 :: u174 :: u175 :: u176 :: u177 :: u178 :: u179 :: u180 :: u181 :: u182 :: u183 :: u184 :: u185 :: u186 :: u187 :: u188 :: u189 :: u190 :: u191 :: u192 :: u193 :: u194 :: u195 :: u196 :: u197 :: u198 :: u199 :: u200 :: u201 :: u202 :: u203 :: u204 :: u205 :: u206 :: u207 :: u208 :: u209 :: u210 :: u211 :: u212 :: u213 :: u214 :: u215 :: u216 :: u217 :: u218 :: u219 :: u220 :: u221 :: u222 :: u223 :: u224 :: u225 :: u226 :: u227 :: u228 :: u229 :: u230 :: u231 :: u232 :: u233 :: u234 :: u235 :: u236 :: u237 :: u238 :: u239 :: u240 :: u241 :: u242 :: u243 :: u244 :: u245 :: u246 :: u247 :: u248 :: u249 :: u250 :: u251 :: u252 :: u253 :: u254 :: u255 :: u256 :: u257 :: u258 :: u259 :: u260 :: u261 :: u262 :: u263 :: u264 :: u265 :: u266 :: u267 :: u268 :: u269 :: u270 :: u271 :: u272 :: u273 :: u274 :: u275 :: u276 :: u277 :: u278 :: u279 :: u280 :: u281 :: u282 :: u283 :: u284 :: u285 :: u286 :: u287 :: u288 :: u289 :: c290 :: c291 :: c292 :: c293 :: c294 :: c295 :: c296 :: c297 :: c298 :: c299 :: c300 :: c301 :: c302 :: c303 :: c304 :: c305 :: c306 :: c307 :: c308 :: c309 :: c310 :: c311 :: c312 :: c313 :: c314 :: c315 :: c316 :: c317 :: c318 :: c319 :: c320 :: c321 :: c322 :: c323 :: []), defers := [] } w') :
    Code.wp Tryd.prog (Code.loop (sumLoop 4)) Q0 { tmps := List.toArray (c0 :: c1 :: (.slice (some ⟨gk, 0, none⟩) 64 ck) :: c3 :: c4 :: c5 :: c6 :: c7 :: c8 :: c9 :: c10 :: (.slice (some ⟨gw, 0, none⟩) 64 cw) :: c12 :: c13 :: c14 :: (.slice (some ⟨gv, 0, none⟩) 8 cv) :: (.int .i64 0) :: c17 :: c18 :: c19 :: c20 :: c21 :: c22 :: c23 :: c24 :: c25 :: c26 :: c27 :: c28 :: c29 :: c30 :: c31 :: c32 :: c33 :: c34 :: c35 :: c36 :: c37 :: c38 :: c39 :: c40 :: c41 :: c42 :: c43 :: c44 :: c45 :: c46 :: c47 :: c48 :: c49 :: c50 :: c51 :: c52 :: c53 :: c54 :: c55 :: c56 :: c57 :: c58 :: c59 :: c60 :: c61 :: c62 :: c63 :: c64 :: c65 :: c66 :: c67 :: c68 :: c69 :: c70 :: c71 :: c72 :: c73 :: c74 :: c75 :: c76 :: c77 :: c78 :: c79 :: c80 :: c81 :: c82 :: c83 :: c84 :: c85 :: c86 :: c87 :: c88 :: c89 :: c90 :: c91 :: c92 :: c93 :: c94 :: c95 :: c96 :: c97 :: c98 :: c99 :: c100 :: c101 :: c102 :: c103 :: c104 :: c105 :: c106 :: c107 :: c108 :: c109 :: c110 :: c111 :: c112 :: c113 :: c114 :: c115 :: c116 :: c117 :: c118 :: c119 :: c120 :: c121 :: c122 :: c123 :: c124 :: c125 :: c126 :: c127 :: c128 :: c129 :: c130 :: c131 :: c132 :: c133 :: c134 :: c135 :: c136 :: c137 :: c138 :: c139 :: c140 :: c141 :: c142 :: c143 :: c144 :: c145 :: c146 :: c147 :: c148 :: c149 :: c150 :: c151 :: c152 :: c153 :: c154 :: c155 :: c156 :: c157 :: c158 :: c159 :: c160 :: c161 :: c162 :: c163 :: c164 :: c165 :: c166 :: c167 :: c168 :: c169 :: c170 :: c171 :: c172 :: c173 :: c174 :: c175 :: c176 :: c177 :: c178 :: c179 :: c180 :: c181 :: c182 :: c183 :: c184 :: c185 :: c186 :: c187 :: c188 :: c189 :: c190 :: c191 :: c192 :: c193 :: c194 :: c195 :: c196 :: c197 :: c198 :: c199 :: c200 :: c201 :: c202 :: c203 :: c204 :: c205 :: c206 :: c207 :: c208 :: c209 :: c210 :: c211 :: c212 :: c213 :: c214 :: c215 :: c216 :: c217 :: c218 :: c219 :: c220 :: c221 :: c222 :: c223 :: c224 :: c225 :: c226 :: c227 :: c228 :: c229 :: c230 :: c231 :: c232 :: c233 :: c234 :: c235 :: c236 :: c237 :: c238 :: c239 :: c240 :: c241 :: c242 :: c243 :: c244 :: c245 :: c246 :: c247 :: c248 :: c249 :: c250 :: c251 :: c252 :: c253 :: c254 :: c255 :: c256 :: c257 :: c258 :: c259 :: c260 :: c261 :: c262 :: c263 :: c264 :: c265 :: c266 :: c267 :: c268 :: c269 :: c270 :: c271 :: c272 :: c273 :: c274 :: c275 :: c276 :: c277 :: c278 :: c279 :: c280 :: c281 :: c282 :: c283 :: c284 :: c285 :: c286 :: c287 :: c288 :: c289 :: c290 :: c291 :: c292 :: c293 :: c294 :: c295 :: c296 :: c297 :: c298 :: c299 :: c300 :: c301 :: c302 :: c303 :: c304 :: c305 :: c306 :: c307 :: c308 :: c309 :: c310 :: c311 :: c312 :: c313 :: c314 :: c315 :: c316 :: c317 :: c318 :: c319 :: c320 :: c321 :: c322 :: c323 :: []), defers := [] } wo := by
  have HK := Lib.hid hK
  have HM := Lib.hid hM
  have HV := Lib.hid hv
  have HX := Lib.hid hexit
  have HHv := Lib.hid hHv
  clear hK hM hv hexit hHv
  conv => arg 2; arg 1; whnf
  go_loopw [15, 16, 17, 18, 19, 20, 21] (fun sv i _ _ _ _ _ wr => ∃ (k g' c' : Nat), k ≤ 64 ∧ i = .int .i64 (k : Int) ∧ sv = .slice (some ⟨g', 0, none⟩) 8 c' ∧ Eight wr g' (V8.run K M v0 k) ∧ Below Hv wo wr ∧ lo ≤ g') (fun _ i _ _ _ _ _ _ => 64 - (intOf i).toNat)
  case atStart => exact ⟨0, gv, cv, by omega, rfl, rfl, HV.out, Below.refl _ _, hlo1⟩
  case round =>
    obtain ⟨k, g', c', hk, rfl, rfl, he, hb, hlo3⟩ := hrel
    by_cases hk64 : k < 64
    · obtain ⟨v, hv⟩ : ∃ v, v = V8.run K M v0 k := ⟨_, rfl⟩
      rw [← hv] at he
      have HN := Lib.hid (show V8.run K M v0 (k + 1) = v.step (K.getD k 0) (M.getD k 0) by rw [hv]; rfl)
      have ck' := (hb.cell (p := ⟨gk, k, none⟩) hgk).trans (HK.out k hk64)
      have cm' := (hb.cell (p := ⟨gw, k, none⟩) hgw).trans (HM.out k hk64)
      have q0 := he 0 (by omega)
      have q1 := he 1 (by omega)
      have q2 := he 2 (by omega)
      have q3 := he 3 (by omega)
      have q4 := he 4 (by omega)
      have q5 := he 5 (by omega)
      have q6 := he 6 (by omega)
      have q7 := he 7 (by omega)
      obtain ⟨a, b, c, d, e, f, g, h⟩ := v
      simp only [V8.list, List.getD_cons_zero, List.getD_cons_succ] at q0 q1 q2 q3 q4 q5 q6 q7
      obtain ⟨kk, hkk⟩ : ∃ x, x = K.getD k 0 := ⟨_, rfl⟩
      obtain ⟨mm, hmm⟩ : ∃ x, x = M.getD k 0 := ⟨_, rfl⟩
      rw [← hkk] at ck' HN
      rw [← hmm] at cm' HN
      have R1 := Lib.hid (fun w => right_z e 6 6 w rfl (by omega))
      have R2 := Lib.hid (fun w => right_z e 11 11 w rfl (by omega))
      have R3 := Lib.hid (fun w => right_z e 25 25 w rfl (by omega))
      have R4 := Lib.hid (fun w => right_z a 2 2 w rfl (by omega))
      have R5 := Lib.hid (fun w => right_z a 13 13 w rfl (by omega))
      have R6 := Lib.hid (fun w => right_z a 22 22 w rfl (by omega))
      have HBB := Lib.hid hb
      have HEwr := Lib.hid he
      have KKwr := Lib.hid ck'
      have MMwr := Lib.hid cm'
      have HBwr := Lib.hid hb
      clear hv he hb hkk hmm
      go_wp2_with fail
      go_quiet (first
        | (go_at_call 103; with_reducible exact Calls.quiet_of (R1.out _))
        | (go_at_call 103; with_reducible exact Calls.quiet_of (R2.out _))
        | (go_at_call 103; with_reducible exact Calls.quiet_of (R3.out _)))
      rw [bs1_int]
      obtain ⟨wa, hz⟩ : ∃ z, z = wr.drewN nq := ⟨_, rfl⟩
      have HEwa := Lib.hid (show Eight wa g' ⟨a, b, c, d, e, f, g, h⟩ by rw [hz]; exact HEwr.out)
      have KKwa := Lib.hid (show wa.cell? ⟨gk, k, none⟩ = some (.int .u32 (kk.toNat : Int)) by rw [hz]; exact KKwr.out)
      have MMwa := Lib.hid (show wa.cell? ⟨gw, k, none⟩ = some (.int .u32 (mm.toNat : Int)) by rw [hz]; exact MMwr.out)
      have HBwa := Lib.hid (show Below Hv wo wa by rw [hz]; exact below_drewN HBwr.out)
      rw [← hz]
      clear q0 q1 q2 q3 q4 q5 q6 q7 ck' cm' hz
      have q0 := HEwa.out 0 (by omega)
      have q1 := HEwa.out 1 (by omega)
      have q2 := HEwa.out 2 (by omega)
      have q3 := HEwa.out 3 (by omega)
      have q4 := HEwa.out 4 (by omega)
      have q5 := HEwa.out 5 (by omega)
      have q6 := HEwa.out 6 (by omega)
      have q7 := HEwa.out 7 (by omega)
      simp only [V8.list, List.getD_cons_zero, List.getD_cons_succ] at q0 q1 q2 q3 q4 q5 q6 q7
      have ck' := KKwa.out
      have cm' := MMwa.out
      go_wp2_with fail
      go_quiet (fail)
      rw [ch_int]
      obtain ⟨wb, hz⟩ : ∃ z, z = wa.drewN nq := ⟨_, rfl⟩
      have HEwb := Lib.hid (show Eight wb g' ⟨a, b, c, d, e, f, g, h⟩ by rw [hz]; exact HEwa.out)
      have KKwb := Lib.hid (show wb.cell? ⟨gk, k, none⟩ = some (.int .u32 (kk.toNat : Int)) by rw [hz]; exact KKwa.out)
      have MMwb := Lib.hid (show wb.cell? ⟨gw, k, none⟩ = some (.int .u32 (mm.toNat : Int)) by rw [hz]; exact MMwa.out)
      have HBwb := Lib.hid (show Below Hv wo wb by rw [hz]; exact below_drewN HBwa.out)
      rw [← hz]
      clear q0 q1 q2 q3 q4 q5 q6 q7 ck' cm' hz
      have q0 := HEwb.out 0 (by omega)
      have q1 := HEwb.out 1 (by omega)
      have q2 := HEwb.out 2 (by omega)
      have q3 := HEwb.out 3 (by omega)
      have q4 := HEwb.out 4 (by omega)
      have q5 := HEwb.out 5 (by omega)
      have q6 := HEwb.out 6 (by omega)
      have q7 := HEwb.out 7 (by omega)
      simp only [V8.list, List.getD_cons_zero, List.getD_cons_succ] at q0 q1 q2 q3 q4 q5 q6 q7
      have ck' := KKwb.out
      have cm' := MMwb.out
      go_wp2_with fail
      go_quiet (fail)
      rw [t1_int]
      obtain ⟨wc, hz⟩ : ∃ z, z = wb.drewN nq := ⟨_, rfl⟩
      have HEwc := Lib.hid (show Eight wc g' ⟨a, b, c, d, e, f, g, h⟩ by rw [hz]; exact HEwb.out)
      have KKwc := Lib.hid (show wc.cell? ⟨gk, k, none⟩ = some (.int .u32 (kk.toNat : Int)) by rw [hz]; exact KKwb.out)
      have MMwc := Lib.hid (show wc.cell? ⟨gw, k, none⟩ = some (.int .u32 (mm.toNat : Int)) by rw [hz]; exact MMwb.out)
      have HBwc := Lib.hid (show Below Hv wo wc by rw [hz]; exact below_drewN HBwb.out)
      rw [← hz]
      clear q0 q1 q2 q3 q4 q5 q6 q7 ck' cm' hz
      have q0 := HEwc.out 0 (by omega)
      have q1 := HEwc.out 1 (by omega)
      have q2 := HEwc.out 2 (by omega)
      have q3 := HEwc.out 3 (by omega)
      have q4 := HEwc.out 4 (by omega)
      have q5 := HEwc.out 5 (by omega)
      have q6 := HEwc.out 6 (by omega)
      have q7 := HEwc.out 7 (by omega)
      simp only [V8.list, List.getD_cons_zero, List.getD_cons_succ] at q0 q1 q2 q3 q4 q5 q6 q7
      have ck' := KKwc.out
      have cm' := MMwc.out
      go_wp2_with fail
      go_quiet (first
        | (go_at_call 103; with_reducible exact Calls.quiet_of (R4.out _))
        | (go_at_call 103; with_reducible exact Calls.quiet_of (R5.out _))
        | (go_at_call 103; with_reducible exact Calls.quiet_of (R6.out _)))
      rw [bs0_int]
      obtain ⟨wd, hz⟩ : ∃ z, z = wc.drewN nq := ⟨_, rfl⟩
      have HEwd := Lib.hid (show Eight wd g' ⟨a, b, c, d, e, f, g, h⟩ by rw [hz]; exact HEwc.out)
      have KKwd := Lib.hid (show wd.cell? ⟨gk, k, none⟩ = some (.int .u32 (kk.toNat : Int)) by rw [hz]; exact KKwc.out)
      have MMwd := Lib.hid (show wd.cell? ⟨gw, k, none⟩ = some (.int .u32 (mm.toNat : Int)) by rw [hz]; exact MMwc.out)
      have HBwd := Lib.hid (show Below Hv wo wd by rw [hz]; exact below_drewN HBwc.out)
      rw [← hz]
      clear q0 q1 q2 q3 q4 q5 q6 q7 ck' cm' hz
      have q0 := HEwd.out 0 (by omega)
      have q1 := HEwd.out 1 (by omega)
      have q2 := HEwd.out 2 (by omega)
      have q3 := HEwd.out 3 (by omega)
      have q4 := HEwd.out 4 (by omega)
      have q5 := HEwd.out 5 (by omega)
      have q6 := HEwd.out 6 (by omega)
      have q7 := HEwd.out 7 (by omega)
      simp only [V8.list, List.getD_cons_zero, List.getD_cons_succ] at q0 q1 q2 q3 q4 q5 q6 q7
      have ck' := KKwd.out
      have cm' := MMwd.out
      go_wp2_with fail
      go_quiet (fail)
      rw [maj_int, t2_int]
      obtain ⟨we, hz⟩ : ∃ z, z = wd.drewN nq := ⟨_, rfl⟩
      have HEwe := Lib.hid (show Eight we g' ⟨a, b, c, d, e, f, g, h⟩ by rw [hz]; exact HEwd.out)
      have KKwe := Lib.hid (show we.cell? ⟨gk, k, none⟩ = some (.int .u32 (kk.toNat : Int)) by rw [hz]; exact KKwd.out)
      have MMwe := Lib.hid (show we.cell? ⟨gw, k, none⟩ = some (.int .u32 (mm.toNat : Int)) by rw [hz]; exact MMwd.out)
      have HBwe := Lib.hid (show Below Hv wo we by rw [hz]; exact below_drewN HBwd.out)
      rw [← hz]
      clear q0 q1 q2 q3 q4 q5 q6 q7 ck' cm' hz
      have q0 := HEwe.out 0 (by omega)
      have q1 := HEwe.out 1 (by omega)
      have q2 := HEwe.out 2 (by omega)
      have q3 := HEwe.out 3 (by omega)
      have q4 := HEwe.out 4 (by omega)
      have q5 := HEwe.out 5 (by omega)
      have q6 := HEwe.out 6 (by omega)
      have q7 := HEwe.out 7 (by omega)
      simp only [V8.list, List.getD_cons_zero, List.getD_cons_succ] at q0 q1 q2 q3 q4 q5 q6 q7
      have ck' := KKwe.out
      have cm' := MMwe.out
      go_wp2_with fail
      obtain ⟨x, hx⟩ : ∃ x, x = t1W e f g h kk mm := ⟨_, rfl⟩
      obtain ⟨y, hy⟩ : ∃ y, y = t2W a b c := ⟨_, rfl⟩
      rw [← hx, ← hy]
      have HN2 := Lib.hid (show V8.run K M v0 (k + 1) = ⟨x + y, a, b, c, d + x, e, f, g⟩ by rw [HN.out, hx, hy]; rfl)
      clear hx hy
      go_still_tail 26, (by kernel_rfl)
      change wpList _ _ _ _ _ we.drew
      clear q0 q1 q2 q3 q4 q5 q6 q7 ck' cm'
      go_wp2_with fail
      go_roundw
      case rel =>
        refine ⟨k + 1, we.heap.size, 8, by omega, by go_num, rfl, ?_, ?_, by have := HBwe.out.size; have := HHv.out; show lo ≤ we.heap.size; omega⟩
        · intro j hj
          rw [HN2.out]
          refine (cell_of_row (we.alloc _) we.heap.size j _ _ _ (heap_alloc_new we _)).trans ?_
          match j, hj with
          | 0, _ => simp only [V8.list, List.getD_cons_zero]; rw [wadd]; rfl
          | 1, _ => rfl
          | 2, _ => rfl
          | 3, _ => rfl
          | 4, _ => simp only [V8.list, List.getD_cons_zero, List.getD_cons_succ]; rw [wadd]; rfl
          | 5, _ => rfl
          | 6, _ => rfl
          | 7, _ => rfl
        · exact HBwe.out.alloc (by have := HBwe.out.size; have := HHv.out; show Hv ≤ we.heap.size; omega) _ |>.drew
      case measure => simp [intOf]; omega
    · obtain rfl : k = 64 := by omega
      have HE := Lib.hid he
      have HBB := Lib.hid hb
      clear he hb
      go_wp2_with fail
      exact HX.out _ _ _ _ _ _ _ _ _ _ _ _ _ _ _ _ _ _ _ _ _ _ _ _ _ _ _ _ _ _ _ _ _ _ _ _ _ _ _ _ _ _ _ _ _ _ _ _ _ _ _ _ _ _ _ _ _ _ _ _ _ _ _ _ _ _ _ _ _ _ _ _ _ _ _ _ _ _ _ _ _ _ _ _ _ _ _ _ _ _ _ _ _ _ _ _ _ _ _ _ _ _ _ _ _ _ _ _ _ _ _ _ _ _ _ _ _ _ _ _ _ _ _ _ _ HE.out HBB.out hlo3
end
end Go.Proofs.YtajdcekkmikbcaaDoor
