/- Merged: The document's 'Sum': the loop of a block's schedule (its body is taken out of the translation by a function). -/
import Derived.Test.YthoaaieiiokcmaaGreatDoorM01
import Derived.Deep.RegionLaw
import Derived.Deep.AppendLies
import Derived.IntWalk
namespace Go.Proofs.YthoaaieiiokcmaaGreatDoor
section
set_option linter.unusedVariables false
open Go.RowKit
def loopsOf : Code → List Code
  | .loop c => c :: loopsOf c
  | .seq a b => loopsOf a ++ loopsOf b
  | .block _ c => loopsOf c
  | .scope c => loopsOf c
  | .cond _ a b => loopsOf a ++ loopsOf b
  | _ => []
noncomputable def sumLoop (n : Nat) : Code := ((Tryz.f89.body.map loopsOf).getD []).getD n .skip
set_option maxRecDepth 100000 in
theorem wr0 (x : B8) : IntKind.u32.wrap (x.toNat : Int) = x.toNat := by rw [IntKind.wrap_u32]; have := x.isLt; omega
set_option maxRecDepth 100000 in
theorem wrA (x : B8) : IntKind.u32.wrap ((x.toNat : Int) * 16777216) = (x.toNat : Int) * 16777216 := by rw [IntKind.wrap_u32]; have := x.isLt; omega
set_option maxRecDepth 100000 in
theorem wrB (x : B8) : IntKind.u32.wrap ((x.toNat : Int) * 65536) = (x.toNat : Int) * 65536 := by rw [IntKind.wrap_u32]; have := x.isLt; omega
set_option maxRecDepth 100000 in
theorem wrC (x : B8) : IntKind.u32.wrap ((x.toNat : Int) * 256) = (x.toNat : Int) * 256 := by rw [IntKind.wrap_u32]; have := x.isLt; omega
set_option maxRecDepth 100000 in
theorem right_z (x : W) (n : Nat) (z : Int) (w : World) (hz : z = (n : Int)) (hn : n ≤ 32) :
    Calls Tryz.prog 105 #[.int .u32 (x.toNat : Int), .int .i64 z] w fun e w' => e = .returned (.int .u32 ((rotr x n).toNat : Int)) ∧ ∃ n, w' = w.drewN n := by
  subst hz; exact right_any x n w hn
set_option maxRecDepth 100000 in
theorem ss0_int (x : W) : bits .xor .u32 (bits .xor .u32 ((rotr x 7).toNat : Int) ((rotr x 18).toNat : Int)) ((x.toNat : Int) / 8) = ((ss0 x).toNat : Int) := by
  rw [show (8 : Int) = 2 ^ 3 from rfl, wshr, wxor, wxor]; rfl
set_option maxRecDepth 100000 in
theorem ss1_int (x : W) : bits .xor .u32 (bits .xor .u32 ((rotr x 17).toNat : Int) ((rotr x 19).toNat : Int)) ((x.toNat : Int) / 1024) = ((ss1 x).toNat : Int) := by
  rw [show (1024 : Int) = 2 ^ 10 from rfl, wshr, wxor, wxor]; rfl
set_option maxRecDepth 100000 in
theorem u32w (z : Int) : IntKind.u32.wrap z = z % 4294967296 := by rw [IntKind.wrap_u32]
set_option maxRecDepth 1000000 in
set_option maxHeartbeats 4000000 in
theorem sched_loop (gm M cm n Hw : Nat) (blk : List B8) (wo : World) (Q0 : Exit → Act → World → Prop) (c0 c1 c2 c3 c4 c5 c6 c8 c9 c13 c14 c15 c16 c17 c18 c19 c20 c21 c22 c23 c24 c25 c26 c27 c28 c29 c30 c31 c32 c33 c34 c35 c36 c37 c38 c39 c40 c41 c42 c43 c44 c45 c46 c47 c48 c49 c50 c51 c52 c53 c54 c55 c56 c57 c58 c59 c60 c61 c62 c63 c64 c65 c66 c67 c68 c69 c70 c71 c72 c73 c74 c75 c76 c77 c78 c79 c80 c81 c82 c83 c84 c85 c86 c87 c88 c89 c90 c91 c92 c93 c94 c95 c96 c97 c98 c99 c100 c101 c102 c103 c104 c105 c106 c107 c108 c109 c110 c111 c112 c113 c114 c115 c116 c117 c118 c119 c120 c121 c122 c123 c124 c125 c126 c127 c128 c129 c130 c131 c132 c133 c134 c135 c136 c137 c138 c139 c140 c141 c142 c143 c144 c145 c146 c147 c148 c149 c150 c151 c152 c153 c154 c155 c156 c157 c158 c159 c160 c161 c162 c163 c164 c165 c166 c167 c168 c169 c170 c171 c172 c173 c174 c175 c176 c177 c178 c179 c180 c181 c182 c183 c184 c185 c186 c187 c188 c189 c190 c191 c192 c193 c194 c195 c196 c197 c198 c199 c200 c201 c202 c203 c204 c205 c206 c207 c208 c209 c210 c211 c212 c213 c214 c215 c216 c217 c218 c219 c220 c221 c222 c223 c224 c225 c226 c227 c228 c229 c230 c231 c232 c233 c234 c235 c236 c237 c238 c239 c240 c241 c242 c243 c244 c245 c246 c247 c248 c249 c250 c251 c252 c253 c254 c255 c256 c257 c258 c259 c260 c261 c262 c263 c264 c265 c266 c267 c268 c269 c270 c271 c272 c273 c274 c275 c276 c277 c278 c279 c280 c281 c282 c283 c284 c285 c286 c287 c288 c289 c290 c291 c292 c293 c294 c295 c296 c297 c298 c299 c300 c301 c302 c303 c304 c305 c306 c307 c308 c309 c310 c311 c312 c313 c314 c315 c316 c317 c318 c319 c320 c321 c322 c323 : Value)
    (hM : 64 * n + 64 ≤ M) (hMm : M ≤ 1099511627800) (hHw : Hw = wo.heap.size) (hg : gm < Hw) (hB1 : ∀ i, i < 64 → wo.cell? ⟨gm, 64 * n + i, none⟩ = some (bv (blk.getD i 0)))
    (hexit : ∀ (u13 u14 u62 u63 u64 u65 u66 u67 u68 u69 u70 u71 u72 u73 u74 u75 u76 u77 u78 u79 u80 u81 u82 u83 u84 u85 u86 u87 u88 u89 u90 u91 u92 u93 u94 u95 u96 u97 u98 u99 u100 u101 u102 u103 u104 u105 u106 u107 u108 u109 u110 u111 u112 u113 u114 u115 u116 u117 u118 u119 u120 u121 u122 u123 u124 u125 u126 u127 u128 u129 u130 u131 u132 u133 u134 u135 u136 u137 u138 u139 u140 u141 u142 u143 u144 u145 u146 u147 u148 u149 u150 u151 u152 u153 u154 u155 u156 u157 u158 u159 u160 u161 u162 u163 u164 u165 u166 u167 u168 u169 v : Value) (w' : World), w'.ownsRow Hw 127 1 v 64 ((sch blk 64).map wv) → Below Hw wo w' → Q0 (.exit 6) { tmps := List.toArray (c0 :: c1 :: c2 :: c3 :: c4 :: c5 :: c6 :: (.slice (some ⟨gm, 0, none⟩) M cm) :: c8 :: c9 :: (.int .i64 ((64 : Int) * (n : Int))) :: (v) :: (.int .i64 64) :: u13 :: u14 :: c15 :: c16 :: c17 :: c18 :: c19 :: c20 :: c21 :: c22 :: c23 :: c24 :: c25 :: c26 :: c27 :: c28 :: c29 :: c30 :: c31 :: c32 :: c33 :: c34 :: c35 :: c36 :: c37 :: c38 :: c39 :: c40 :: c41 :: c42 :: c43 :: c44 :: c45 :: c46 :: c47 :: c48 :: c49 :: c50 :: c51 :: c52 :: c53 :: c54 :: c55 :: c56 :: c57 :: c58 :: c59 :: c60 :: c61 :: u62 :: u63 :: u64 :: u65 :: u66 :: u67 :: u68 :: u69 :: u70 :: u71 :: u72 :: u73 :: u74 :: u75 :: u76 :: u77 :: u78 :: u79 :: u80 :: u81 :: u82 :: u83 :: u84 :: u85 :: u86 :: u87 :: u88 :: u89 :: u90 :: u91 :: u92 :: u93 :: u94 :: u95 :: u96 :: u97 :: u98 :: u99 :: u100 :: u101 :: u102 :: u103 :: u104 :: u105 :: u106 :: u107 :: u108 :: u109 :: u110 :: u111 :: u112 :: u113 :: u114 :: u115 :: u116 :: u117 :: u118 :: u119 :: u120 :: u121 :: u122 :: u123 :: u124 :: u125 :: u126 :: u127 :: u128 :: u129 :: u130 :: u131 :: u132 :: u133 :: u134 :: u135 :: u136 :: u137 :: u138 :: u139 :: u140 :: u141 :: u142 :: u143 :: u144 :: u145 :: u146 :: u147 :: u148 :: u149 :: u150 :: u151 :: u152 :: u153 :: u154 :: u155 :: u156 :: u157 :: u158 :: u159 :: u160 :: u161 :: u162 :: u163 :: u164 :: u165 :: u166 :: u167 :: u168 :: u169 :: c170 :: c171 :: c172 :: c173 :: c174 :: c175 :: c176 :: c177 :: c178 :: c179 :: c180 :: c181 :: c182 :: c183 :: c184 :: c185 :: c186 :: c187 :: c188 :: c189 :: c190 :: c191 :: c192 :: c193 :: c194 :: c195 :: c196 :: c197 :: c198 :: c199 :: c200 :: c201 :: c202 :: c203 :: c204 :: c205 :: c206 :: c207 :: c208 :: c209 :: c210 :: c211 :: c212 :: c213 :: c214 :: c215 :: c216 :: c217 :: c218 :: c219 :: c220 :: c221 :: c222 :: c223 :: c224 :: c225 :: c226 :: c227 :: c228 :: c229 :: c230 :: c231 :: c232 :: c233 :: c234 :: c235 :: c236 :: c237 :: c238 :: c239 :: c240 :: c241 :: c242 :: c243 :: c244 :: c245 :: c246 :: c247 :: c248 :: c249 :: c250 :: c251 :: c252 :: c253 :: c254 :: c255 :: c256 :: c257 :: c258 :: c259 :: c260 :: c261 :: c262 :: c263 :: c264 :: c265 :: c266 :: c267 :: c268 :: c269 :: c270 :: c271 :: c272 :: c273 :: c274 :: c275 :: c276 :: c277 :: c278 :: c279 :: c280 :: c281 :: c282 :: c283 :: c284 :: c285 :: c286 :: c287 :: c288 :: c289 :: c290 :: c291 :: c292 :: c293 :: c294 :: c295 :: c296 :: c297 :: c298 :: c299 :: c300 :: c301 :: c302 :: c303 :: c304 :: c305 :: c306 :: c307 :: c308 :: c309 :: c310 :: c311 :: c312 :: c313 :: c314 :: c315 :: c316 :: c317 :: c318 :: c319 :: c320 :: c321 :: c322 :: c323 :: []), defers := [] } w') :
    Code.wp Tryz.prog (Code.loop (sumLoop 3)) Q0 { tmps := List.toArray (c0 :: c1 :: c2 :: c3 :: c4 :: c5 :: c6 :: (.slice (some ⟨gm, 0, none⟩) M cm) :: c8 :: c9 :: (.int .i64 ((64 : Int) * (n : Int))) :: (.slice none 0 0) :: (.int .i64 0) :: c13 :: c14 :: c15 :: c16 :: c17 :: c18 :: c19 :: c20 :: c21 :: c22 :: c23 :: c24 :: c25 :: c26 :: c27 :: c28 :: c29 :: c30 :: c31 :: c32 :: c33 :: c34 :: c35 :: c36 :: c37 :: c38 :: c39 :: c40 :: c41 :: c42 :: c43 :: c44 :: c45 :: c46 :: c47 :: c48 :: c49 :: c50 :: c51 :: c52 :: c53 :: c54 :: c55 :: c56 :: c57 :: c58 :: c59 :: c60 :: c61 :: c62 :: c63 :: c64 :: c65 :: c66 :: c67 :: c68 :: c69 :: c70 :: c71 :: c72 :: c73 :: c74 :: c75 :: c76 :: c77 :: c78 :: c79 :: c80 :: c81 :: c82 :: c83 :: c84 :: c85 :: c86 :: c87 :: c88 :: c89 :: c90 :: c91 :: c92 :: c93 :: c94 :: c95 :: c96 :: c97 :: c98 :: c99 :: c100 :: c101 :: c102 :: c103 :: c104 :: c105 :: c106 :: c107 :: c108 :: c109 :: c110 :: c111 :: c112 :: c113 :: c114 :: c115 :: c116 :: c117 :: c118 :: c119 :: c120 :: c121 :: c122 :: c123 :: c124 :: c125 :: c126 :: c127 :: c128 :: c129 :: c130 :: c131 :: c132 :: c133 :: c134 :: c135 :: c136 :: c137 :: c138 :: c139 :: c140 :: c141 :: c142 :: c143 :: c144 :: c145 :: c146 :: c147 :: c148 :: c149 :: c150 :: c151 :: c152 :: c153 :: c154 :: c155 :: c156 :: c157 :: c158 :: c159 :: c160 :: c161 :: c162 :: c163 :: c164 :: c165 :: c166 :: c167 :: c168 :: c169 :: c170 :: c171 :: c172 :: c173 :: c174 :: c175 :: c176 :: c177 :: c178 :: c179 :: c180 :: c181 :: c182 :: c183 :: c184 :: c185 :: c186 :: c187 :: c188 :: c189 :: c190 :: c191 :: c192 :: c193 :: c194 :: c195 :: c196 :: c197 :: c198 :: c199 :: c200 :: c201 :: c202 :: c203 :: c204 :: c205 :: c206 :: c207 :: c208 :: c209 :: c210 :: c211 :: c212 :: c213 :: c214 :: c215 :: c216 :: c217 :: c218 :: c219 :: c220 :: c221 :: c222 :: c223 :: c224 :: c225 :: c226 :: c227 :: c228 :: c229 :: c230 :: c231 :: c232 :: c233 :: c234 :: c235 :: c236 :: c237 :: c238 :: c239 :: c240 :: c241 :: c242 :: c243 :: c244 :: c245 :: c246 :: c247 :: c248 :: c249 :: c250 :: c251 :: c252 :: c253 :: c254 :: c255 :: c256 :: c257 :: c258 :: c259 :: c260 :: c261 :: c262 :: c263 :: c264 :: c265 :: c266 :: c267 :: c268 :: c269 :: c270 :: c271 :: c272 :: c273 :: c274 :: c275 :: c276 :: c277 :: c278 :: c279 :: c280 :: c281 :: c282 :: c283 :: c284 :: c285 :: c286 :: c287 :: c288 :: c289 :: c290 :: c291 :: c292 :: c293 :: c294 :: c295 :: c296 :: c297 :: c298 :: c299 :: c300 :: c301 :: c302 :: c303 :: c304 :: c305 :: c306 :: c307 :: c308 :: c309 :: c310 :: c311 :: c312 :: c313 :: c314 :: c315 :: c316 :: c317 :: c318 :: c319 :: c320 :: c321 :: c322 :: c323 :: []), defers := [] } wo := by
  have HB1 := Lib.hid hB1
  have HX := Lib.hid hexit
  have HHw := Lib.hid hHw
  clear hB1 hexit hHw
  conv => arg 2; arg 1; whnf
  go_loopw [11, 12, 13, 14] (fun vw i _ _ wr => ∃ k : Nat, k ≤ 64 ∧ i = .int .i64 (k : Int) ∧ wr.ownsRow Hw 127 1 vw k ((sch blk k).map wv) ∧ Below Hw wo wr) (fun _ i _ _ _ => 64 - (intOf i).toNat)
  case atStart => exact ⟨0, by omega, rfl, World.ownsRow_nil _ _ _ _, Below.refl _ _⟩
  case round =>
    obtain ⟨k, hk, rfl, hown, hb⟩ := hrel
    by_cases hk64 : k < 64
    · obtain ⟨j0, hj, hy0, hy1, hy2⟩ := info_parts (show (Tryz.prog.info? 127).map (fun i => (i.zero, i.size, i.bytes)) = some (some (.int .u32 0), 1, 4) by kernel_rfl)
      by_cases hk16 : k < 16
      · have hgw : ∀ i, i < 64 → wr.cell? ⟨gm, 64 * n + i, none⟩ = some (bv (blk.getD i 0)) := fun i hi => (hb.cell (p := ⟨gm, 64 * n + i, none⟩) hg).trans (HB1.out i hi)
        have c0' := hgw (4 * k) (by omega)
        have c1' : wr.cell? ⟨gm, 64 * n + 4 * k + 1, none⟩ = _ := hgw (4 * k + 1) (by omega)
        have c2' : wr.cell? ⟨gm, 64 * n + 4 * k + 2, none⟩ = _ := hgw (4 * k + 2) (by omega)
        have c3' : wr.cell? ⟨gm, 64 * n + 4 * k + 3, none⟩ = _ := hgw (4 * k + 3) (by omega)
        obtain ⟨x0, hx0⟩ : ∃ x, x = blk.getD (4 * k) 0 := ⟨_, rfl⟩
        obtain ⟨x1, hx1⟩ : ∃ x, x = blk.getD (4 * k + 1) 0 := ⟨_, rfl⟩
        obtain ⟨x2, hx2⟩ : ∃ x, x = blk.getD (4 * k + 2) 0 := ⟨_, rfl⟩
        obtain ⟨x3, hx3⟩ : ∃ x, x = blk.getD (4 * k + 3) 0 := ⟨_, rfl⟩
        rw [← hx0] at c0'
        rw [← hx1] at c1'
        rw [← hx2] at c2'
        rw [← hx3] at c3'
        have HE := Lib.hid (show wordAt blk k = be4 x0 x1 x2 x3 by rw [hx0, hx1, hx2, hx3]; rfl)
        have HS := Lib.hid (show sch blk (k + 1) = sch blk k ++ [wordAt blk k] by rw [sch, if_pos hk16])
        have HO := Lib.hid hown
        have HBB := Lib.hid hb
        have hwS : Hw ≤ wr.heap.size := by rw [HHw.out]; exact hb.size
        have hwS1 : Hw ≤ wr.heap.size + 1 := by omega
        have HN9 := Lib.hid (show k + 1 ≤ maxLen by unfold maxLen; omega)
        have HBY := Lib.hid (show (k + 1) * 4 ≤ 140737488355328 by omega)
        have HFAR := Lib.hid (show ¬ some gm = u11.ownBlock from fun e => by have := (hown.lt gm e.symm).1; omega)
        have hgl : gm < wr.heap.size := by omega
        unfold bv at c0' c1' c2' c3'
        have g0 : IntKind.i64.wrap ((4 : Int) * (k : Int)) = (4 : Int) * (k : Int) := IntWalk.i64_in _ (by omega)
        have g1 : IntKind.i64.wrap ((64 : Int) * (n : Int) + (4 : Int) * (k : Int)) = (64 : Int) * (n : Int) + (4 : Int) * (k : Int) := IntWalk.i64_in _ (by omega)
        have g2 : IntKind.i64.wrap ((64 : Int) * (n : Int) + (4 : Int) * (k : Int) + 1) = (64 : Int) * (n : Int) + (4 : Int) * (k : Int) + 1 := IntWalk.i64_in _ (by omega)
        have g3 : IntKind.i64.wrap ((64 : Int) * (n : Int) + (4 : Int) * (k : Int) + 2) = (64 : Int) * (n : Int) + (4 : Int) * (k : Int) + 2 := IntWalk.i64_in _ (by omega)
        have g4 : IntKind.i64.wrap ((64 : Int) * (n : Int) + (4 : Int) * (k : Int) + 3) = (64 : Int) * (n : Int) + (4 : Int) * (k : Int) + 3 := IntWalk.i64_in _ (by omega)
        have f1 : ((64 : Int) * (n : Int) + (4 : Int) * (k : Int)).toNat = 64 * n + 4 * k := by omega
        have f2 : ((64 : Int) * (n : Int) + (4 : Int) * (k : Int) + 1).toNat = 64 * n + 4 * k + 1 := by omega
        have f3 : ((64 : Int) * (n : Int) + (4 : Int) * (k : Int) + 2).toNat = 64 * n + 4 * k + 2 := by omega
        have f4 : ((64 : Int) * (n : Int) + (4 : Int) * (k : Int) + 3).toNat = 64 * n + 4 * k + 3 := by omega
        have a1 : (0 : Int) ≤ (64 : Int) * (n : Int) + (4 : Int) * (k : Int) := by omega
        have a2 : (0 : Int) ≤ (64 : Int) * (n : Int) + (4 : Int) * (k : Int) + 1 := by omega
        have a3 : (0 : Int) ≤ (64 : Int) * (n : Int) + (4 : Int) * (k : Int) + 2 := by omega
        have a4 : (0 : Int) ≤ (64 : Int) * (n : Int) + (4 : Int) * (k : Int) + 3 := by omega
        have b1 : (64 : Int) * (n : Int) + (4 : Int) * (k : Int) < (M : Int) := by omega
        have b2 : (64 : Int) * (n : Int) + (4 : Int) * (k : Int) + 1 < (M : Int) := by omega
        have b3 : (64 : Int) * (n : Int) + (4 : Int) * (k : Int) + 2 < (M : Int) := by omega
        have b4 : (64 : Int) * (n : Int) + (4 : Int) * (k : Int) + 3 < (M : Int) := by omega
        clear hx0 hx1 hx2 hx3 hgw hown hb
        go_wp2_with fail
        go_region_held3 (fun w' => w'.cell? ⟨gm, 64 * n + 4 * k, none⟩ = some (.int .u8 (x0.toNat : Int)) ∧ w'.cell? ⟨gm, 64 * n + 4 * k + 1, none⟩ = some (.int .u8 (x1.toNat : Int)) ∧
              w'.cell? ⟨gm, 64 * n + 4 * k + 2, none⟩ = some (.int .u8 (x2.toNat : Int)) ∧ w'.cell? ⟨gm, 64 * n + 4 * k + 3, none⟩ = some (.int .u8 (x3.toNat : Int)))
            (first
              | go_keep
              | (go_split_ands; refine ⟨?_, ?_, ?_, ?_⟩ <;> (rw [hgrow5.cell_far _ (by simp; omega) (by intro e; exact HFAR.out e)]; assumption)))
            ((refine step_append_lies _ (by rfl) _ _ _ (by rfl) Hw 127 j0 _ 1 4 Tryz.underlying136 hj hy0 hy1 hy2 rfl (by omega) u11 k ((sch blk k).map wv) (by rfl) ((HO.out.alloc _).drew) ⟨wr.heap.size, 0, none⟩ 1 1 [_] (by rfl) (by rfl) (World.news_of_block (cs := #[_]) (t := 127) (fr := (0, 0)) (heap_alloc_new wr _)) (by simp [Value.oneCell']) (by omega) HN9.out HBY.out (by simpa using hwS1) (wr.heap.size + 1) (by simp) ?_; intro gg cap w5 hown5 hgrow5 hat5 hlt5))
        have HO5 := Lib.hid hown5
        have HG5 := Lib.hid (hgrow_of HO.out HBB.out.drew hwS (Nat.le_refl _) hgrow5)
        clear hown5 hgrow5 hat5 c0' c1' c2' c3' g0 g1 g2 g3 g4 f1 f2 f3 f4 a1 a2 a3 a4 b1 b2 b3 b4
        go_wp2
        go_roundw
        case rel =>
          have h5 := HO5.out
          simp only [wr0, wrA, wrB, wrC] at h5
          rw [be4_eq, ← HE.out] at h5
          exact ⟨k + 1, by omega, by go_num, by rw [HS.out, List.map_append]; exact h5, HG5.out⟩
        case measure => simp [intOf]; omega
      · have hln : (sch blk k).length = k := sch_len blk k
        obtain ⟨gv, cv, rfl, hgv1, hgv2⟩ := hown.form (by omega)
        have hcv : ∀ i, i < k → wr.cell? ⟨gv, i, none⟩ = some (.int .u32 (((sch blk k).getD i 0).toNat : Int)) := fun i hi => by
          rw [hown.cellAt i (by omega), List.getElem?_map, List.getD_eq_getElem?_getD, List.getElem?_eq_getElem (by omega)]; rfl
        have c0' := hcv (k - 16) (by omega)
        have c1' := hcv (k - 15) (by omega)
        have c2' := hcv (k - 7) (by omega)
        have c3' := hcv (k - 2) (by omega)
        obtain ⟨x0, hx0⟩ : ∃ x, x = (sch blk k).getD (k - 16) 0 := ⟨_, rfl⟩
        obtain ⟨x1, hx1⟩ : ∃ x, x = (sch blk k).getD (k - 15) 0 := ⟨_, rfl⟩
        obtain ⟨x2, hx2⟩ : ∃ x, x = (sch blk k).getD (k - 7) 0 := ⟨_, rfl⟩
        obtain ⟨x3, hx3⟩ : ∃ x, x = (sch blk k).getD (k - 2) 0 := ⟨_, rfl⟩
        rw [← hx0] at c0'
        rw [← hx1] at c1'
        rw [← hx2] at c2'
        rw [← hx3] at c3'
        have HE := Lib.hid (show nextW (sch blk k) k = x0 + ss0 x1 + x2 + ss1 x3 by rw [hx0, hx1, hx2, hx3]; rfl)
        have HS := Lib.hid (show sch blk (k + 1) = sch blk k ++ [nextW (sch blk k) k] by rw [sch, if_neg hk16])
        have HOwr := Lib.hid hown
        have HBwr := Lib.hid hb
        have Swr : Hw ≤ wr.heap.size := by rw [HHw.out]; exact hb.size
        have HN9 := Lib.hid (show k + 1 ≤ maxLen by unfold maxLen; omega)
        have HBY := Lib.hid (show (k + 1) * 4 ≤ 140737488355328 by omega)
        have a1 : (0 : Int) ≤ (k : Int) - 16 := by omega
        have a2 : (0 : Int) ≤ (k : Int) - 15 := by omega
        have a3 : (0 : Int) ≤ (k : Int) - 7 := by omega
        have a4 : (0 : Int) ≤ (k : Int) - 2 := by omega
        have a1' : (16 : Int) ≤ (k : Int) := by omega
        have a2' : (15 : Int) ≤ (k : Int) := by omega
        have a3' : (7 : Int) ≤ (k : Int) := by omega
        have a4' : (2 : Int) ≤ (k : Int) := by omega
        have b1 : (k : Int) - 16 < (k : Int) := by omega
        have b2 : (k : Int) - 15 < (k : Int) := by omega
        have b3 : (k : Int) - 7 < (k : Int) := by omega
        have b4 : (k : Int) - 2 < (k : Int) := by omega
        have f1 : ((k : Int) - 16).toNat = k - 16 := by omega
        have f2 : ((k : Int) - 15).toNat = k - 15 := by omega
        have f3 : ((k : Int) - 7).toNat = k - 7 := by omega
        have f4 : ((k : Int) - 2).toNat = k - 2 := by omega
        have g1 : IntKind.i64.wrap ((k : Int) - 16) = (k : Int) - 16 := IntWalk.i64_in _ (by omega)
        have g2 : IntKind.i64.wrap ((k : Int) - 15) = (k : Int) - 15 := IntWalk.i64_in _ (by omega)
        have g3 : IntKind.i64.wrap ((k : Int) - 7) = (k : Int) - 7 := IntWalk.i64_in _ (by omega)
        have g4 : IntKind.i64.wrap ((k : Int) - 2) = (k : Int) - 2 := IntWalk.i64_in _ (by omega)
        have R1 := Lib.hid (fun w => right_z x1 7 7 w rfl (by omega))
        have R2 := Lib.hid (fun w => right_z x1 18 18 w rfl (by omega))
        have R3 := Lib.hid (fun w => right_z x3 17 17 w rfl (by omega))
        have R4 := Lib.hid (fun w => right_z x3 19 19 w rfl (by omega))
        clear hx0 hx1 hx2 hx3 hcv hown hb
        go_wp2_with fail
        go_quiet (first
          | (go_at_call 105; with_reducible exact Calls.quiet_of (R1.out _))
          | (go_at_call 105; with_reducible exact Calls.quiet_of (R2.out _)))
        rw [ss0_int]
        obtain ⟨wa, hwwa⟩ : ∃ z, z = wr.drewN nq := ⟨_, rfl⟩
        have e0 : wa.cell? ⟨gv, k - 16, none⟩ = some (.int .u32 (x0.toNat : Int)) := by rw [hwwa]; exact c0'
        have e1 : wa.cell? ⟨gv, k - 15, none⟩ = some (.int .u32 (x1.toNat : Int)) := by rw [hwwa]; exact c1'
        have e2 : wa.cell? ⟨gv, k - 7, none⟩ = some (.int .u32 (x2.toNat : Int)) := by rw [hwwa]; exact c2'
        have e3 : wa.cell? ⟨gv, k - 2, none⟩ = some (.int .u32 (x3.toNat : Int)) := by rw [hwwa]; exact c3'
        have HOwa := Lib.hid (show wa.ownsRow Hw 127 1 (.slice (some ⟨gv, 0, none⟩) k cv) k ((sch blk k).map wv) by rw [hwwa]; exact HOwr.out)
        have HBwa := Lib.hid (show Below Hw wo wa by rw [hwwa]; exact below_drewN HBwr.out)
        have Swa : Hw ≤ wa.heap.size := by rw [hwwa]; exact Swr
        rw [← hwwa]
        clear c0' c1' c2' c3' hwwa
        go_wp2_with fail
        go_quiet (first
          | (go_at_call 105; with_reducible exact Calls.quiet_of (R3.out _))
          | (go_at_call 105; with_reducible exact Calls.quiet_of (R4.out _)))
        rw [ss1_int]
        obtain ⟨wb, hwwb⟩ : ∃ z, z = wa.drewN nq := ⟨_, rfl⟩
        have d0 : wb.cell? ⟨gv, k - 16, none⟩ = some (.int .u32 (x0.toNat : Int)) := by rw [hwwb]; exact e0
        have d1 : wb.cell? ⟨gv, k - 15, none⟩ = some (.int .u32 (x1.toNat : Int)) := by rw [hwwb]; exact e1
        have d2 : wb.cell? ⟨gv, k - 7, none⟩ = some (.int .u32 (x2.toNat : Int)) := by rw [hwwb]; exact e2
        have d3 : wb.cell? ⟨gv, k - 2, none⟩ = some (.int .u32 (x3.toNat : Int)) := by rw [hwwb]; exact e3
        have HOwb := Lib.hid (show wb.ownsRow Hw 127 1 (.slice (some ⟨gv, 0, none⟩) k cv) k ((sch blk k).map wv) by rw [hwwb]; exact HOwa.out)
        have HBwb := Lib.hid (show Below Hw wo wb by rw [hwwb]; exact below_drewN HBwa.out)
        have Swb : Hw ≤ wb.heap.size := by rw [hwwb]; exact Swa
        rw [← hwwb]
        clear e0 e1 e2 e3 hwwb
        have S1 : Hw ≤ wb.heap.size + 1 := by omega
        have hgb : gv < wb.heap.size := by have := (HOwb.out.lt gv rfl).2; exact this
        go_wp2_with fail
        refine wp_region_noPanic ?_
        go_region_law ((refine step_append_lies _ (by rfl) _ _ _ (by rfl) Hw 127 j0 _ 1 4 Tryz.underlying136 hj hy0 hy1 hy2 rfl (by omega) (.slice (some ⟨gv, 0, none⟩) k cv) k ((sch blk k).map wv) (by rfl) ((HOwb.out.alloc _).drew) ⟨wb.heap.size, 0, none⟩ 1 1 [_] (by rfl) (by rfl) (World.news_of_block (cs := #[_]) (t := 127) (fr := (0, 0)) (heap_alloc_new wb _)) (by simp [Value.oneCell']) (by omega) HN9.out HBY.out (by simpa using S1) (wb.heap.size + 1) (by simp) ?_; intro gg cap w5 hown5 hgrow5 hat5 hlt5))
        all_goals
          refine NoPanic.normal ?_
          have HO5 := Lib.hid hown5
          have HG5 := Lib.hid (hgrow_of HOwb.out HBwb.out.drew Swb (Nat.le_refl _) hgrow5)
          clear hown5 hgrow5 hat5 d0 d1 d2 d3 a1 a2 a3 a4 a1' a2' a3' a4' b1 b2 b3 b4 f1 f2 f3 f4 g1 g2 g3 g4
          go_wp2
          go_roundw
          case rel =>
            have h5 := HO5.out
            simp only [u32w] at h5
            rw [wadd, wadd, wadd, ← HE.out] at h5
            exact ⟨k + 1, by omega, by go_num, by rw [HS.out, List.map_append]; exact h5, HG5.out⟩
          case measure => simp [intOf]; omega
    · obtain rfl : k = 64 := by omega
      have HO := Lib.hid hown
      have HBB := Lib.hid hb
      clear hown hb
      go_wp2_with fail
      exact HX.out _ _ _ _ _ _ _ _ _ _ _ _ _ _ _ _ _ _ _ _ _ _ _ _ _ _ _ _ _ _ _ _ _ _ _ _ _ _ _ _ _ _ _ _ _ _ _ _ _ _ _ _ _ _ _ _ _ _ _ _ _ _ _ _ _ _ _ _ _ _ _ _ _ _ _ _ _ _ _ _ _ _ _ _ _ _ _ _ _ _ _ _ _ _ _ _ _ _ _ _ _ _ _ _ _ _ _ _ _ _ _ _ HO.out HBB.out
end
end Go.Proofs.YthoaaieiiokcmaaGreatDoor
