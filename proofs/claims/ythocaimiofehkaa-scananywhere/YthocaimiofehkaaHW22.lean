/- The reference's Sum: one word of a block's plan. -/
import Derived.Test.YthocaimiofehkaaHW19
namespace Go.Proofs.Ythocaimiofehkaa.Hs
open Go.RowKit HashMath

set_option maxHeartbeats 20000000 in
set_option maxRecDepth 100000 in
theorem round4 {x0 x1 x2 x3 x4 x6 x7 x8 x12 x13 x14 x15 x16 x17 x18 x19 x20 x21 x22 x23 x24 x25 x26 x27 x28 x29 x30 x31 x32 x33 x34 x35 x36 x37 x38 x39 x40 x41 x42 x43 x44 x45 x46 x47 x48 x49 x50 x51 x52 x53 x54 x55 x56 x57 x58 x59 x60 x61 x62 x63 x64 x65 x66 x67 x68 x69 x70 x71 x72 x73 x74 x75 x76 x77 x78 x79 x80 x81 x82 x83 x84 x85 x86 x87 x88 x89 x90 x91 x92 x93 x94 x95 x96 x97 x98 x99 x100 x101 x102 x103 x104 x105 x106 x107 x108 x109 x110 x111 x112 x113 x114 x115 x116 x117 x118 x119 x120 x121 x122 x123 x124 x125 x126 x127 x128 x129 x130 x131 x132 x133 x134 x135 x136 x137 x138 x139 x140 x141 x142 x143 x144 x145 x146 x147 x148 x149 x150 x151 x152 x153 x154 x155 x156 x157 x158 x159 x160 x161 x162 x163 x164 x165 x166 x167 x168 x169 x170 x171 x172 x173 x174 x175 x176 x177 x178 x179 x180 x181 x182 x183 x184 x185 x186 x187 x188 x189 x190 x191 x192 x193 x194 x195 x196 x197 x198 x199 x200 x201 x202 x203 x204 x205 x206 x207 x208 x209 x210 x211 x212 x213 x214 x215 x216 x217 x218 x219 x220 x221 x222 x223 x224 x225 x226 x227 x228 x229 x230 x231 x232 x233 x234 x235 x236 x237 x238 x239 x240 x241 x242 x243 x244 x245 x246 x247 x248 x249 x250 x251 x252 x253 x254 x255 x256 x257 x258 x259 x260 x261 x262 x263 x264 x265 x266 x267 x268 x269 x270 x271 x272 x273 x274 x275 x276 x277 x278 x279 x280 x281 x282 x283 x284 x285 x286 x287 x288 x289 x290 x291 x292 x293 x294 x295 x296 x297 x298 x299 x300 x301 x302 x303 x304 x305 : Value} (p : List By) (W00 W0 W5 : World) (gq cq a i : Nat) (u10 : Value) (Q : Exit → Act → World → Prop) (hqL : (pad p).length ≤ 2100) (hcq : (pad p).length ≤ cq) (hgq2 : gq < W00.heap.size)
    (hby : BytesAt W00 gq 0 (pad p)) (hB0 : Below W00.heap.size W00 W0) (h64 : a + 64 ≤ (pad p).length) (hi64 : i < 64) (hrow : RowRel W0 68 ((plan (((pad p).drop a).take 64) i).map vw) u10 W5)
    (hQ : ∀ {y12 y13 y14 y67 y68 y69 y70 y71 y72 y73 y74 y75 y76 y77 y78 y79 y80 y81 y82 y83 y84 y85 y86 y87 y88 y89 y90 y91 y92 y93 y94 y95 y96 y97 y98 y99 y100 y101 y102 y103 y104 y105 y106 y107 y108 y109 y110 y111 y112 y113 y114 y115 y116 y117 y118 y119 y120 y121 y122 y123 y124 y125 y126 y127 y128 y129 y130 y131 y132 y133 y134 y135 y136 y137 y138 y139 y140 y141 y142 y143 y144 y145 : Value} (v' : Value) (w' : World), RowRel W0 68 ((plan (((pad p).drop a).take 64) (i + 1)).map vw) v' w' → Q .normal { tmps := List.toArray (x0 :: x1 :: x2 :: x3 :: x4 :: (.slice (some ⟨gq, 0, none⟩) (pad p).length cq) :: x6 :: x7 :: x8 :: (.int .i64 a) :: (v') :: (.int .i64 ((i : Int) + 1)) :: y12 :: y13 :: y14 :: x15 :: x16 :: x17 :: x18 :: x19 :: x20 :: x21 :: x22 :: x23 :: x24 :: x25 :: x26 :: x27 :: x28 :: x29 :: x30 :: x31 :: x32 :: x33 :: x34 :: x35 :: x36 :: x37 :: x38 :: x39 :: x40 :: x41 :: x42 :: x43 :: x44 :: x45 :: x46 :: x47 :: x48 :: x49 :: x50 :: x51 :: x52 :: x53 :: x54 :: x55 :: x56 :: x57 :: x58 :: x59 :: x60 :: x61 :: x62 :: x63 :: x64 :: x65 :: x66 :: y67 :: y68 :: y69 :: y70 :: y71 :: y72 :: y73 :: y74 :: y75 :: y76 :: y77 :: y78 :: y79 :: y80 :: y81 :: y82 :: y83 :: y84 :: y85 :: y86 :: y87 :: y88 :: y89 :: y90 :: y91 :: y92 :: y93 :: y94 :: y95 :: y96 :: y97 :: y98 :: y99 :: y100 :: y101 :: y102 :: y103 :: y104 :: y105 :: y106 :: y107 :: y108 :: y109 :: y110 :: y111 :: y112 :: y113 :: y114 :: y115 :: y116 :: y117 :: y118 :: y119 :: y120 :: y121 :: y122 :: y123 :: y124 :: y125 :: y126 :: y127 :: y128 :: y129 :: y130 :: y131 :: y132 :: y133 :: y134 :: y135 :: y136 :: y137 :: y138 :: y139 :: y140 :: y141 :: y142 :: y143 :: y144 :: y145 :: x146 :: x147 :: x148 :: x149 :: x150 :: x151 :: x152 :: x153 :: x154 :: x155 :: x156 :: x157 :: x158 :: x159 :: x160 :: x161 :: x162 :: x163 :: x164 :: x165 :: x166 :: x167 :: x168 :: x169 :: x170 :: x171 :: x172 :: x173 :: x174 :: x175 :: x176 :: x177 :: x178 :: x179 :: x180 :: x181 :: x182 :: x183 :: x184 :: x185 :: x186 :: x187 :: x188 :: x189 :: x190 :: x191 :: x192 :: x193 :: x194 :: x195 :: x196 :: x197 :: x198 :: x199 :: x200 :: x201 :: x202 :: x203 :: x204 :: x205 :: x206 :: x207 :: x208 :: x209 :: x210 :: x211 :: x212 :: x213 :: x214 :: x215 :: x216 :: x217 :: x218 :: x219 :: x220 :: x221 :: x222 :: x223 :: x224 :: x225 :: x226 :: x227 :: x228 :: x229 :: x230 :: x231 :: x232 :: x233 :: x234 :: x235 :: x236 :: x237 :: x238 :: x239 :: x240 :: x241 :: x242 :: x243 :: x244 :: x245 :: x246 :: x247 :: x248 :: x249 :: x250 :: x251 :: x252 :: x253 :: x254 :: x255 :: x256 :: x257 :: x258 :: x259 :: x260 :: x261 :: x262 :: x263 :: x264 :: x265 :: x266 :: x267 :: x268 :: x269 :: x270 :: x271 :: x272 :: x273 :: x274 :: x275 :: x276 :: x277 :: x278 :: x279 :: x280 :: x281 :: x282 :: x283 :: x284 :: x285 :: x286 :: x287 :: x288 :: x289 :: x290 :: x291 :: x292 :: x293 :: x294 :: x295 :: x296 :: x297 :: x298 :: x299 :: x300 :: x301 :: x302 :: x303 :: x304 :: x305 :: []), defers := [] } w') :
    Code.wp Try.prog (cIn (cIn (cRight (cLeft (cRight (cIn (cLeft (cRight (cIn (cIn (cRight (cLeft (cRight (cRight (cRight (cRight (cRight (cRight (cRight (cRight (Try.f33.body.getD .skip))))))))))))))))))))) Q { tmps := List.toArray (x0 :: x1 :: x2 :: x3 :: x4 :: (.slice (some ⟨gq, 0, none⟩) (pad p).length cq) :: x6 :: x7 :: x8 :: (.int .i64 a) :: (u10) :: (.int .i64 i) :: x12 :: x13 :: x14 :: x15 :: x16 :: x17 :: x18 :: x19 :: x20 :: x21 :: x22 :: x23 :: x24 :: x25 :: x26 :: x27 :: x28 :: x29 :: x30 :: x31 :: x32 :: x33 :: x34 :: x35 :: x36 :: x37 :: x38 :: x39 :: x40 :: x41 :: x42 :: x43 :: x44 :: x45 :: x46 :: x47 :: x48 :: x49 :: x50 :: x51 :: x52 :: x53 :: x54 :: x55 :: x56 :: x57 :: x58 :: x59 :: x60 :: x61 :: x62 :: x63 :: x64 :: x65 :: x66 :: x67 :: x68 :: x69 :: x70 :: x71 :: x72 :: x73 :: x74 :: x75 :: x76 :: x77 :: x78 :: x79 :: x80 :: x81 :: x82 :: x83 :: x84 :: x85 :: x86 :: x87 :: x88 :: x89 :: x90 :: x91 :: x92 :: x93 :: x94 :: x95 :: x96 :: x97 :: x98 :: x99 :: x100 :: x101 :: x102 :: x103 :: x104 :: x105 :: x106 :: x107 :: x108 :: x109 :: x110 :: x111 :: x112 :: x113 :: x114 :: x115 :: x116 :: x117 :: x118 :: x119 :: x120 :: x121 :: x122 :: x123 :: x124 :: x125 :: x126 :: x127 :: x128 :: x129 :: x130 :: x131 :: x132 :: x133 :: x134 :: x135 :: x136 :: x137 :: x138 :: x139 :: x140 :: x141 :: x142 :: x143 :: x144 :: x145 :: x146 :: x147 :: x148 :: x149 :: x150 :: x151 :: x152 :: x153 :: x154 :: x155 :: x156 :: x157 :: x158 :: x159 :: x160 :: x161 :: x162 :: x163 :: x164 :: x165 :: x166 :: x167 :: x168 :: x169 :: x170 :: x171 :: x172 :: x173 :: x174 :: x175 :: x176 :: x177 :: x178 :: x179 :: x180 :: x181 :: x182 :: x183 :: x184 :: x185 :: x186 :: x187 :: x188 :: x189 :: x190 :: x191 :: x192 :: x193 :: x194 :: x195 :: x196 :: x197 :: x198 :: x199 :: x200 :: x201 :: x202 :: x203 :: x204 :: x205 :: x206 :: x207 :: x208 :: x209 :: x210 :: x211 :: x212 :: x213 :: x214 :: x215 :: x216 :: x217 :: x218 :: x219 :: x220 :: x221 :: x222 :: x223 :: x224 :: x225 :: x226 :: x227 :: x228 :: x229 :: x230 :: x231 :: x232 :: x233 :: x234 :: x235 :: x236 :: x237 :: x238 :: x239 :: x240 :: x241 :: x242 :: x243 :: x244 :: x245 :: x246 :: x247 :: x248 :: x249 :: x250 :: x251 :: x252 :: x253 :: x254 :: x255 :: x256 :: x257 :: x258 :: x259 :: x260 :: x261 :: x262 :: x263 :: x264 :: x265 :: x266 :: x267 :: x268 :: x269 :: x270 :: x271 :: x272 :: x273 :: x274 :: x275 :: x276 :: x277 :: x278 :: x279 :: x280 :: x281 :: x282 :: x283 :: x284 :: x285 :: x286 :: x287 :: x288 :: x289 :: x290 :: x291 :: x292 :: x293 :: x294 :: x295 :: x296 :: x297 :: x298 :: x299 :: x300 :: x301 :: x302 :: x303 :: x304 :: x305 :: []), defers := [] } W5 := by
  have HBy := Lib.hid hby; have HB0 := Lib.hid hB0; have HRow := Lib.hid hrow
  clear hby hB0 hrow
  dsimp only [Try.f33, cRight, cLeft, cIn, Option.getD]
  by_cases h16 : i < 16
  · have hbs := (SrcIs.drop (HBy.out.below HB0.out (HBy.out.lt (by omega))) a (by omega)).take 64
    rw [Nat.zero_add] at hbs
    have hbs5 := hbs.below HRow.out.below (hbs.lt (by simp; omega))
    have hl64 : (((pad p).drop a).take 64).length = 64 := by simp; omega
    have d0 := hbs5.getD (4 * i) (by omega)
    have d1 := hbs5.getD (4 * i + 1) (by omega)
    have d2 := hbs5.getD (4 * i + 2) (by omega)
    have d3 := hbs5.getD (4 * i + 3) (by omega)
    have HPn : Hid (plan (((pad p).drop a).take 64) (i + 1) = plan (((pad p).drop a).take 64) i ++ [word ((((pad p).drop a).take 64).getD (4 * i) 0) ((((pad p).drop a).take 64).getD (4 * i + 1) 0) ((((pad p).drop a).take 64).getD (4 * i + 2) 0) ((((pad p).drop a).take 64).getD (4 * i + 3) 0)]) := by
      show plan (((pad p).drop a).take 64) i ++ [if i < 16 then wordAt (((pad p).drop a).take 64) i else next (plan (((pad p).drop a).take 64) i)] = _
      rw [if_pos h16]; rfl
    have HPlen := Lib.hid (plan_length (((pad p).drop a).take 64) i)
    clear hbs hbs5 hl64
    generalize (((pad p).drop a).take 64).getD (4 * i) 0 = x0 at *
    generalize (((pad p).drop a).take 64).getD (4 * i + 1) 0 = x1 at *
    generalize (((pad p).drop a).take 64).getD (4 * i + 2) 0 = x2 at *
    generalize (((pad p).drop a).take 64).getD (4 * i + 3) 0 = x3 at *
    have hcq2 : ¬ cq = a + 4 * i := by omega
    have hi16 : (i : Int) < 16 := by omega
    have hi64' : (i : Int) < 64 := by omega
    have hq3 : (3 : Int) < (((pad p).length - (a + 4 * i) : Nat) : Int) := by omega
    go_upto_region 21 with fail
    generalize (pad p).length - (a + 4 * i) = qn at *
    have hq0 : (0 : Int) < (qn : Int) := by omega
    have hq0n : 0 < qn := by omega
    have hq1 : (1 : Int) < (qn : Int) := by omega
    have hq2 : (2 : Int) < (qn : Int) := by omega
    rw [← Nat.add_assoc] at d1 d2 d3
    have hgq5 : gq < W5.heap.size := by have := HRow.out.below.size; have := HB0.out.size; omega
    have HRowA := Lib.hid ((HRow.out.alloc (.cells #[.int .u32 (u (word x0 x1 x2 x3))] 68)).drew)
    have hne : ∀ b, u10.ownBlock = some b → gq ≠ b := fun b hb => by
      have h1 := (HRow.out.own.lt b hb).1
      have h2 := HB0.out.size
      omega
    have HNe := Lib.hid hne; clear hne
    have hsum := word_sum x0 x1 x2 x3
    go_region_held3 (fun w' => w'.cell? ⟨gq, a + 4 * i, none⟩ = some (vb x0) ∧ w'.cell? ⟨gq, a + 4 * i + 1, none⟩ = some (vb x1) ∧ w'.cell? ⟨gq, a + 4 * i + 2, none⟩ = some (vb x2) ∧ w'.cell? ⟨gq, a + 4 * i + 3, none⟩ = some (vb x3))
      (first
        | go_keep
        | (go_split_ands
           refine ⟨?_, ?_, ?_, ?_⟩
           · (rw [hkept _ _ (by simp; omega) (fun e => absurd rfl (HNe.out _ e))]; assumption)
           · (rw [hkept _ _ (by simp; omega) (fun e => absurd rfl (HNe.out _ e))]; assumption)
           · (rw [hkept _ _ (by simp; omega) (fun e => absurd rfl (HNe.out _ e))]; assumption)
           · (rw [hkept _ _ (by simp; omega) (fun e => absurd rfl (HNe.out _ e))]; assumption)))
      ((refine step_push Try.underlying45 info38 rfl (by decide) (by rfl) (.tmp 79) (.tmp 102) (by rfl) HRowA.out (by rfl) [.int .u32 (u (word x0 x1 x2 x3))] 1 rfl ⟨W5.heap.size, 0, none⟩ (by rfl) (new_cells W5 68 [.int .u32 (u (word x0 x1 x2 x3))]) rfl (by rw [List.length_map, HPlen.out]; omega) ?_; intro v' w' hr hkept))
    have HN2 : Hid (RowRel W0 68 ((plan (((pad p).drop a).take 64) (i + 1)).map vw) v' w') := by
      rw [HPn.out, List.map_append]; exact hr
    clear hr hkept HRow HRowA d0 d1 d2 d3 hsum
    go_wp2_with fail
    exact HN2.out
  · obtain ⟨g5, c5, hv5, hg51, hg52, hrng, _⟩ := HRow.out.at (by rw [List.length_map, plan_length]; omega)
    rw [List.length_map, plan_length] at hv5
    subst hv5
    have e15 := plan_cell hrng (i - 15) (by rw [plan_length]; omega)
    have e2 := plan_cell hrng (i - 2) (by rw [plan_length]; omega)
    have e16 := plan_cell hrng (i - 16) (by rw [plan_length]; omega)
    have e7 := plan_cell hrng (i - 7) (by rw [plan_length]; omega)
    have HPlen := Lib.hid (plan_length (((pad p).drop a).take 64) i)
    have HPn : Hid (plan (((pad p).drop a).take 64) (i + 1) = plan (((pad p).drop a).take 64) i ++ [(plan (((pad p).drop a).take 64) i).getD (i - 16) 0 + (rotr ((plan (((pad p).drop a).take 64) i).getD (i - 15) 0) 7 ^^^ rotr ((plan (((pad p).drop a).take 64) i).getD (i - 15) 0) 18 ^^^ (plan (((pad p).drop a).take 64) i).getD (i - 15) 0 >>> 3) + (plan (((pad p).drop a).take 64) i).getD (i - 7) 0 + (rotr ((plan (((pad p).drop a).take 64) i).getD (i - 2) 0) 17 ^^^ rotr ((plan (((pad p).drop a).take 64) i).getD (i - 2) 0) 19 ^^^ (plan (((pad p).drop a).take 64) i).getD (i - 2) 0 >>> 10)]) := by
      show plan (((pad p).drop a).take 64) i ++ [if i < 16 then wordAt (((pad p).drop a).take 64) i else next (plan (((pad p).drop a).take 64) i)] = _
      rw [if_neg h16, next_sum _ i HPlen.out]
    clear hrng
    generalize (plan (((pad p).drop a).take 64) i).getD (i - 15) 0 = xa at *
    generalize (plan (((pad p).drop a).take 64) i).getD (i - 2) 0 = xb at *
    generalize (plan (((pad p).drop a).take 64) i).getD (i - 16) 0 = xc at *
    generalize (plan (((pad p).drop a).take 64) i).getD (i - 7) 0 = xd at *
    have i15 : IntKind.i64.wrap ((i : Int) - 15) = i - 15 := IntWalk.i64_in _ (by omega)
    have i2 : IntKind.i64.wrap ((i : Int) - 2) = i - 2 := IntWalk.i64_in _ (by omega)
    have i16 : IntKind.i64.wrap ((i : Int) - 16) = i - 16 := IntWalk.i64_in _ (by omega)
    have i7 : IntKind.i64.wrap ((i : Int) - 7) = i - 7 := IntWalk.i64_in _ (by omega)
    have b15 : (0 : Int) ≤ (i : Int) - 15 ∧ (i : Int) - 15 < (i : Int) ∧ ((i : Int) - 15).toNat = i - 15 ∧ (15 : Int) ≤ i := ⟨by omega, by omega, by omega, by omega⟩
    have b2 : (0 : Int) ≤ (i : Int) - 2 ∧ (i : Int) - 2 < (i : Int) ∧ ((i : Int) - 2).toNat = i - 2 ∧ (2 : Int) ≤ i := ⟨by omega, by omega, by omega, by omega⟩
    have b16 : (0 : Int) ≤ (i : Int) - 16 ∧ (i : Int) - 16 < (i : Int) ∧ ((i : Int) - 16).toNat = i - 16 ∧ (16 : Int) ≤ i := ⟨by omega, by omega, by omega, by omega⟩
    have b7 : (0 : Int) ≤ (i : Int) - 7 ∧ (i : Int) - 7 < (i : Int) ∧ ((i : Int) - 7).toNat = i - 7 ∧ (7 : Int) ≤ i := ⟨by omega, by omega, by omega, by omega⟩
    have hi16 : ¬ (i : Int) < 16 := by omega
    have hi64' : (i : Int) < 64 := by omega
    go_upto_region 22 with fail
    refine wp_region_still_lit (by kernel_rfl) (by kernel_rfl) ?_
    replace e15 : W5.drew.cell? ⟨g5, i - 15, none⟩ = _ := e15
    replace e2 : W5.drew.cell? ⟨g5, i - 2, none⟩ = _ := e2
    replace e16 : W5.drew.cell? ⟨g5, i - 16, none⟩ = _ := e16
    replace e7 : W5.drew.cell? ⟨g5, i - 7, none⟩ = _ := e7
    replace HRow := Lib.hid HRow.out.drew
    replace hg52 : g5 < W5.drew.heap.size := hg52
    change wpStill _ _ W5.drew (fun a' => Exit.then _ _ _ a' W5.drew) _ _
    generalize W5.drew = W6 at *
    repeat still_step
    refine wpStill_nil ?_
    go_upto_region 23 with fail
    clear e15 e2
    have HRowA := Lib.hid ((HRow.out.alloc (.cells #[.int .u32 (u (xc + (rotr xa 7 ^^^ rotr xa 18 ^^^ xa >>> 3) + xd + (rotr xb 17 ^^^ rotr xb 19 ^^^ xb >>> 10)))] 68)).drew.drew.drew.drew.drew)
    go_region_held3 (fun w' => w'.cell? ⟨g5, i - 16, none⟩ = some (vw xc) ∧ w'.cell? ⟨g5, i - 7, none⟩ = some (vw xd))
      (first
        | go_keep
        | (go_split_ands
           refine ⟨?_, ?_⟩
           · (rw [hkept _ _ (by simp; omega) (fun _ => by rw [List.length_map, HPlen.out]; omega)]; assumption)
           · (rw [hkept _ _ (by simp; omega) (fun _ => by rw [List.length_map, HPlen.out]; omega)]; assumption)))
      (first
        | (go_at_call 46; ((with_reducible refine (turned7 xa _).mono ?_); rintro e w' ⟨rfl, rfl⟩))
        | (go_at_call 46; ((with_reducible refine (turned18 xa _).mono ?_); rintro e w' ⟨rfl, rfl⟩))
        | (go_at_call 46; ((with_reducible refine (turned17 xb _).mono ?_); rintro e w' ⟨rfl, rfl⟩))
        | (go_at_call 46; ((with_reducible refine (turned19 xb _).mono ?_); rintro e w' ⟨rfl, rfl⟩))
        | (refine step_push Try.underlying45 info38 rfl (by decide) (by rfl) (.tmp 114) (.tmp 144) (by rfl) HRowA.out (by rfl) [.int .u32 (u (xc + (rotr xa 7 ^^^ rotr xa 18 ^^^ xa >>> 3) + xd + (rotr xb 17 ^^^ rotr xb 19 ^^^ xb >>> 10)))] 1 rfl ⟨W6.heap.size, 0, none⟩ (by rfl) (new_cells W6 68 [.int .u32 (u (xc + (rotr xa 7 ^^^ rotr xa 18 ^^^ xa >>> 3) + xd + (rotr xb 17 ^^^ rotr xb 19 ^^^ xb >>> 10)))]) rfl (by rw [List.length_map, HPlen.out]; omega) ?_; intro v' w' hr hkept))
    have HN2 : Hid (RowRel W0 68 ((plan (((pad p).drop a).take 64) (i + 1)).map vw) v' w') := by
      rw [HPn.out, List.map_append]; exact hr
    clear hr hkept HRow HRowA e16 e7
    go_wp2_with fail
    exact HN2.out
end Go.Proofs.Ythocaimiofehkaa.Hs
