/- The reference's Sum: its blocks, one behind the other. -/
import Derived.Test.YthocaimiofehkaaHW22
namespace Go.Proofs.Ythocaimiofehkaa.Hs
open Go.RowKit HashMath

set_option maxHeartbeats 40000000 in
set_option maxRecDepth 100000 in
theorem tailB {x0 x1 x3 x4 x6 x7 x9 x10 x11 x12 x13 x14 x15 x16 x17 x18 x19 x20 x21 x22 x23 x24 x25 x26 x27 x28 x29 x30 x31 x32 x33 x34 x35 x36 x37 x38 x39 x40 x41 x42 x43 x44 x45 x46 x47 x48 x49 x50 x51 x52 x53 x54 x55 x56 x57 x58 x59 x60 x61 x62 x63 x64 x65 x66 x67 x68 x69 x70 x71 x72 x73 x74 x75 x76 x77 x78 x79 x80 x81 x82 x83 x84 x85 x86 x87 x88 x89 x90 x91 x92 x93 x94 x95 x96 x97 x98 x99 x100 x101 x102 x103 x104 x105 x106 x107 x108 x109 x110 x111 x112 x113 x114 x115 x116 x117 x118 x119 x120 x121 x122 x123 x124 x125 x126 x127 x128 x129 x130 x131 x132 x133 x134 x135 x136 x137 x138 x139 x140 x141 x142 x143 x144 x145 x146 x147 x148 x149 x150 x151 x152 x153 x154 x155 x156 x157 x158 x159 x160 x161 x162 x163 x164 x165 x166 x167 x168 x169 x170 x171 x172 x173 x174 x175 x176 x177 x178 x179 x180 x181 x182 x183 x184 x185 x186 x187 x188 x189 x190 x191 x192 x193 x194 x195 x196 x197 x198 x199 x200 x201 x202 x203 x204 x205 x206 x207 x208 x209 x210 x211 x212 x213 x214 x215 x216 x217 x218 x219 x220 x221 x222 x223 x224 x225 x226 x227 x228 x229 x230 x231 x232 x233 x234 x235 x236 x237 x238 x239 x240 x241 x242 x243 x244 x245 x246 x247 x248 x249 x250 x251 x252 x253 x254 x255 x256 x257 x258 x259 x260 x261 x262 x263 x264 x265 x266 x267 x268 x269 x270 x271 x272 x273 x274 x275 x276 x277 x278 x279 x280 x281 x282 x283 x284 x285 x286 x287 x288 x289 x290 x291 x292 x293 x294 x295 x296 x297 x298 x299 x300 x301 x302 x303 x304 x305 : Value} (p : List By) (w W00 w4 : World) (gq cq gh0 ch0 gk ck : Nat) (hpl : (pad p).length ≤ 2100) (hcq : (pad p).length ≤ cq) (hgq2 : gq < W00.heap.size) (hw0q : w.heap.size < W00.heap.size)
    (hBw : Below w.heap.size w W00) (hbx1 : W00.cell? ⟨w.heap.size, 1, none⟩ = some (.slice (some ⟨gk, 0, none⟩) 64 ck)) (htk : W00.rangeAt gk 0 (K0.map vw)) (hby : BytesAt W00 gq 0 (pad p)) (hH0 : HRel W00 gh0 H0 w4) {K1 K2 : Act → World → Prop} (hK2 : ∀ zs zw, Code.wp Try.prog (cRight (cLeft (cRight (cRight (cRight (cRight (cRight (cRight (cRight (cRight (Try.f33.body.getD .skip))))))))))) (Exit.then K1 (bodyPost Try.prog Try.f33 fun e w' => ∃ v, e = .returned v ∧ w'.ownsRow w.heap.size 5 1 v 32 ((sum p).map vb) ∧ Below w.heap.size w w')) zs zw → K2 zs zw) (hK1 : ∀ zs zw, Code.wp Try.prog (cRight (cRight (cRight (cRight (cRight (cRight (cRight (cRight (cRight (Try.f33.body.getD .skip)))))))))) (bodyPost Try.prog Try.f33 fun e w' => ∃ v, e = .returned v ∧ w'.ownsRow w.heap.size 5 1 v 32 ((sum p).map vb) ∧ Below w.heap.size w w') zs zw → K1 zs zw) :
    Code.wp Try.prog (cLeft (cLeft (cRight (cRight (cRight (cRight (cRight (cRight (cRight (cRight (Try.f33.body.getD .skip))))))))))) (Exit.then K2 (Exit.then K1 (bodyPost Try.prog Try.f33 fun e w' => ∃ v, e = .returned v ∧ w'.ownsRow w.heap.size 5 1 v 32 ((sum p).map vb) ∧ Below w.heap.size w w'))) { tmps := List.toArray (x0 :: x1 :: (.pointer (some ⟨w.heap.size, 0, none⟩)) :: x3 :: x4 :: (.slice (some ⟨gq, 0, none⟩) (pad p).length cq) :: x6 :: x7 :: (.slice (some ⟨gh0, 0, none⟩) 8 ch0) :: x9 :: x10 :: x11 :: x12 :: x13 :: x14 :: x15 :: x16 :: x17 :: x18 :: x19 :: x20 :: x21 :: x22 :: x23 :: x24 :: x25 :: x26 :: x27 :: x28 :: x29 :: x30 :: x31 :: x32 :: x33 :: x34 :: x35 :: x36 :: x37 :: x38 :: x39 :: x40 :: x41 :: x42 :: x43 :: x44 :: x45 :: x46 :: x47 :: x48 :: x49 :: x50 :: x51 :: x52 :: x53 :: x54 :: x55 :: x56 :: x57 :: x58 :: x59 :: x60 :: x61 :: x62 :: x63 :: x64 :: x65 :: x66 :: x67 :: x68 :: x69 :: x70 :: x71 :: x72 :: x73 :: x74 :: x75 :: x76 :: x77 :: x78 :: x79 :: x80 :: x81 :: x82 :: x83 :: x84 :: x85 :: x86 :: x87 :: x88 :: x89 :: x90 :: x91 :: x92 :: x93 :: x94 :: x95 :: x96 :: x97 :: x98 :: x99 :: x100 :: x101 :: x102 :: x103 :: x104 :: x105 :: x106 :: x107 :: x108 :: x109 :: x110 :: x111 :: x112 :: x113 :: x114 :: x115 :: x116 :: x117 :: x118 :: x119 :: x120 :: x121 :: x122 :: x123 :: x124 :: x125 :: x126 :: x127 :: x128 :: x129 :: x130 :: x131 :: x132 :: x133 :: x134 :: x135 :: x136 :: x137 :: x138 :: x139 :: x140 :: x141 :: x142 :: x143 :: x144 :: x145 :: x146 :: x147 :: x148 :: x149 :: x150 :: x151 :: x152 :: x153 :: x154 :: x155 :: x156 :: x157 :: x158 :: x159 :: x160 :: x161 :: x162 :: x163 :: x164 :: x165 :: x166 :: x167 :: x168 :: x169 :: x170 :: x171 :: x172 :: x173 :: x174 :: x175 :: x176 :: x177 :: x178 :: x179 :: x180 :: x181 :: x182 :: x183 :: x184 :: x185 :: x186 :: x187 :: x188 :: x189 :: x190 :: x191 :: x192 :: x193 :: x194 :: x195 :: x196 :: x197 :: x198 :: x199 :: x200 :: x201 :: x202 :: x203 :: x204 :: x205 :: x206 :: x207 :: x208 :: x209 :: x210 :: x211 :: x212 :: x213 :: x214 :: x215 :: x216 :: x217 :: x218 :: x219 :: x220 :: x221 :: x222 :: x223 :: x224 :: x225 :: x226 :: x227 :: x228 :: x229 :: x230 :: x231 :: x232 :: x233 :: x234 :: x235 :: x236 :: x237 :: x238 :: x239 :: x240 :: x241 :: x242 :: x243 :: x244 :: x245 :: x246 :: x247 :: x248 :: x249 :: x250 :: x251 :: x252 :: x253 :: x254 :: x255 :: x256 :: x257 :: x258 :: x259 :: x260 :: x261 :: x262 :: x263 :: x264 :: x265 :: x266 :: x267 :: x268 :: x269 :: x270 :: x271 :: x272 :: x273 :: x274 :: x275 :: x276 :: x277 :: x278 :: x279 :: x280 :: x281 :: x282 :: x283 :: x284 :: x285 :: x286 :: x287 :: x288 :: x289 :: x290 :: x291 :: x292 :: x293 :: x294 :: x295 :: x296 :: x297 :: x298 :: x299 :: x300 :: x301 :: x302 :: x303 :: x304 :: x305 :: []), defers := [] } w4 := by
  have HBw := Lib.hid hBw; have HBx1 := Lib.hid hbx1; have HTK2 := Lib.hid htk; have HBy := Lib.hid hby; have HH0 := Lib.hid hH0
  have HPL := Lib.hid hpl
  have HPM := Lib.hid (pad_mod p)
  clear hBw hbx1 htk hby hH0 hpl
  dsimp only [Try.f33, cRight, cLeft, Option.getD] at hK1 hK2 ⊢
  go_wp2_with fail
  go_loopw [8, 9] (fun vh va wr => ∃ (k a g c : Nat), Hid (a = 64 * k) ∧ a ≤ (pad p).length ∧ va = .int .i64 a ∧ vh = .slice (some ⟨g, 0, none⟩) 8 c ∧ Hid (HRel W00 g (run K0 H0 (pad p) k) wr)) (fun _ va _ => (pad p).length - (intOf va).toNat)
  case atStart => exact ⟨0, 0, gh0, ch0, (rfl : 0 = 64 * 0), Nat.zero_le _, rfl, rfl, HH0.out⟩
  case round =>
    clear HH0
    rename World => W0
    obtain ⟨k, a, g1, c1, HAk, hale, rfl, rfl, HR⟩ := hrel
    by_cases hlt : a < (pad p).length
    · have h64 : a + 64 ≤ (pad p).length := by have := HAk.out; have := HPM.out; omega
      have hqL : (pad p).length ≤ 2100 := HPL.out
      have HBlk : Hid (plan (((pad p).drop (64 * k)).take 64) = plan (((pad p).drop a).take 64)) := by show _ = _; rw [HAk.out]
      go_upto_region 16 with fail
      go_wp2_with fail
      go_loopw [10, 11] (fun vp vi wr => ∃ i : Nat, i ≤ 64 ∧ vi = .int .i64 i ∧ Hid (RowRel W0 68 ((plan (((pad p).drop a).take 64) i).map vw) vp wr)) (fun _ vi _ => 64 - (intOf vi).toNat)
      case atStart => exact ⟨0, Nat.zero_le _, rfl, RowRel.none _ _⟩
      case round =>
        obtain ⟨i, hi64, rfl, HRow⟩ := hrel
        rename World => W5
        by_cases h64i : i < 64
        · refine round4 p W00 W0 W5 gq cq a i u10 _ hqL hcq hgq2 HBy.out HR.out.below h64 h64i HRow.out ?_
          intros
          rename_i v' w' hr
          have HN2 := Lib.hid hr; clear hr HRow
          go_wp2_with fail
          go_roundw
          case rel => exact ⟨i + 1, by omega, by go_num, HN2.out⟩
          case measure => simp [intOf]; omega
        · have HI64 : Hid (i = 64) := (by omega : i = 64)
          obtain ⟨g5, c5, hv5, hg51, hg52, hrng, _⟩ := HRow.out.at (by rw [List.length_map, plan_length]; omega)
          rw [List.length_map, plan_length] at hv5
          subst hv5
          have hM := hrng
          rw [HI64.out] at hM
          have HM5 := Lib.hid hM
          clear hM hrng
          have hw05 := HRow.out.below.size
          have hr5 : W5.rangeAt g1 0 (cellsS (run K0 H0 (pad p) k)) := rangeAt_below HR.out.range HRow.out.below HR.out.lt
          have HB5 : Hid (Below W00.heap.size W00 W5) := HR.out.below.trans (HRow.out.below.mono HR.out.below.size)
          have HK5 := Lib.hid (rangeAt_below HTK2.out HB5.out (rangeAt_lt HTK2.out (by simp [K0_length])))
          have HBx5 : Hid (W5.cell? ⟨w.heap.size, 1, none⟩ = some (.slice (some ⟨gk, 0, none⟩) 64 ck)) := by
            show _ = _; rw [HB5.out.cell (p := ⟨w.heap.size, 1, none⟩) (by show w.heap.size < _; omega)]; exact HBx1.out
          have HRun : Hid (run K0 H0 (pad p) (k + 1) = (run K0 H0 (pad p) k).plus (rnds K0 (plan (((pad p).drop a).take 64) 64) (run K0 H0 (pad p) k) 64)) := by
            show comp K0 (run K0 H0 (pad p) k) (((pad p).drop (64 * k)).take 64) = _
            unfold comp; rw [HBlk.out]
          have HML := Lib.hid (plan_length (((pad p).drop a).take 64) 64)
          generalize plan (((pad p).drop a).take 64) 64 = M at *
          generalize run K0 H0 (pad p) k = s0 at *
          have hr5' := hr5
          obtain ⟨ta, tb, tc, td, te, tf, tg, th⟩ := s0
          have f0 : W5.cell? ⟨g1, 0, none⟩ = some (vw ta) := hr5' 0 _ rfl
          have f1 : W5.cell? ⟨g1, 1, none⟩ = some (vw tb) := hr5' 1 _ rfl
          have f2 : W5.cell? ⟨g1, 2, none⟩ = some (vw tc) := hr5' 2 _ rfl
          have f3 : W5.cell? ⟨g1, 3, none⟩ = some (vw td) := hr5' 3 _ rfl
          have f4 : W5.cell? ⟨g1, 4, none⟩ = some (vw te) := hr5' 4 _ rfl
          have f5 : W5.cell? ⟨g1, 5, none⟩ = some (vw tf) := hr5' 5 _ rfl
          have f6 : W5.cell? ⟨g1, 6, none⟩ = some (vw tg) := hr5' 6 _ rfl
          have f7 : W5.cell? ⟨g1, 7, none⟩ = some (vw th) := hr5' 7 _ rfl
          have HR5 := Lib.hid hr5
          clear hr5 hr5'
          have hi64' : ¬ (i : Int) < 64 := by omega
          go_upto_region 24 with fail
          refine wp_region_still_lit (by kernel_rfl) (by kernel_rfl) ?_
          replace f0 : W5.drew.cell? ⟨g1, 0, none⟩ = _ := f0
          replace f1 : W5.drew.cell? ⟨g1, 1, none⟩ = _ := f1
          replace f2 : W5.drew.cell? ⟨g1, 2, none⟩ = _ := f2
          replace f3 : W5.drew.cell? ⟨g1, 3, none⟩ = _ := f3
          replace f4 : W5.drew.cell? ⟨g1, 4, none⟩ = _ := f4
          replace f5 : W5.drew.cell? ⟨g1, 5, none⟩ = _ := f5
          replace f6 : W5.drew.cell? ⟨g1, 6, none⟩ = _ := f6
          replace f7 : W5.drew.cell? ⟨g1, 7, none⟩ = _ := f7
          replace HR5 : Hid (W5.drew.rangeAt g1 0 (cellsS ⟨ta, tb, tc, td, te, tf, tg, th⟩)) := HR5
          replace HM5 : Hid (W5.drew.rangeAt g5 0 (M.map vw)) := HM5
          replace HK5 : Hid (W5.drew.rangeAt gk 0 (K0.map vw)) := HK5
          replace HBx5 : Hid (W5.drew.cell? ⟨w.heap.size, 1, none⟩ = _) := HBx5
          replace HB5 : Hid (Below W00.heap.size W00 W5.drew) := HB5.out.drew
          change wpStill _ _ W5.drew (fun a' => Exit.then _ _ _ a' W5.drew) _ _
          generalize W5.drew = W7 at *
          repeat still_step
          refine wpStill_nil ?_
          go_wp2_with fail
          go_loopw [15, 16, 17, 18, 19, 20, 21, 22, 23] (fun v15 v16 v17 v18 v19 v20 v21 v22 v23 wr => ∃ (j : Nat) (st : St), j ≤ 64 ∧ v23 = .int .i64 j ∧ Hid (st = rnds K0 M ⟨ta, tb, tc, td, te, tf, tg, th⟩ j) ∧ v15 = vw st.a ∧ v16 = vw st.b ∧ v17 = vw st.c ∧ v18 = vw st.d ∧ v19 = vw st.e ∧ v20 = vw st.f ∧ v21 = vw st.g ∧ v22 = vw st.h ∧ Hid (∃ q, wr = W7.drewN q)) (fun _ _ _ _ _ _ _ _ v23 _ => 64 - (intOf v23).toNat)
          case atStart => exact ⟨0, ⟨ta, tb, tc, td, te, tf, tg, th⟩, Nat.zero_le _, rfl, (rfl : _ = _), rfl, rfl, rfl, rfl, rfl, rfl, rfl, rfl, ⟨0, rfl⟩⟩
          case round =>
            clear f0 f1 f2 f3 f4 f5 f6 f7
            obtain ⟨j, st, hj, rfl, HST, rfl, rfl, rfl, rfl, rfl, rfl, rfl, rfl, HWq⟩ := hrel
            obtain ⟨q, rfl⟩ := HWq.out
            by_cases hj64 : j < 64
            · obtain ⟨sa, sb, sc, sd, se, sf, sg, sh⟩ := st
              have hkc : (W7.drewN q).cell? ⟨gk, j, none⟩ = some (vw (K0.getD j 0)) := plan_cell HK5.out j (by rw [K0_length]; exact hj64)
              have hmc : (W7.drewN q).cell? ⟨g5, j, none⟩ = some (vw (M.getD j 0)) := plan_cell HM5.out j (by rw [HML.out]; exact hj64)
              have hbc : (W7.drewN q).cell? ⟨w.heap.size, 1, none⟩ = some (.slice (some ⟨gk, 0, none⟩) 64 ck) := HBx5.out
              have HNx : Hid (rnds K0 M ⟨ta, tb, tc, td, te, tf, tg, th⟩ (j + 1) = rnd (rnds K0 M ⟨ta, tb, tc, td, te, tf, tg, th⟩ j) (K0.getD j 0) (M.getD j 0)) := (rfl : _ = _)
              rw [← HST.out] at HNx
              generalize K0.getD j 0 = kk at *
              generalize M.getD j 0 = mm at *
              have hji : (j : Int) < (i : Int) := by have := HI64.out; omega
              have hj64' : (j : Int) < 64 := by omega
              generalize hW8 : W7.drewN q = W8 at *
              have HW8 := Lib.hid hW8; clear hW8 HST HWq
              have hmaj := maj_or sa sb sc
              go_upto_region 28 with fail
              go_quiet ((go_at_call 46; first | with_reducible exact quiet6 se _ _ | with_reducible exact quiet11 se _ _ | with_reducible exact quiet25 se _ _))
              clear hkc hmc hbc
              go_wp2_with (first
                | (go_at_call 46; ((with_reducible refine (turned2 sa _).mono ?_); rintro e w' ⟨rfl, rfl⟩))
                | (go_at_call 46; ((with_reducible refine (turned13 sa _).mono ?_); rintro e w' ⟨rfl, rfl⟩))
                | (go_at_call 46; ((with_reducible refine (turned22 sa _).mono ?_); rintro e w' ⟨rfl, rfl⟩)))
              go_roundw
              case rel => exact ⟨j + 1, rnd ⟨sa, sb, sc, sd, se, sf, sg, sh⟩ kk mm, by omega, by go_num, HNx.out.symm, rfl, rfl, rfl, rfl, rfl, rfl, rfl, rfl, ⟨q + (nq + 1 + 1 + 1), by rw [← HW8.out, World.drewN_drewN]⟩⟩
              case measure => simp [intOf]; omega
            · have HJ : Hid (j = 64) := (by omega : j = 64)
              have hst := HST.out
              rw [HJ.out] at hst
              obtain ⟨sa, sb, sc, sd, se, sf, sg, sh⟩ := st
              have HSt := Lib.hid hst; clear hst HST HWq
              have f0 : (W7.drewN q).drew.cell? ⟨g1, 0, none⟩ = some (vw ta) := HR5.out 0 _ rfl
              have f1 : (W7.drewN q).drew.cell? ⟨g1, 1, none⟩ = some (vw tb) := HR5.out 1 _ rfl
              have f2 : (W7.drewN q).drew.cell? ⟨g1, 2, none⟩ = some (vw tc) := HR5.out 2 _ rfl
              have f3 : (W7.drewN q).drew.cell? ⟨g1, 3, none⟩ = some (vw td) := HR5.out 3 _ rfl
              have f4 : (W7.drewN q).drew.cell? ⟨g1, 4, none⟩ = some (vw te) := HR5.out 4 _ rfl
              have f5 : (W7.drewN q).drew.cell? ⟨g1, 5, none⟩ = some (vw tf) := HR5.out 5 _ rfl
              have f6 : (W7.drewN q).drew.cell? ⟨g1, 6, none⟩ = some (vw tg) := HR5.out 6 _ rfl
              have f7 : (W7.drewN q).drew.cell? ⟨g1, 7, none⟩ = some (vw th) := HR5.out 7 _ rfl
              have HB9 : Hid (Below W00.heap.size W00 (W7.drewN q).drew) := (below_drewN HB5.out q).drew
              have hj64' : ¬ (j : Int) < 64 := by omega
              go_upto_region 31 with fail
              refine wp_region_still_tail 40 (by kernel_rfl) (by kernel_rfl) ?_
              simp only [List.take_succ_cons, List.take_zero, List.drop_succ_cons, List.drop_zero]
              change wpStill _ _ (W7.drewN q).drew (fun a' => wpList _ _ _ _ a' (W7.drewN q).drew) _ _
              generalize (W7.drewN q).drew = W9 at *
              repeat still_step
              refine wpStill_nil ?_
              go_wp2_with fail
              go_roundw
              case rel =>
                refine ⟨k + 1, a + 64, W9.heap.size, 8, (by have := HAk.out; omega : a + 64 = 64 * (k + 1)), h64, by go_num, rfl, HB9.out.alloc HB9.out.size _, ?_⟩
                rw [HRun.out, ← HSt.out]
                exact (Blk.new W9 68 #[vw (ta + sa), vw (tb + sb), vw (tc + sc), vw (td + sd), vw (te + se), vw (tf + sf), vw (tg + sg), vw (th + sh)]).range
              case measure => simp [intOf]; omega
    · have hna : ¬ (a : Int) < ((pad p).length : Int) := by omega
      have HRn : Hid (HRel W00 g1 (run K0 H0 (pad p) ((pad p).length / 64)) W0) := by
        have h1 := HR.out
        rw [show k = (pad p).length / 64 by have := HAk.out; omega] at h1
        exact h1
      clear HR
      go_upto_region 32 with fail
      refine tailC p w W00 W0 g1 c1 HBw.out HRn.out ?_
      assumption
end Go.Proofs.Ythocaimiofehkaa.Hs
