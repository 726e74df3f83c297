/- The reference's Sum, its last piece: the words laid as bytes. -/
import Derived.Test.YthocaimiofehkaaHW16
import Derived.Deep.RegionHeld3
namespace Go.Proofs.Ythocaimiofehkaa.Hs
open Go.RowKit HashMath

def cRight : Code → Code
  | .seq _ b => b
  | c => c
def cLeft : Code → Code
  | .seq a _ => a
  | c => c
def cIn : Code → Code
  | .block _ c => c
  | .loop c => c
  | c => c

set_option maxHeartbeats 8000000 in
set_option maxRecDepth 100000 in
theorem tailC {x0 x1 x2 x3 x4 x5 x6 x7 x9 x10 x11 x12 x13 x14 x15 x16 x17 x18 x19 x20 x21 x22 x23 x24 x25 x26 x27 x28 x29 x30 x31 x32 x33 x34 x35 x36 x37 x38 x39 x40 x41 x42 x43 x44 x45 x46 x47 x48 x49 x50 x51 x52 x53 x54 x55 x56 x57 x58 x59 x60 x61 x62 x63 x64 x65 x66 x67 x68 x69 x70 x71 x72 x73 x74 x75 x76 x77 x78 x79 x80 x81 x82 x83 x84 x85 x86 x87 x88 x89 x90 x91 x92 x93 x94 x95 x96 x97 x98 x99 x100 x101 x102 x103 x104 x105 x106 x107 x108 x109 x110 x111 x112 x113 x114 x115 x116 x117 x118 x119 x120 x121 x122 x123 x124 x125 x126 x127 x128 x129 x130 x131 x132 x133 x134 x135 x136 x137 x138 x139 x140 x141 x142 x143 x144 x145 x146 x147 x148 x149 x150 x151 x152 x153 x154 x155 x156 x157 x158 x159 x160 x161 x162 x163 x164 x165 x166 x167 x168 x169 x170 x171 x172 x173 x174 x175 x176 x177 x178 x179 x180 x181 x182 x183 x184 x185 x186 x187 x188 x189 x190 x191 x192 x193 x194 x195 x196 x197 x198 x199 x200 x201 x202 x203 x204 x205 x206 x207 x208 x209 x210 x211 x212 x213 x214 x215 x216 x217 x218 x219 x220 x221 x222 x223 x224 x225 x226 x227 x228 x229 x230 x231 x232 x233 x234 x235 x236 x237 x238 x239 x240 x241 x242 x243 x244 x245 x246 x247 x248 x249 x250 x251 x252 x253 x254 x255 x256 x257 x258 x259 x260 x261 x262 x263 x264 x265 x266 x267 x268 x269 x270 x271 x272 x273 x274 x275 x276 x277 x278 x279 x280 x281 x282 x283 x284 x285 x286 x287 x288 x289 x290 x291 x292 x293 x294 x295 x296 x297 x298 x299 x300 x301 x302 x303 x304 x305 : Value} (p : List By) (w W00 W0 : World) (g1 c1 : Nat) (hBw : Below w.heap.size w W00) (hRn : HRel W00 g1 (run K0 H0 (pad p) ((pad p).length / 64)) W0) {K1 : Act → World → Prop} (hK1 : ∀ zs zw, Code.wp Try.prog (cRight (cRight (cRight (cRight (cRight (cRight (cRight (cRight (cRight (cRight (Try.f33.body.getD .skip))))))))))) (bodyPost Try.prog Try.f33 fun e w' => ∃ v, e = .returned v ∧ w'.ownsRow w.heap.size 5 1 v 32 ((sum p).map vb) ∧ Below w.heap.size w w') zs zw → K1 zs zw) :
    Code.wp Try.prog (cLeft (cRight (cRight (cRight (cRight (cRight (cRight (cRight (cRight (cRight (Try.f33.body.getD .skip))))))))))) (Exit.then K1 (bodyPost Try.prog Try.f33 fun e w' => ∃ v, e = .returned v ∧ w'.ownsRow w.heap.size 5 1 v 32 ((sum p).map vb) ∧ Below w.heap.size w w')) { tmps := List.toArray (x0 :: x1 :: x2 :: x3 :: x4 :: x5 :: x6 :: x7 :: (.slice (some ⟨g1, 0, none⟩) 8 c1) :: x9 :: x10 :: x11 :: x12 :: x13 :: x14 :: x15 :: x16 :: x17 :: x18 :: x19 :: x20 :: x21 :: x22 :: x23 :: x24 :: x25 :: x26 :: x27 :: x28 :: x29 :: x30 :: x31 :: x32 :: x33 :: x34 :: x35 :: x36 :: x37 :: x38 :: x39 :: x40 :: x41 :: x42 :: x43 :: x44 :: x45 :: x46 :: x47 :: x48 :: x49 :: x50 :: x51 :: x52 :: x53 :: x54 :: x55 :: x56 :: x57 :: x58 :: x59 :: x60 :: x61 :: x62 :: x63 :: x64 :: x65 :: x66 :: x67 :: x68 :: x69 :: x70 :: x71 :: x72 :: x73 :: x74 :: x75 :: x76 :: x77 :: x78 :: x79 :: x80 :: x81 :: x82 :: x83 :: x84 :: x85 :: x86 :: x87 :: x88 :: x89 :: x90 :: x91 :: x92 :: x93 :: x94 :: x95 :: x96 :: x97 :: x98 :: x99 :: x100 :: x101 :: x102 :: x103 :: x104 :: x105 :: x106 :: x107 :: x108 :: x109 :: x110 :: x111 :: x112 :: x113 :: x114 :: x115 :: x116 :: x117 :: x118 :: x119 :: x120 :: x121 :: x122 :: x123 :: x124 :: x125 :: x126 :: x127 :: x128 :: x129 :: x130 :: x131 :: x132 :: x133 :: x134 :: x135 :: x136 :: x137 :: x138 :: x139 :: x140 :: x141 :: x142 :: x143 :: x144 :: x145 :: x146 :: x147 :: x148 :: x149 :: x150 :: x151 :: x152 :: x153 :: x154 :: x155 :: x156 :: x157 :: x158 :: x159 :: x160 :: x161 :: x162 :: x163 :: x164 :: x165 :: x166 :: x167 :: x168 :: x169 :: x170 :: x171 :: x172 :: x173 :: x174 :: x175 :: x176 :: x177 :: x178 :: x179 :: x180 :: x181 :: x182 :: x183 :: x184 :: x185 :: x186 :: x187 :: x188 :: x189 :: x190 :: x191 :: x192 :: x193 :: x194 :: x195 :: x196 :: x197 :: x198 :: x199 :: x200 :: x201 :: x202 :: x203 :: x204 :: x205 :: x206 :: x207 :: x208 :: x209 :: x210 :: x211 :: x212 :: x213 :: x214 :: x215 :: x216 :: x217 :: x218 :: x219 :: x220 :: x221 :: x222 :: x223 :: x224 :: x225 :: x226 :: x227 :: x228 :: x229 :: x230 :: x231 :: x232 :: x233 :: x234 :: x235 :: x236 :: x237 :: x238 :: x239 :: x240 :: x241 :: x242 :: x243 :: x244 :: x245 :: x246 :: x247 :: x248 :: x249 :: x250 :: x251 :: x252 :: x253 :: x254 :: x255 :: x256 :: x257 :: x258 :: x259 :: x260 :: x261 :: x262 :: x263 :: x264 :: x265 :: x266 :: x267 :: x268 :: x269 :: x270 :: x271 :: x272 :: x273 :: x274 :: x275 :: x276 :: x277 :: x278 :: x279 :: x280 :: x281 :: x282 :: x283 :: x284 :: x285 :: x286 :: x287 :: x288 :: x289 :: x290 :: x291 :: x292 :: x293 :: x294 :: x295 :: x296 :: x297 :: x298 :: x299 :: x300 :: x301 :: x302 :: x303 :: x304 :: x305 :: []), defers := [] } W0 := by
  have HBw := Lib.hid hBw; have HRn := Lib.hid hRn
  clear hBw hRn
  dsimp only [Try.f33, cRight, cLeft, Option.getD] at hK1 ⊢
  have HO : Hid ((sum p).map vb = (outN (run K0 H0 (pad p) ((pad p).length / 64)).list).map vb) := (rfl : _ = _)
  generalize run K0 H0 (pad p) ((pad p).length / 64) = sf at *
  go_wp2_with fail
  go_loopw [26, 27] (fun v vi wr => ∃ j : Nat, j ≤ 8 ∧ vi = .int .i64 j ∧ Hid (RowRel W0 5 ((outN (sf.list.take j)).map vb) v wr)) (fun _ vi _ => 8 - (intOf vi).toNat)
  case atStart => exact ⟨0, Nat.zero_le _, rfl, RowRel.none _ _⟩
  case round =>
    obtain ⟨j, hj, rfl, HRow⟩ := hrel
    rename World => Wr
    by_cases hj8 : j < 8
    · have hc0 : Wr.cell? ⟨g1, j, none⟩ = some (vw (sf.list.getD j 0)) := plan_cell (l := sf.list) (rangeAt_below HRn.out.range HRow.out.below HRn.out.lt) j hj8
      have HE : Hid ((outN (sf.list.take (j + 1))).map vb = (outN (sf.list.take j)).map vb ++ (bytesOf (sf.list.getD j 0)).map vb) := by
        show _ = _; rw [outN_take sf.list j hj8, List.map_append]
      have HLo : Hid ((outN (sf.list.take j)).length ≤ 40) := by
        show _ ≤ _; rw [outN_length]; simp; omega
      generalize sf.list.getD j 0 = x at *
      have hg1r : g1 < Wr.heap.size := by have := HRn.out.lt; have := HRow.out.below.size; omega
      have hne : ∀ b, u26.ownBlock = some b → g1 ≠ b := fun b hb => by
        have h1 := (HRow.out.own.lt b hb).1
        have h2 := HRn.out.lt
        omega
      have HNe := Lib.hid hne; clear hne
      have hj8' : (j : Int) < 8 := by omega
      have HRowA := Lib.hid ((HRow.out.alloc (.cells #[vb ((x >>> 24).setWidth 8), vb ((x >>> 16).setWidth 8), vb ((x >>> 8).setWidth 8), vb (x.setWidth 8)] 5)).drew)
      go_upto_region 36 with fail
      go_region_held3 (fun w' => w'.cell? ⟨g1, j, none⟩ = some (vw x))
        (first
          | go_keep
          | (rw [hkept _ _ (by simp; omega) (fun e => absurd rfl (HNe.out _ e))]; assumption))
        ((refine step_push Try.underlying26 info5 rfl (by decide) (by rfl) (.tmp 279) (.tmp 303) (by rfl) HRowA.out (by rfl) ((bytesOf x).map vb) 4 rfl ⟨Wr.heap.size, 0, none⟩ (by rfl) (new_cells Wr 5 ((bytesOf x).map vb)) rfl (by have := HLo.out; rw [List.length_map]; omega) ?_; intro v' w' hr hkept))
      have HN2 : Hid (RowRel W0 5 ((outN (sf.list.take (j + 1))).map vb) v' w') := by
        rw [HE.out]; exact hr
      clear hr hkept HRow HRowA hc0
      go_wp2_with fail
      go_roundw
      case rel => exact ⟨j + 1, by omega, by go_num, HN2.out⟩
      case measure => simp [intOf]; omega
    · obtain rfl : j = 8 := by omega
      have hrow := HRow.out
      rw [show sf.list.take 8 = sf.list from rfl, ← HO.out] at hrow
      have HOwn : Hid (Wr.ownsRow W0.heap.size 5 1 u26 32 ((sum p).map vb)) := by
        have h1 := hrow.own
        rw [List.length_map, sum_length] at h1
        exact h1
      have HBf : Hid (Below w.heap.size w Wr) := HBw.out.trans ((HRn.out.below.trans (hrow.below.mono HRn.out.below.size)).mono HBw.out.size)
      have hw0 : w.heap.size ≤ W0.heap.size := by have := HBw.out.size; have := HRn.out.below.size; omega
      clear hrow HRow
      go_wp2
      go_ret
      refine ⟨_, rfl, ⟨HOwn.out.1, ?_⟩, HBf.out⟩
      rcases HOwn.out.2 with h | ⟨g, cap, cur, h1, h2, h3⟩
      · exact .inl h
      · exact .inr ⟨g, cap, cur, h1, Nat.le_trans hw0 h2, h3⟩

end Go.Proofs.Ythocaimiofehkaa.Hs
