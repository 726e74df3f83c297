/- TreeMade: its last question. -/
import Derived.Test.YtlehgacbcacokaaW13
import Derived.Test.YtlehgacbcacokaaW16
import Derived.Deep.RegionHeld3
namespace Go.Proofs.Ytlehgacbcacokaa
open Go.RowKit TreeMath RealMath

theorem hdSame_refl (x : Hd) : hdSame x x = true := by unfold hdSame; simp
mutual
theorem same_refl : ∀ t, same t t = true
  | .mk x ks => by rw [same, hdSame_refl, sameL_refl ks]; rfl
theorem sameL_refl : ∀ ks, sameL ks ks = true
  | [] => by rw [sameL]
  | k :: l => by rw [sameL, same_refl k, sameL_refl l]; rfl
end
set_option maxHeartbeats 8000000 in
set_option maxRecDepth 100000 in
theorem reg31 {x0 x1 x2 x3 x4 x5 x6 x7 x8 x11 x12 x13 x14 x15 x16 x17 x18 x19 x20 x21 x22 x23 x24 x25 x26 x27 x28 x29 x30 x31 x32 x33 x34 x35 x36 x37 x38 x39 x40 x41 x42 x43 x44 x45 x46 x47 x48 x49 x50 x51 x52 x53 x54 x55 x56 x57 x58 x59 x60 x61 x62 x63 x64 x65 x66 x67 x68 x69 x70 x71 x72 x73 x74 x75 x76 x77 x78 x79 x80 x81 x82 x83 x84 x85 x86 x87 x88 x89 x90 x91 x92 x93 x94 x95 x96 x97 x98 x99 x100 x101 x102 x103 x104 x105 x106 x107 x108 x109 x110 x111 x112 x113 x114 x115 x116 x117 x118 x119 x120 x121 x122 x123 x124 : Value} (g9 g10 : Nat) (y z : Hd) (ly lz : List T) (W : World) (Q : Exit → Act → World → Prop)
    (h9 : Blk W g9 27 (cellsT (.mk y ly))) (h10 : Blk W g10 27 (cellsT (.mk z lz))) (hy : Ok W W.heap.size (.mk y ly)) (hz : Ok W W.heap.size (.mk z lz)) (hn : count (.mk z lz) ≤ 90000) (hf : Few (.mk z lz))
    (hQ : ∀ {y106 y107 y108 y109 y110 y111 y112 y113 y114 y115 y116 y117 y118 y119 y120 y121 y122 y123 y124 : Value} (w' : World), Below W.heap.size W w' → Q .normal { tmps := List.toArray (x0 :: x1 :: x2 :: x3 :: x4 :: x5 :: x6 :: x7 :: (.bool true) :: (.pointer (some ⟨g9, 0, none⟩)) :: (.pointer (some ⟨g10, 0, none⟩)) :: x11 :: x12 :: x13 :: x14 :: x15 :: x16 :: x17 :: x18 :: x19 :: x20 :: x21 :: x22 :: x23 :: x24 :: x25 :: x26 :: x27 :: x28 :: x29 :: x30 :: x31 :: x32 :: x33 :: x34 :: x35 :: x36 :: x37 :: x38 :: x39 :: x40 :: x41 :: x42 :: x43 :: x44 :: x45 :: x46 :: x47 :: x48 :: x49 :: x50 :: x51 :: x52 :: x53 :: x54 :: x55 :: x56 :: x57 :: x58 :: x59 :: x60 :: x61 :: x62 :: x63 :: x64 :: x65 :: x66 :: x67 :: x68 :: x69 :: x70 :: x71 :: x72 :: x73 :: x74 :: x75 :: x76 :: x77 :: x78 :: x79 :: x80 :: x81 :: x82 :: x83 :: x84 :: x85 :: x86 :: x87 :: x88 :: x89 :: x90 :: x91 :: x92 :: x93 :: x94 :: x95 :: x96 :: x97 :: x98 :: x99 :: x100 :: x101 :: x102 :: x103 :: x104 :: x105 :: y106 :: y107 :: y108 :: y109 :: y110 :: y111 :: y112 :: y113 :: y114 :: y115 :: y116 :: y117 :: y118 :: y119 :: y120 :: y121 :: y122 :: y123 :: y124 :: []), defers := [] } w') :
    Code.wp Try.prog (cLeft (cRight (cRight (cRight (cRight (cRight (cRight (cRight (Try.f4.body.getD .skip))))))))) Q { tmps := List.toArray (x0 :: x1 :: x2 :: x3 :: x4 :: x5 :: x6 :: x7 :: x8 :: (.pointer (some ⟨g9, 0, none⟩)) :: (.pointer (some ⟨g10, 0, none⟩)) :: x11 :: x12 :: x13 :: x14 :: x15 :: x16 :: x17 :: x18 :: x19 :: x20 :: x21 :: x22 :: x23 :: x24 :: x25 :: x26 :: x27 :: x28 :: x29 :: x30 :: x31 :: x32 :: x33 :: x34 :: x35 :: x36 :: x37 :: x38 :: x39 :: x40 :: x41 :: x42 :: x43 :: x44 :: x45 :: x46 :: x47 :: x48 :: x49 :: x50 :: x51 :: x52 :: x53 :: x54 :: x55 :: x56 :: x57 :: x58 :: x59 :: x60 :: x61 :: x62 :: x63 :: x64 :: x65 :: x66 :: x67 :: x68 :: x69 :: x70 :: x71 :: x72 :: x73 :: x74 :: x75 :: x76 :: x77 :: x78 :: x79 :: x80 :: x81 :: x82 :: x83 :: x84 :: x85 :: x86 :: x87 :: x88 :: x89 :: x90 :: x91 :: x92 :: x93 :: x94 :: x95 :: x96 :: x97 :: x98 :: x99 :: x100 :: x101 :: x102 :: x103 :: x104 :: x105 :: x106 :: x107 :: x108 :: x109 :: x110 :: x111 :: x112 :: x113 :: x114 :: x115 :: x116 :: x117 :: x118 :: x119 :: x120 :: x121 :: x122 :: x123 :: x124 :: []), defers := [] } W := by
  have HCELL : Hid (∀ W', Below W.heap.size W W' → W'.cell? ⟨g9, 0, none⟩ = some (vb y.kind) ∧ W'.cell? ⟨g9, 1, none⟩ = some (.slice y.na y.names.length y.nc) ∧ W'.cell? ⟨g9, 2, none⟩ = some (.slice y.ka ly.length y.kc) ∧ W'.cell? ⟨g9, 3, none⟩ = some (.slice y.da y.data.length y.dc) ∧ W'.cell? ⟨g9, 4, none⟩ = some (.bool y.run) ∧ W'.cell? ⟨g9, 5, none⟩ = some (.float .f64 y.stamp) ∧ W'.cell? ⟨g9, 6, none⟩ = some (vs y.target) ∧ W'.cell? ⟨g10, 0, none⟩ = some (vb z.kind) ∧ W'.cell? ⟨g10, 1, none⟩ = some (.slice z.na z.names.length z.nc) ∧ W'.cell? ⟨g10, 2, none⟩ = some (.slice z.ka lz.length z.kc) ∧ W'.cell? ⟨g10, 3, none⟩ = some (.slice z.da z.data.length z.dc) ∧ W'.cell? ⟨g10, 4, none⟩ = some (.bool z.run) ∧ W'.cell? ⟨g10, 5, none⟩ = some (.float .f64 z.stamp) ∧ W'.cell? ⟨g10, 6, none⟩ = some (vs z.target)) := fun W' hW => by
    have h1 := h9.below hW h9.lt
    have h2 := h10.below hW h10.lt
    exact ⟨h1.cell 0, h1.cell 1, h1.cell 2, h1.cell 3, h1.cell 4, h1.cell 5, h1.cell 6, h2.cell 0, h2.cell 1, h2.cell 2, h2.cell 3, h2.cell 4, h2.cell 5, h2.cell 6⟩
  have C1 : Hid (∀ W', Below W.heap.size W W' → Calls Try.prog 16 #[nv z lz.length] W' fun e w' => e = .returned (.bool (rightB (.mk z lz))) ∧ Below W.heap.size W w') := fun W' hW => (right_any z lz W.heap.size W' hW.size (hz.keep hW) hn).mono fun e w' h => ⟨h.1, hW.trans (h.2.mono hW.size)⟩
  have C2 : Hid (∀ W', Below W.heap.size W W' → Calls Try.prog 17 #[nv z lz.length] W' fun e w' => e = .returned (.bool (rightB (.mk z lz))) ∧ Below W.heap.size W w') := fun W' hW => (rright_any z lz W.heap.size W' hW.size (hz.keep hW) hn hf).mono fun e w' h => ⟨h.1, hW.trans (h.2.mono hW.size)⟩
  have C3 : Hid (∀ W', Below W.heap.size W W' → Calls Try.prog 26 #[nv z lz.length, nv y ly.length] W' fun e w' => e = .returned (.bool (same (.mk z lz) (.mk y ly))) ∧ Below W.heap.size W w') := fun W' hW => (same_of W.heap.size (.mk z lz) (.mk y ly) W' hW.size (hz.keep hW) (hy.keep hW)).mono fun e w' h => ⟨h.1, hW.trans (h.2.mono hW.size)⟩
  have C4 : Hid (∀ W', Below W.heap.size W W' → Calls Try.prog 27 #[nv z lz.length, nv y ly.length] W' fun e w' => e = .returned (.bool (same (.mk z lz) (.mk y ly))) ∧ Below W.heap.size W w') := fun W' hW => (refsame_of W.heap.size (.mk z lz) (.mk y ly) W' hW.size (hz.keep hW) (hy.keep hW)).mono fun e w' h => ⟨h.1, hW.trans (h.2.mono hW.size)⟩
  have C5 : Hid (∀ W', Below W.heap.size W W' → Calls Try.prog 26 #[nv z lz.length, nv z lz.length] W' fun e w' => e = .returned (.bool true) ∧ Below W.heap.size W w') := fun W' hW => (same_of W.heap.size (.mk z lz) (.mk z lz) W' hW.size (hz.keep hW) (hz.keep hW)).mono fun e w' h => ⟨by rw [h.1, same_refl], hW.trans (h.2.mono hW.size)⟩
  clear h9 h10 hy hz hn hf
  generalize rightB (.mk z lz) = rb at *
  generalize same (.mk z lz) (.mk y ly) = sb at *
  dsimp only [Try.f4, cRight, cLeft, cIn, cThen, Option.getD]
  have H0 : Hid (Below W.heap.size W W.drew) := (Below.refl _ _).drew
  have k0 := HCELL.out _ H0.out
  go_region_held3 (fun W' => W'.cell? ⟨g9, 0, none⟩ = some (vb y.kind) ∧ W'.cell? ⟨g9, 1, none⟩ = some (.slice y.na y.names.length y.nc) ∧ W'.cell? ⟨g9, 2, none⟩ = some (.slice y.ka ly.length y.kc) ∧ W'.cell? ⟨g9, 3, none⟩ = some (.slice y.da y.data.length y.dc) ∧ W'.cell? ⟨g9, 4, none⟩ = some (.bool y.run) ∧ W'.cell? ⟨g9, 5, none⟩ = some (.float .f64 y.stamp) ∧ W'.cell? ⟨g9, 6, none⟩ = some (vs y.target) ∧ W'.cell? ⟨g10, 0, none⟩ = some (vb z.kind) ∧ W'.cell? ⟨g10, 1, none⟩ = some (.slice z.na z.names.length z.nc) ∧ W'.cell? ⟨g10, 2, none⟩ = some (.slice z.ka lz.length z.kc) ∧ W'.cell? ⟨g10, 3, none⟩ = some (.slice z.da z.data.length z.dc) ∧ W'.cell? ⟨g10, 4, none⟩ = some (.bool z.run) ∧ W'.cell? ⟨g10, 5, none⟩ = some (.float .f64 z.stamp) ∧ W'.cell? ⟨g10, 6, none⟩ = some (vs z.target))
    (first | exact k0 | exact k1 | exact k2 | exact k3 | exact k4 | exact k5)
    (first
      | (go_at_call 16
         refine (C1.out _ H0.out).mono ?_
         rintro e x1 ⟨rfl, hb⟩
         have HH1 := Lib.hid hb; clear hb
         have k1 := HCELL.out _ HH1.out)
      | (go_at_call 17
         refine (C2.out _ HH1.out).mono ?_
         rintro e x2 ⟨rfl, hb⟩
         have HH2 := Lib.hid hb; clear hb
         have k2 := HCELL.out _ HH2.out)
      | (go_at_call 26
         first
         | (with_reducible refine (C3.out _ HH2.out).mono ?_
            rintro e x3 ⟨rfl, hb⟩
            have HH3 := Lib.hid hb; clear hb
            have k3 := HCELL.out _ HH3.out)
         | (with_reducible refine (C5.out _ HH4.out).mono ?_
            rintro e x5 ⟨rfl, hb⟩
            have HH5 := Lib.hid hb; clear hb
            have k5 := HCELL.out _ HH5.out))
      | (go_at_call 27
         refine (C4.out _ HH3.out).mono ?_
         rintro e x4 ⟨rfl, hb⟩
         have HH4 := Lib.hid hb; clear hb
         have k4 := HCELL.out _ HH4.out)
      | fail)
  first | exact hQ _ HH5.out | (go_wp2_with fail; first | exact hQ _ HH5.out | exact HH5.out)
end Go.Proofs.Ytlehgacbcacokaa
