/- The reference's kids: an entry that was there, put behind. -/
import Derived.Test.YtggmogjgaoobjaaDoorXCT14
import Derived.Test.YtggmogjgaoobjaaDoorXCT10
import Derived.Deep.RegionHeld3
import Derived.Deep.CutBlock
namespace Go.Proofs.YtggmogjgaoobjaaDoor
open Go.RowKit TreeMath RealMath

set_option maxHeartbeats 8000000 in
set_option maxRecDepth 100000 in
theorem reg22 {x0 x1 x2 x3 x4 x5 x6 x7 x9 x10 x11 x14 x16 x17 x18 x19 x20 x21 x22 x23 x24 x25 x26 x27 x28 x29 x30 x31 x32 x33 x34 x35 x36 x37 x38 x39 x40 x41 x42 x43 x44 x45 x46 x47 x48 x49 x50 x51 x52 x53 x54 x55 x56 x57 x58 x59 x60 x61 x62 x63 x64 x65 x66 x67 x68 x69 x70 x71 x72 x73 x74 x75 x76 x77 x78 x79 x80 x81 x82 x83 x84 x85 x86 x87 x88 x89 x90 x91 x92 x93 x94 x95 x96 x97 x98 x99 x100 x101 x102 x103 x104 x105 x106 x107 x108 x109 x110 x111 x112 x113 x114 x115 x116 x117 x118 x119 x120 x121 x122 x123 x124 x125 x126 x127 x128 x129 x130 x131 x132 x133 x134 x135 x136 x137 : Value} (gb j nb no nl cn kbl ko kl ck base : Nat) (s : List By) (y : Hd) (ly : List T) (vn vk : Value) (names : List (List By)) (ts : List T) (Wb W0 : World) (Q : Exit → Act → World → Prop)
    (hcell : ∀ W, Below base W0 W → W.cell? ⟨gb, 1, none⟩ = some (.slice (some ⟨nb, no, none⟩) nl cn) ∧ W.cell? ⟨gb, 2, none⟩ = some (.slice (some ⟨kbl, ko, none⟩) kl ck) ∧ W.cell? ⟨nb, no + j, none⟩ = some (vs s) ∧ W.cell? ⟨kbl, ko + j * 7, none⟩ = some (vb y.kind) ∧ W.cell? ⟨kbl, ko + j * 7 + 1, none⟩ = some (.slice y.na y.names.length y.nc) ∧ W.cell? ⟨kbl, ko + j * 7 + 2, none⟩ = some (.slice y.ka ly.length y.kc) ∧ W.cell? ⟨kbl, ko + j * 7 + 3, none⟩ = some (.slice y.da y.data.length y.dc) ∧ W.cell? ⟨kbl, ko + j * 7 + 4, none⟩ = some (.bool y.run) ∧ W.cell? ⟨kbl, ko + j * 7 + 5, none⟩ = some (.float .f64 y.stamp) ∧ W.cell? ⟨kbl, ko + j * 7 + 6, none⟩ = some (vs y.target)) (hj1 : j < nl) (hj2 : j < kl) (h : TwoRows Wb base vn vk names ts W0) (hb0 : base ≤ W0.heap.size) (hn1 : names.length ≤ 1000) (hn2 : ts.length ≤ 1000)
    (hQ : ∀ {y107 y108 y109 y110 y111 y112 y113 y114 y115 y116 y117 y118 y119 y120 y121 y122 : Value} (v1 v2 : Value) (w' : World), TwoRows Wb base v1 v2 (names ++ [s]) (ts ++ [.mk y ly]) w' → Q .normal { tmps := List.toArray (x0 :: x1 :: x2 :: x3 :: x4 :: x5 :: x6 :: x7 :: (.pointer (some ⟨gb, 0, none⟩)) :: x9 :: x10 :: x11 :: v1 :: v2 :: x14 :: (.int .i64 j) :: x16 :: x17 :: x18 :: x19 :: x20 :: x21 :: x22 :: x23 :: x24 :: x25 :: x26 :: x27 :: x28 :: x29 :: x30 :: x31 :: x32 :: x33 :: x34 :: x35 :: x36 :: x37 :: x38 :: x39 :: x40 :: x41 :: x42 :: x43 :: x44 :: x45 :: x46 :: x47 :: x48 :: x49 :: x50 :: x51 :: x52 :: x53 :: x54 :: x55 :: x56 :: x57 :: x58 :: x59 :: x60 :: x61 :: x62 :: x63 :: x64 :: x65 :: x66 :: x67 :: x68 :: x69 :: x70 :: x71 :: x72 :: x73 :: x74 :: x75 :: x76 :: x77 :: x78 :: x79 :: x80 :: x81 :: x82 :: x83 :: x84 :: x85 :: x86 :: x87 :: x88 :: x89 :: x90 :: x91 :: x92 :: x93 :: x94 :: x95 :: x96 :: x97 :: x98 :: x99 :: x100 :: x101 :: x102 :: x103 :: x104 :: x105 :: x106 :: y107 :: y108 :: y109 :: y110 :: y111 :: y112 :: y113 :: y114 :: y115 :: y116 :: y117 :: y118 :: y119 :: y120 :: y121 :: y122 :: x123 :: x124 :: x125 :: x126 :: x127 :: x128 :: x129 :: x130 :: x131 :: x132 :: x133 :: x134 :: x135 :: x136 :: x137 :: []), defers := [] } w') :
    Code.wp Tryd.prog (cRight (cIn (cLeft (cRight (cIn (cIn (cRight (cLeft (cRight (cRight (cRight (cRight (cRight (cIn (cLeft (cRight (cIn (cIn (cRight (cLeft (cRight (cRight (cRight (cRight (cRight (Tryd.f98.body.getD .skip)))))))))))))))))))))))))) Q { tmps := List.toArray (x0 :: x1 :: x2 :: x3 :: x4 :: x5 :: x6 :: x7 :: (.pointer (some ⟨gb, 0, none⟩)) :: x9 :: x10 :: x11 :: vn :: vk :: x14 :: (.int .i64 j) :: x16 :: x17 :: x18 :: x19 :: x20 :: x21 :: x22 :: x23 :: x24 :: x25 :: x26 :: x27 :: x28 :: x29 :: x30 :: x31 :: x32 :: x33 :: x34 :: x35 :: x36 :: x37 :: x38 :: x39 :: x40 :: x41 :: x42 :: x43 :: x44 :: x45 :: x46 :: x47 :: x48 :: x49 :: x50 :: x51 :: x52 :: x53 :: x54 :: x55 :: x56 :: x57 :: x58 :: x59 :: x60 :: x61 :: x62 :: x63 :: x64 :: x65 :: x66 :: x67 :: x68 :: x69 :: x70 :: x71 :: x72 :: x73 :: x74 :: x75 :: x76 :: x77 :: x78 :: x79 :: x80 :: x81 :: x82 :: x83 :: x84 :: x85 :: x86 :: x87 :: x88 :: x89 :: x90 :: x91 :: x92 :: x93 :: x94 :: x95 :: x96 :: x97 :: x98 :: x99 :: x100 :: x101 :: x102 :: x103 :: x104 :: x105 :: x106 :: x107 :: x108 :: x109 :: x110 :: x111 :: x112 :: x113 :: x114 :: x115 :: x116 :: x117 :: x118 :: x119 :: x120 :: x121 :: x122 :: x123 :: x124 :: x125 :: x126 :: x127 :: x128 :: x129 :: x130 :: x131 :: x132 :: x133 :: x134 :: x135 :: x136 :: x137 :: []), defers := [] } W0 := by
  have HCELL := Lib.hid hcell; have H := Lib.hid h
  clear hcell h
  have HS0 : Hid (Strs W0 base vn names) := H.out.names
  have HN0 : Hid (Nodes W0 base vk ts) := H.out.kids
  have HB0 : Hid (Below base W0 W0) := Below.refl _ _
  have k0 := HCELL.out _ HB0.out.drew
  have ka := HCELL.out _ (HB0.out.alloc hb0 (.cells #[vs s] 9)).drew
  have kb := HCELL.out _ (HB0.out.alloc hb0 (.cells #[vb y.kind, .slice y.na y.names.length y.nc, .slice y.ka ly.length y.kc, .slice y.da y.data.length y.dc, .bool y.run, .float .f64 y.stamp, vs y.target] 80)).drew
  have kc := HCELL.out _ ((HB0.out.alloc hb0 (.cells #[vs s] 9)).alloc (by simp; omega) (.cells #[vb y.kind, .slice y.na y.names.length y.nc, .slice y.ka ly.length y.kc, .slice y.da y.data.length y.dc, .bool y.run, .float .f64 y.stamp, vs y.target] 80)).drew
  have kd := HCELL.out _ ((HB0.out.alloc hb0 (.cells #[vb y.kind, .slice y.na y.names.length y.nc, .slice y.ka ly.length y.kc, .slice y.da y.data.length y.dc, .bool y.run, .float .f64 y.stamp, vs y.target] 80)).alloc (by simp; omega) (.cells #[vs s] 9)).drew
  have HBB := Lib.hid H.out.below
  clear H
  have HCA : Hid (∀ (W : World) j u, ([s].map vs)[j]? = some u → (W.alloc (.cells #[vs s] 9)).cell? ((⟨W.heap.size, 0, none⟩ : Addr).add j) = some u) := fun W j u hj => by
    rw [Addr.add_mid, Nat.zero_add, (Blk.new W 9 #[vs s]).cell]; exact hj
  have HCB : Hid (∀ (W : World) j u, ([T.mk y ly].flatMap cellsT)[j]? = some u → (W.alloc (.cells #[vb y.kind, .slice y.na y.names.length y.nc, .slice y.ka ly.length y.kc, .slice y.da y.data.length y.dc, .bool y.run, .float .f64 y.stamp, vs y.target] 80)).cell? ((⟨W.heap.size, 0, none⟩ : Addr).add j) = some u) := fun W j u hj => by
    rw [Addr.add_mid, Nat.zero_add, (Blk.new W 80 #[vb y.kind, .slice y.na y.names.length y.nc, .slice y.ka ly.length y.kc, .slice y.da y.data.length y.dc, .bool y.run, .float .f64 y.stamp, vs y.target]).cell]; exact hj
  dsimp only [Tryd.f98, cRight, cLeft, cIn, cThen, Option.getD]
  have A1 : Hid (Strs (W0.alloc (.cells #[vs s] 9)).drew base vn names) := HS0.out.alloc (.cells #[vs s] 9)
  have A2 : Hid (∀ j u, ([s].map vs)[j]? = some u → (W0.alloc (.cells #[vs s] 9)).drew.cell? ((⟨W0.heap.size, 0, none⟩ : Addr).add j) = some u) := HCA.out W0
  have B1 : Hid (Strs ((W0.alloc (.cells #[vs s] 9)).alloc (.cells #[vb y.kind, .slice y.na y.names.length y.nc, .slice y.ka ly.length y.kc, .slice y.da y.data.length y.dc, .bool y.run, .float .f64 y.stamp, vs y.target] 80)).drew base vn names) := (HS0.out.alloc (.cells #[vs s] 9)).alloc (.cells #[vb y.kind, .slice y.na y.names.length y.nc, .slice y.ka ly.length y.kc, .slice y.da y.data.length y.dc, .bool y.run, .float .f64 y.stamp, vs y.target] 80)
  have B2 : Hid (∀ j u, ([s].map vs)[j]? = some u → ((W0.alloc (.cells #[vs s] 9)).alloc (.cells #[vb y.kind, .slice y.na y.names.length y.nc, .slice y.ka ly.length y.kc, .slice y.da y.data.length y.dc, .bool y.run, .float .f64 y.stamp, vs y.target] 80)).drew.cell? ((⟨W0.heap.size, 0, none⟩ : Addr).add j) = some u) := fun j u hj => by
    have := ((Blk.new W0 9 #[vs s]).alloc (.cells #[vb y.kind, .slice y.na y.names.length y.nc, .slice y.ka ly.length y.kc, .slice y.da y.data.length y.dc, .bool y.run, .float .f64 y.stamp, vs y.target] 80)).drew
    rw [Addr.add_mid, Nat.zero_add, this.cell]; exact hj
  have C1 : Hid (Strs ((W0.alloc (.cells #[vb y.kind, .slice y.na y.names.length y.nc, .slice y.ka ly.length y.kc, .slice y.da y.data.length y.dc, .bool y.run, .float .f64 y.stamp, vs y.target] 80)).alloc (.cells #[vs s] 9)).drew base vn names) := (HS0.out.alloc (.cells #[vb y.kind, .slice y.na y.names.length y.nc, .slice y.ka ly.length y.kc, .slice y.da y.data.length y.dc, .bool y.run, .float .f64 y.stamp, vs y.target] 80)).alloc (.cells #[vs s] 9)
  have C2 : Hid (∀ j u, ([s].map vs)[j]? = some u → ((W0.alloc (.cells #[vb y.kind, .slice y.na y.names.length y.nc, .slice y.ka ly.length y.kc, .slice y.da y.data.length y.dc, .bool y.run, .float .f64 y.stamp, vs y.target] 80)).alloc (.cells #[vs s] 9)).drew.cell? ((⟨W0.heap.size + 1, 0, none⟩ : Addr).add j) = some u) := fun j u hj => by
    have := HCA.out (W0.alloc (.cells #[vb y.kind, .slice y.na y.names.length y.nc, .slice y.ka ly.length y.kc, .slice y.da y.data.length y.dc, .bool y.run, .float .f64 y.stamp, vs y.target] 80)) j u hj
    rw [World.size_alloc] at this; exact this
  go_region_held3 (fun W => W.cell? ⟨gb, 1, none⟩ = some (.slice (some ⟨nb, no, none⟩) nl cn) ∧ W.cell? ⟨gb, 2, none⟩ = some (.slice (some ⟨kbl, ko, none⟩) kl ck) ∧ W.cell? ⟨nb, no + j, none⟩ = some (vs s) ∧ W.cell? ⟨kbl, ko + j * 7, none⟩ = some (vb y.kind) ∧ W.cell? ⟨kbl, ko + j * 7 + 1, none⟩ = some (.slice y.na y.names.length y.nc) ∧ W.cell? ⟨kbl, ko + j * 7 + 2, none⟩ = some (.slice y.ka ly.length y.kc) ∧ W.cell? ⟨kbl, ko + j * 7 + 3, none⟩ = some (.slice y.da y.data.length y.dc) ∧ W.cell? ⟨kbl, ko + j * 7 + 4, none⟩ = some (.bool y.run) ∧ W.cell? ⟨kbl, ko + j * 7 + 5, none⟩ = some (.float .f64 y.stamp) ∧ W.cell? ⟨kbl, ko + j * 7 + 6, none⟩ = some (vs y.target))
    (first | exact k0 | exact ka | exact kb | exact kc | exact kd | exact k1 | exact k2 | go_keep)
    (first
      | (refine step_strs (by rfl) (.tmp 107) (.tmp 113) (by rfl) base vn names (by rfl) A1.out ⟨W0.heap.size, 0, none⟩ 1 1 [s] rfl (by rfl) A2.out (by omega) (by simp; omega) ?_
         intro v1 w1 h1 g1
         have HW1 : Hid (Below base W0 w1) := (HB0.out.alloc hb0 (.cells #[vs s] 9)).drew.grown g1 (by simp; omega) (fun c hc => (A1.out.lt c hc).1)
         have D0 : Nodes (W0.alloc (.cells #[vs s] 9)).drew base vk ts := HN0.out.alloc (.cells #[vs s] 9)
         have D1 : Hid (Nodes w1 base vk ts) := D0.kept A1.out g1
         have E1 : Hid (Nodes (w1.alloc (.cells #[vb y.kind, .slice y.na y.names.length y.nc, .slice y.ka ly.length y.kc, .slice y.da y.data.length y.dc, .bool y.run, .float .f64 y.stamp, vs y.target] 80)) base vk ts) := D1.out.alloc _
         have E2 := Lib.hid (HCB.out w1)
         have R1 := Lib.hid h1
         have hw1 : base ≤ w1.heap.size := Nat.le_trans hb0 HW1.out.size
         have k1 := HCELL.out _ HW1.out
         clear h1 g1 D0)
      | (refine step_strs (by rfl) (.tmp 107) (.tmp 113) (by rfl) base vn names (by rfl) B1.out ⟨W0.heap.size, 0, none⟩ 1 1 [s] rfl (by rfl) B2.out (by omega) (by simp; omega) ?_
         intro v1 w1 h1 g1
         have HW1 : Hid (Below base W0 w1) := ((HB0.out.alloc hb0 (.cells #[vs s] 9)).alloc (by simp; omega) (.cells #[vb y.kind, .slice y.na y.names.length y.nc, .slice y.ka ly.length y.kc, .slice y.da y.data.length y.dc, .bool y.run, .float .f64 y.stamp, vs y.target] 80)).drew.grown g1 (by simp; omega) (fun c hc => (B1.out.lt c hc).1)
         have D0 : Nodes ((W0.alloc (.cells #[vs s] 9)).alloc (.cells #[vb y.kind, .slice y.na y.names.length y.nc, .slice y.ka ly.length y.kc, .slice y.da y.data.length y.dc, .bool y.run, .float .f64 y.stamp, vs y.target] 80)).drew base vk ts := (HN0.out.alloc (.cells #[vs s] 9)).alloc (.cells #[vb y.kind, .slice y.na y.names.length y.nc, .slice y.ka ly.length y.kc, .slice y.da y.data.length y.dc, .bool y.run, .float .f64 y.stamp, vs y.target] 80)
         have D1 : Hid (Nodes w1 base vk ts) := D0.kept B1.out g1
         have F1 := Lib.hid D1.out
         have F2 : Hid (∀ j u, ([T.mk y ly].flatMap cellsT)[j]? = some u → w1.cell? ((⟨W0.heap.size + 1, 0, none⟩ : Addr).add j) = some u) := fun j u hj => by
           have h0 : ((W0.alloc (.cells #[vs s] 9)).alloc (.cells #[vb y.kind, .slice y.na y.names.length y.nc, .slice y.ka ly.length y.kc, .slice y.da y.data.length y.dc, .bool y.run, .float .f64 y.stamp, vs y.target] 80)).drew.cell? ((⟨W0.heap.size + 1, 0, none⟩ : Addr).add j) = some u := by
             have := HCB.out (W0.alloc (.cells #[vs s] 9)) j u hj
             rw [World.size_alloc] at this; exact this
           rw [Addr.add_mid] at h0 ⊢
           rw [World.cell?_of_block (a := ⟨W0.heap.size + 1, 0 + j, none⟩) (g1.block (W0.heap.size + 1) (by simp) (fun e => by have := (HS0.out.lt _ e.symm).2; omega))]; exact h0
         have R1 := Lib.hid h1
         have hw1 : base ≤ w1.heap.size := Nat.le_trans hb0 HW1.out.size
         have k1 := HCELL.out _ HW1.out
         clear h1 g1 D0)
      | (refine step_strs (by rfl) (.tmp 107) (.tmp 113) (by rfl) base vn names (by rfl) C1.out ⟨W0.heap.size + 1, 0, none⟩ 1 1 [s] rfl (by rfl) C2.out (by omega) (by simp; omega) ?_
         intro v1 w1 h1 g1
         have HW1 : Hid (Below base W0 w1) := ((HB0.out.alloc hb0 (.cells #[vb y.kind, .slice y.na y.names.length y.nc, .slice y.ka ly.length y.kc, .slice y.da y.data.length y.dc, .bool y.run, .float .f64 y.stamp, vs y.target] 80)).alloc (by simp; omega) (.cells #[vs s] 9)).drew.grown g1 (by simp; omega) (fun c hc => (C1.out.lt c hc).1)
         have D0 : Nodes ((W0.alloc (.cells #[vb y.kind, .slice y.na y.names.length y.nc, .slice y.ka ly.length y.kc, .slice y.da y.data.length y.dc, .bool y.run, .float .f64 y.stamp, vs y.target] 80)).alloc (.cells #[vs s] 9)).drew base vk ts := (HN0.out.alloc (.cells #[vb y.kind, .slice y.na y.names.length y.nc, .slice y.ka ly.length y.kc, .slice y.da y.data.length y.dc, .bool y.run, .float .f64 y.stamp, vs y.target] 80)).alloc (.cells #[vs s] 9)
         have D1 : Hid (Nodes w1 base vk ts) := D0.kept C1.out g1
         have G1 := Lib.hid D1.out
         have G2 : Hid (∀ j u, ([T.mk y ly].flatMap cellsT)[j]? = some u → w1.cell? ((⟨W0.heap.size, 0, none⟩ : Addr).add j) = some u) := fun j u hj => by
           have h0 : ((W0.alloc (.cells #[vb y.kind, .slice y.na y.names.length y.nc, .slice y.ka ly.length y.kc, .slice y.da y.data.length y.dc, .bool y.run, .float .f64 y.stamp, vs y.target] 80)).alloc (.cells #[vs s] 9)).drew.cell? ((⟨W0.heap.size, 0, none⟩ : Addr).add j) = some u := by
             have := ((Blk.new W0 80 #[vb y.kind, .slice y.na y.names.length y.nc, .slice y.ka ly.length y.kc, .slice y.da y.data.length y.dc, .bool y.run, .float .f64 y.stamp, vs y.target]).alloc (.cells #[vs s] 9)).drew
             rw [Addr.add_mid, Nat.zero_add, this.cell]; exact hj
           rw [Addr.add_mid] at h0 ⊢
           rw [World.cell?_of_block (a := ⟨W0.heap.size, 0 + j, none⟩) (g1.block W0.heap.size (by simp; omega) (fun e => by have := (HS0.out.lt _ e.symm).2; omega))]; exact h0
         have R1 := Lib.hid h1
         have hw1 : base ≤ w1.heap.size := Nat.le_trans hb0 HW1.out.size
         have k1 := HCELL.out _ HW1.out
         clear h1 g1 D0)
      | (refine step_nodes (by rfl) (.tmp 115) (.tmp 121) (by rfl) base vk ts (by rfl) E1.out ⟨w1.heap.size, 0, none⟩ 1 1 [T.mk y ly] rfl (by rfl) E2.out (by omega) (by simp; omega) ?_
         intro v2 w2 h2 g2
         have TR : TwoRows Wb base v1 vk (names ++ [s]) ts w1 := ⟨R1.out, D1.out, HBB.out.trans HW1.out⟩
         have HF : Hid (TwoRows Wb base v1 v2 (names ++ [s]) (ts ++ [T.mk y ly]) w2) := TR.push (.cells #[vb y.kind, .slice y.na y.names.length y.nc, .slice y.ka ly.length y.kc, .slice y.da y.data.length y.dc, .bool y.run, .float .f64 y.stamp, vs y.target] 80) hw1 h2 g2
         have k2 := HCELL.out w2 (HW1.out.trans (TR.below_of (.cells #[vb y.kind, .slice y.na y.names.length y.nc, .slice y.ka ly.length y.kc, .slice y.da y.data.length y.dc, .bool y.run, .float .f64 y.stamp, vs y.target] 80) hw1 g2))
         clear h2 g2 TR)
      | (refine step_nodes (by rfl) (.tmp 115) (.tmp 121) (by rfl) base vk ts (by rfl) F1.out ⟨W0.heap.size + 1, 0, none⟩ 1 1 [T.mk y ly] rfl (by rfl) F2.out (by omega) hw1 ?_
         intro v2 w2 h2 g2
         have TR : TwoRows Wb base v1 vk (names ++ [s]) ts w1 := ⟨R1.out, D1.out, HBB.out.trans HW1.out⟩
         have HF : Hid (TwoRows Wb base v1 v2 (names ++ [s]) (ts ++ [T.mk y ly]) w2) := TR.push0 hw1 h2 g2
         have k2 := HCELL.out w2 (HW1.out.trans ((Below.refl base w1).grown g2 hw1 (fun c hc => (D1.out.lt c hc).1)))
         clear h2 g2 TR)
      | (refine step_nodes (by rfl) (.tmp 115) (.tmp 121) (by rfl) base vk ts (by rfl) G1.out ⟨W0.heap.size, 0, none⟩ 1 1 [T.mk y ly] rfl (by rfl) G2.out (by omega) hw1 ?_
         intro v2 w2 h2 g2
         have TR : TwoRows Wb base v1 vk (names ++ [s]) ts w1 := ⟨R1.out, D1.out, HBB.out.trans HW1.out⟩
         have HF : Hid (TwoRows Wb base v1 v2 (names ++ [s]) (ts ++ [T.mk y ly]) w2) := TR.push0 hw1 h2 g2
         have k2 := HCELL.out w2 (HW1.out.trans ((Below.refl base w1).grown g2 hw1 (fun c hc => (D1.out.lt c hc).1)))
         clear h2 g2 TR)
      | fail)
  all_goals (first | exact hQ _ _ _ HF.out | (go_wp2_with fail; first | exact hQ _ _ _ HF.out | exact HF.out))
end Go.Proofs.YtggmogjgaoobjaaDoor

/- The reference's kids: the loop that puts a new entry in its place. -/
namespace Go.Proofs.YtggmogjgaoobjaaDoor
open Go.RowKit TreeMath RealMath

/-- what is left to do -/
def fin (s : List By) (k : T) (done : Bool) (acc rest : List Ent) : List Ent := if done = true then acc ++ rest else acc ++ insR s k rest
structure InRel (W : World) (ps : List Ent) (s : List By) (k : T) (j : Nat) (done : Bool) (vn vk : Value) (acc : List Ent) (wr : World) : Prop where
  rows : TwoRows W W.heap.size vn vk (acc.map Prod.fst) (acc.map Prod.snd) wr
  eq : fin s k done acc (ps.drop j) = insR s k ps
  len : acc.length ≤ j + done.toNat
set_option maxRecDepth 100000 in
theorem fin_old (s : List By) (k : T) (acc : List Ent) (p : Ent) (r : List Ent) (done : Bool) (h : done = true ∨ leB s p.1 = false) : fin s k done (acc ++ [p]) r = fin s k done acc (p :: r) := by
  unfold fin
  cases done with
  | true => simp
  | false =>
    have hl : leB s p.1 = false := h.resolve_left (by decide)
    rw [if_neg (by decide), if_neg (by decide), insR, if_neg (by rw [hl]; decide)]; simp
set_option maxRecDepth 100000 in
theorem fin_new (s : List By) (k : T) (acc : List Ent) (p : Ent) (r : List Ent) (h : leB s p.1 = true) (hs : (s == p.1) = false) : fin s k true (acc ++ [(s, k)]) (p :: r) = fin s k false acc (p :: r) := by
  unfold fin
  rw [if_pos rfl, if_neg (by decide), insR, if_pos h, if_neg (by rw [hs]; decide)]; simp
set_option maxRecDepth 100000 in
theorem fin_same (s : List By) (k : T) (acc : List Ent) (p : Ent) (r : List Ent) (h : leB s p.1 = true) (hs : (s == p.1) = true) : fin s k true (acc ++ [(s, k)]) r = fin s k false acc (p :: r) := by
  unfold fin
  rw [if_pos rfl, if_neg (by decide), insR, if_pos h, if_pos hs]; simp
set_option maxHeartbeats 16000000 in
set_option maxRecDepth 100000 in
theorem inner {x0 x1 x2 x3 x4 x5 x6 x7 x9 x16 x17 x18 x19 x20 x21 x22 x23 x24 x25 x26 x27 x28 x29 x30 x31 x32 x33 x34 x35 x36 x37 x38 x39 x40 x41 x42 x43 x44 x45 x46 x47 x48 x49 x50 x51 x52 x53 x54 x55 x56 x57 x58 x59 x60 x61 x62 x63 x64 x65 x66 x67 x68 x69 x70 x71 x72 x73 x74 x75 x76 x77 x78 x79 x80 x81 x82 x83 x84 x85 x86 x87 x88 x89 x90 x91 x92 x93 x94 x95 x96 x97 x98 x99 x100 x101 x102 x103 x104 x105 x106 x107 x108 x109 x110 x111 x112 x113 x114 x115 x116 x117 x118 x119 x120 x121 x122 x123 x124 x125 x126 x127 x128 x129 x130 x131 x132 x133 x134 x135 x136 x137 : Value} (gb gk nl cn ck : Nat) (An Ak : Option Addr) (s : List By) (y : Hd) (ly : List T) (ps : List Ent) (W : World) (Q : Exit → Act → World → Prop)
    (hgb : Blk W gb 80 [.int .u8 1, .slice An nl cn, .slice Ak nl ck, .slice none 0 0, .bool false, .float .f64 0, .string ⟨#[]⟩]) (hgk : Blk W gk 80 (cellsT (.mk y ly))) (hnl : ps.length = nl) (hps : nl ≤ 40)
    (hnames : StrsIs W An (ps.map Prod.fst)) (hkids : KidsAt W W.heap.size Ak (ps.map Prod.snd))
    (hQ : ∀ {y15 y74 y75 y76 y77 y78 y79 y80 y81 y82 y83 y84 y85 y86 y87 y88 y89 y90 y91 y92 y93 y94 y95 y96 y97 y98 y99 y100 y101 y102 y103 y104 y105 y106 y107 y108 y109 y110 y111 y112 y113 y114 y115 y116 y117 y118 y119 y120 y121 y122 : Value} (v1 v2 : Value) (done : Bool) (acc : List Ent) (w' : World), TwoRows W W.heap.size v1 v2 (acc.map Prod.fst) (acc.map Prod.snd) w' → fin s (.mk y ly) done acc [] = insR s (.mk y ly) ps → acc.length ≤ nl + 1 → Q .normal { tmps := List.toArray (x0 :: x1 :: x2 :: x3 :: x4 :: x5 :: x6 :: x7 :: (.pointer (some ⟨gb, 0, none⟩)) :: x9 :: (vs s) :: (.pointer (some ⟨gk, 0, none⟩)) :: v1 :: v2 :: (.bool done) :: y15 :: x16 :: x17 :: x18 :: x19 :: x20 :: x21 :: x22 :: x23 :: x24 :: x25 :: x26 :: x27 :: x28 :: x29 :: x30 :: x31 :: x32 :: x33 :: x34 :: x35 :: x36 :: x37 :: x38 :: x39 :: x40 :: x41 :: x42 :: x43 :: x44 :: x45 :: x46 :: x47 :: x48 :: x49 :: x50 :: x51 :: x52 :: x53 :: x54 :: x55 :: x56 :: x57 :: x58 :: x59 :: x60 :: x61 :: x62 :: x63 :: x64 :: x65 :: x66 :: x67 :: x68 :: x69 :: x70 :: x71 :: x72 :: x73 :: y74 :: y75 :: y76 :: y77 :: y78 :: y79 :: y80 :: y81 :: y82 :: y83 :: y84 :: y85 :: y86 :: y87 :: y88 :: y89 :: y90 :: y91 :: y92 :: y93 :: y94 :: y95 :: y96 :: y97 :: y98 :: y99 :: y100 :: y101 :: y102 :: y103 :: y104 :: y105 :: y106 :: y107 :: y108 :: y109 :: y110 :: y111 :: y112 :: y113 :: y114 :: y115 :: y116 :: y117 :: y118 :: y119 :: y120 :: y121 :: y122 :: x123 :: x124 :: x125 :: x126 :: x127 :: x128 :: x129 :: x130 :: x131 :: x132 :: x133 :: x134 :: x135 :: x136 :: x137 :: []), defers := [] } w') :
    Code.wp Tryd.prog (cRight (cLeft (cRight (cRight (cRight (cRight (cRight (cIn (cLeft (cRight (cIn (cIn (cRight (cLeft (cRight (cRight (cRight (cRight (cRight (Tryd.f98.body.getD .skip)))))))))))))))))))) Q { tmps := List.toArray (x0 :: x1 :: x2 :: x3 :: x4 :: x5 :: x6 :: x7 :: (.pointer (some ⟨gb, 0, none⟩)) :: x9 :: (vs s) :: (.pointer (some ⟨gk, 0, none⟩)) :: (.slice none 0 0) :: (.slice none 0 0) :: (.bool false) :: (.int .i64 0) :: x16 :: x17 :: x18 :: x19 :: x20 :: x21 :: x22 :: x23 :: x24 :: x25 :: x26 :: x27 :: x28 :: x29 :: x30 :: x31 :: x32 :: x33 :: x34 :: x35 :: x36 :: x37 :: x38 :: x39 :: x40 :: x41 :: x42 :: x43 :: x44 :: x45 :: x46 :: x47 :: x48 :: x49 :: x50 :: x51 :: x52 :: x53 :: x54 :: x55 :: x56 :: x57 :: x58 :: x59 :: x60 :: x61 :: x62 :: x63 :: x64 :: x65 :: x66 :: x67 :: x68 :: x69 :: x70 :: x71 :: x72 :: x73 :: x74 :: x75 :: x76 :: x77 :: x78 :: x79 :: x80 :: x81 :: x82 :: x83 :: x84 :: x85 :: x86 :: x87 :: x88 :: x89 :: x90 :: x91 :: x92 :: x93 :: x94 :: x95 :: x96 :: x97 :: x98 :: x99 :: x100 :: x101 :: x102 :: x103 :: x104 :: x105 :: x106 :: x107 :: x108 :: x109 :: x110 :: x111 :: x112 :: x113 :: x114 :: x115 :: x116 :: x117 :: x118 :: x119 :: x120 :: x121 :: x122 :: x123 :: x124 :: x125 :: x126 :: x127 :: x128 :: x129 :: x130 :: x131 :: x132 :: x133 :: x134 :: x135 :: x136 :: x137 :: []), defers := [] } W := by
  have HGB := Lib.hid hgb; have HGK := Lib.hid hgk; have HNL := Lib.hid hnl; have HNM := Lib.hid hnames; have HKD := Lib.hid hkids
  clear hgb hgk hnl hnames hkids
  dsimp only [Tryd.f98, cRight, cLeft, cIn, cThen, Option.getD]
  go_wp2_with fail
  go_loopw [12, 13, 14, 15] (fun v1 v2 vd vj wr => ∃ (j : Nat) (done : Bool), j ≤ nl ∧ vj = .int .i64 j ∧ vd = .bool done ∧ Hid (∃ acc, InRel W ps s (.mk y ly) j done v1 v2 acc wr)) (fun _ _ _ vj _ => nl - (intOf vj).toNat)
  case atStart => exact ⟨0, false, Nat.zero_le _, rfl, rfl, [], ⟨strs_nil _ _, nodes_nil _ _, Below.refl _ _⟩, by unfold fin; simp, by simp⟩
  case round =>
    obtain ⟨j, done, hj, rfl, rfl, HP⟩ := hrel
    rename World => W0
    obtain ⟨acc, hin⟩ := HP.out
    have HI := Lib.hid hin
    have hb1 := HGB.out.below hin.rows.below HGB.out.lt
    have c1 := hb1.cell 1; have c2 := hb1.cell 2
    simp only [List.getElem?_cons_zero, List.getElem?_cons_succ] at c1 c2
    clear hin hb1 HP
    by_cases hlt : j < nl
    · obtain ⟨nb, no, hAn, hnc⟩ := HNM.out (by simp; have := HNL.out; omega)
      have hlp : j < ps.length := by have := HNL.out; omega
      obtain ⟨kb, ko, z, lz, hAk, hkb, hz, hcz⟩ := HKD.out.cells j (by simpa using hlp)
      have hnb : nb < W.heap.size := block_of_cell (hnc j (by simpa using hlp))
      have hq0 := hnc j (by simpa using hlp)
      rw [List.getElem_map] at hq0 hz
      have HDR : Hid (ps.drop j = (ps[j].1, T.mk z lz) :: ps.drop (j + 1)) := by
        show _ = _
        rw [List.drop_eq_getElem_cons hlp, ← hz]
      have HC : Hid (∀ W', Below W.heap.size W W' → W'.cell? ⟨gb, 1, none⟩ = some (.slice (some ⟨nb, no, none⟩) nl cn) ∧ W'.cell? ⟨gb, 2, none⟩ = some (.slice (some ⟨kb, ko, none⟩) nl ck) ∧ W'.cell? ⟨nb, no + j, none⟩ = some (vs ps[j].1) ∧ W'.cell? ⟨kb, ko + j * 7, none⟩ = some (vb z.kind) ∧ W'.cell? ⟨kb, ko + j * 7 + 1, none⟩ = some (.slice z.na z.names.length z.nc) ∧ W'.cell? ⟨kb, ko + j * 7 + 2, none⟩ = some (.slice z.ka lz.length z.kc) ∧ W'.cell? ⟨kb, ko + j * 7 + 3, none⟩ = some (.slice z.da z.data.length z.dc) ∧ W'.cell? ⟨kb, ko + j * 7 + 4, none⟩ = some (.bool z.run) ∧ W'.cell? ⟨kb, ko + j * 7 + 5, none⟩ = some (.float .f64 z.stamp) ∧ W'.cell? ⟨kb, ko + j * 7 + 6, none⟩ = some (vs z.target)) := fun W' hW => by
        have h1 := HGB.out.below hW HGB.out.lt
        obtain ⟨a0, a1, a2, a3, a4, a5, a6⟩ := (hcz.same (hW.block kb hkb)).seven
        have e1 := h1.cell 1; have e2 := h1.cell 2
        simp only [List.getElem?_cons_zero, List.getElem?_cons_succ] at e1 e2
        rw [hAn] at e1; rw [hAk] at e2
        exact ⟨e1, e2, by rw [hW.cell (p := ⟨nb, no + j, none⟩) hnb]; exact hq0, a0, a1, a2, a3, a4, a5, a6⟩
      have HBX : Hid (∀ W', Below W.heap.size W W' → Blk W' gk 80 (cellsT (.mk y ly))) := fun W' hW => HGK.out.below hW HGK.out.lt
      have hgkl := HGK.out.lt
      obtain ⟨-, -, n1, -⟩ := HC.out W0 HI.out.rows.below
      rw [hAn] at c1
      clear hnc hcz hq0 hz hAk c2
      generalize ps[j].1 = q at *
      have hal : acc.length ≤ 41 := by have := HI.out.len; have := Bool.toNat_le done; omega
      have hsz : W.heap.size ≤ W0.heap.size := HI.out.rows.below.size
      have hm1 : (acc.map Prod.fst).length ≤ 1000 := by simp; omega
      have hm2 : (acc.map Prod.snd).length ≤ 1000 := by simp; omega
      cases done with
      | true =>
        go_upto_region 22 with fail
        refine reg22 gb j nb no nl cn kb ko nl ck W.heap.size q z lz u12 u13 (acc.map Prod.fst) (acc.map Prod.snd) W W0 _ (fun W' h => HC.out W' (HI.out.rows.below.trans h)) hlt hlt HI.out.rows hsz hm1 hm2 ?_
        intros
        rename TwoRows _ _ _ _ _ _ _ => htr
        have HN : Hid (InRel W ps s (.mk y ly) (j + 1) true _ _ (acc ++ [(q, T.mk z lz)]) _) := ⟨by rw [List.map_append, List.map_append]; exact htr, by rw [fin_old s (.mk y ly) acc (q, T.mk z lz) (ps.drop (j + 1)) true (.inl rfl), ← HDR.out]; exact HI.out.eq, by have := HI.out.len; simp [Bool.toNat] at this ⊢; omega⟩
        clear htr HI n1 c1
        go_wp2_with fail
        go_roundw
        case rel => exact ⟨j + 1, true, by omega, by go_num, rfl, _, HN.out⟩
        case measure => simp [intOf]; omega
      | false =>
        cases hle : leB s q with
        | false =>
          have hle' : Op.bytesLess s q = false ∧ (s == q) = false := by unfold leB at hle; simpa using hle
          obtain ⟨hl1, hl2⟩ := hle'
          have HLE := Lib.hid hle
          clear hle
          go_upto_region 22 with fail
          refine reg22 gb j nb no nl cn kb ko nl ck W.heap.size q z lz u12 u13 (acc.map Prod.fst) (acc.map Prod.snd) W W0 _ (fun W' h => HC.out W' (HI.out.rows.below.trans h)) hlt hlt HI.out.rows hsz hm1 hm2 ?_
          intros
          rename TwoRows _ _ _ _ _ _ _ => htr
          have HN : Hid (InRel W ps s (.mk y ly) (j + 1) false _ _ (acc ++ [(q, T.mk z lz)]) _) := ⟨by rw [List.map_append, List.map_append]; exact htr, by rw [fin_old s (.mk y ly) acc (q, T.mk z lz) (ps.drop (j + 1)) false (.inr HLE.out), ← HDR.out]; exact HI.out.eq, by have := HI.out.len; simp [Bool.toNat] at this ⊢; omega⟩
          clear htr HI n1 c1 hl1 hl2
          go_wp2_with fail
          go_roundw
          case rel => exact ⟨j + 1, false, by omega, by go_num, rfl, _, HN.out⟩
          case measure => simp [intOf]; omega
        | true =>
          have HLE := Lib.hid hle
          unfold leB at hle
          go_upto_region 19 with fail
          refine reg19 gk W.heap.size s y ly u12 u13 (acc.map Prod.fst) (acc.map Prod.snd) W W0 _ (HBX.out _ HI.out.rows.below) hgkl HI.out.rows hsz hm1 hm2 ?_
          intro _ _ _ _ _ _ _ _ v1 v2 w1 htr
          have HTR : Hid (TwoRows W W.heap.size v1 v2 ((acc ++ [(s, T.mk y ly)]).map Prod.fst) ((acc ++ [(s, T.mk y ly)]).map Prod.snd) w1) := by rw [List.map_append, List.map_append]; exact htr
          have hsz1 : W.heap.size ≤ w1.heap.size := htr.below.size
          clear htr n1 c1 hle
          obtain ⟨c1, -, n1, -⟩ := HC.out w1 HTR.out.below
          cases hse : (s == q) with
          | true =>
            have HN : Hid (InRel W ps s (.mk y ly) (j + 1) true v1 v2 (acc ++ [(s, T.mk y ly)]) w1) := ⟨HTR.out, by rw [fin_same s (.mk y ly) acc (q, T.mk z lz) (ps.drop (j + 1)) HLE.out hse, ← HDR.out]; exact HI.out.eq, by have := HI.out.len; simp [Bool.toNat] at this ⊢; omega⟩
            clear HI HTR
            go_wp2_with fail
            go_roundw
            case rel => exact ⟨j + 1, true, by omega, by go_num, rfl, _, HN.out⟩
            case measure => simp [intOf]; omega
          | false =>
            have HQE : Hid (fin s (.mk y ly) true (acc ++ [(s, T.mk y ly)]) ((q, T.mk z lz) :: ps.drop (j + 1)) = insR s (.mk y ly) ps) := by
              show _ = _
              rw [fin_new s (.mk y ly) acc (q, T.mk z lz) (ps.drop (j + 1)) HLE.out hse, ← HDR.out]; exact HI.out.eq
            have hl3 := HI.out.len
            have hm3 : ((acc ++ [(s, T.mk y ly)]).map Prod.fst).length ≤ 1000 := by simp; omega
            have hm4 : ((acc ++ [(s, T.mk y ly)]).map Prod.snd).length ≤ 1000 := by simp; omega
            simp only [Bool.toNat_false] at hl3
            clear HI
            go_upto_region 22 with fail
            refine reg22 gb j nb no nl cn kb ko nl ck W.heap.size q z lz v1 v2 ((acc ++ [(s, T.mk y ly)]).map Prod.fst) ((acc ++ [(s, T.mk y ly)]).map Prod.snd) W w1 _ (fun W' h => HC.out W' (HTR.out.below.trans h)) hlt hlt HTR.out hsz1 hm3 hm4 ?_
            intros
            rename TwoRows _ _ _ _ _ _ _ => htr
            have HN : Hid (InRel W ps s (.mk y ly) (j + 1) true _ _ (acc ++ [(s, T.mk y ly)] ++ [(q, T.mk z lz)]) _) := ⟨by rw [List.map_append (l₂ := [(q, T.mk z lz)]), List.map_append (l₂ := [(q, T.mk z lz)])]; exact htr, by rw [fin_old s (.mk y ly) (acc ++ [(s, T.mk y ly)]) (q, T.mk z lz) (ps.drop (j + 1)) true (.inl rfl)]; exact HQE.out, by simp [Bool.toNat]; omega⟩
            clear htr HTR n1 c1
            go_wp2_with fail
            go_roundw
            case rel => exact ⟨j + 1, true, by omega, by go_num, rfl, _, HN.out⟩
            case measure => simp [intOf]; omega
    · have HJ : Hid (ps.drop j = []) := List.drop_of_length_le (by have := HNL.out; omega)
      obtain rfl : j = nl := by omega
      go_wp2_with fail
      exact hQ _ _ _ acc _ HI.out.rows (by have := HI.out.eq; rw [HJ.out] at this; exact this) (by have := HI.out.len; have := Bool.toNat_le done; omega)
end Go.Proofs.YtggmogjgaoobjaaDoor
