/- The reference's kids: a new entry, put last. -/
import Derived.Test.YtggmogjgaoobjaaDoorXCT14
import Derived.Test.YtggmogjgaoobjaaDoorXCT10
import Derived.Deep.RegionHeld3
import Derived.Deep.CutBlock
import Derived.Test.YtggmogjgaoobjaaDoorXCT15
import Derived.Laws.Concat
namespace Go.Proofs.YtggmogjgaoobjaaDoor
open Go.RowKit TreeMath RealMath

set_option maxHeartbeats 8000000 in
set_option maxRecDepth 100000 in
theorem reg24 {x0 x1 x2 x3 x4 x5 x6 x7 x8 x9 x14 x15 x16 x17 x18 x19 x20 x21 x22 x23 x24 x25 x26 x27 x28 x29 x30 x31 x32 x33 x34 x35 x36 x37 x38 x39 x40 x41 x42 x43 x44 x45 x46 x47 x48 x49 x50 x51 x52 x53 x54 x55 x56 x57 x58 x59 x60 x61 x62 x63 x64 x65 x66 x67 x68 x69 x70 x71 x72 x73 x74 x75 x76 x77 x78 x79 x80 x81 x82 x83 x84 x85 x86 x87 x88 x89 x90 x91 x92 x93 x94 x95 x96 x97 x98 x99 x100 x101 x102 x103 x104 x105 x106 x107 x108 x109 x110 x111 x112 x113 x114 x115 x116 x117 x118 x119 x120 x121 x122 x123 x124 x125 x126 x127 x128 x129 x130 x131 x132 x133 x134 x135 x136 x137 : Value} (gk base : Nat) (s : List By) (y : Hd) (ly : List T) (vn vk : Value) (names : List (List By)) (ts : List T) (Wb W0 : World) (Q : Exit → Act → World → Prop)
    (hbox : Blk W0 gk 80 (cellsT (.mk y ly))) (hgk : gk < base) (h : TwoRows Wb base vn vk names ts W0) (hb0 : base ≤ W0.heap.size) (hn1 : names.length ≤ 1000) (hn2 : ts.length ≤ 1000)
    (hQ : ∀ {y125 y126 y127 y128 y129 y130 y131 y132 : Value} (v1 v2 : Value) (w' : World), TwoRows Wb base v1 v2 (names ++ [s]) (ts ++ [.mk y ly]) w' → Q .normal { tmps := List.toArray (x0 :: x1 :: x2 :: x3 :: x4 :: x5 :: x6 :: x7 :: x8 :: x9 :: (vs s) :: (.pointer (some ⟨gk, 0, none⟩)) :: v1 :: v2 :: x14 :: x15 :: x16 :: x17 :: x18 :: x19 :: x20 :: x21 :: x22 :: x23 :: x24 :: x25 :: x26 :: x27 :: x28 :: x29 :: x30 :: x31 :: x32 :: x33 :: x34 :: x35 :: x36 :: x37 :: x38 :: x39 :: x40 :: x41 :: x42 :: x43 :: x44 :: x45 :: x46 :: x47 :: x48 :: x49 :: x50 :: x51 :: x52 :: x53 :: x54 :: x55 :: x56 :: x57 :: x58 :: x59 :: x60 :: x61 :: x62 :: x63 :: x64 :: x65 :: x66 :: x67 :: x68 :: x69 :: x70 :: x71 :: x72 :: x73 :: x74 :: x75 :: x76 :: x77 :: x78 :: x79 :: x80 :: x81 :: x82 :: x83 :: x84 :: x85 :: x86 :: x87 :: x88 :: x89 :: x90 :: x91 :: x92 :: x93 :: x94 :: x95 :: x96 :: x97 :: x98 :: x99 :: x100 :: x101 :: x102 :: x103 :: x104 :: x105 :: x106 :: x107 :: x108 :: x109 :: x110 :: x111 :: x112 :: x113 :: x114 :: x115 :: x116 :: x117 :: x118 :: x119 :: x120 :: x121 :: x122 :: x123 :: x124 :: y125 :: y126 :: y127 :: y128 :: y129 :: y130 :: y131 :: y132 :: x133 :: x134 :: x135 :: x136 :: x137 :: []), defers := [] } w') :
    Code.wp Tryd.prog (cThen (cRight (cLeft (cRight (cRight (cRight (cRight (cRight (cRight (cIn (cLeft (cRight (cIn (cIn (cRight (cLeft (cRight (cRight (cRight (cRight (cRight (Tryd.f98.body.getD .skip)))))))))))))))))))))) Q { tmps := List.toArray (x0 :: x1 :: x2 :: x3 :: x4 :: x5 :: x6 :: x7 :: x8 :: x9 :: (vs s) :: (.pointer (some ⟨gk, 0, none⟩)) :: vn :: vk :: x14 :: x15 :: x16 :: x17 :: x18 :: x19 :: x20 :: x21 :: x22 :: x23 :: x24 :: x25 :: x26 :: x27 :: x28 :: x29 :: x30 :: x31 :: x32 :: x33 :: x34 :: x35 :: x36 :: x37 :: x38 :: x39 :: x40 :: x41 :: x42 :: x43 :: x44 :: x45 :: x46 :: x47 :: x48 :: x49 :: x50 :: x51 :: x52 :: x53 :: x54 :: x55 :: x56 :: x57 :: x58 :: x59 :: x60 :: x61 :: x62 :: x63 :: x64 :: x65 :: x66 :: x67 :: x68 :: x69 :: x70 :: x71 :: x72 :: x73 :: x74 :: x75 :: x76 :: x77 :: x78 :: x79 :: x80 :: x81 :: x82 :: x83 :: x84 :: x85 :: x86 :: x87 :: x88 :: x89 :: x90 :: x91 :: x92 :: x93 :: x94 :: x95 :: x96 :: x97 :: x98 :: x99 :: x100 :: x101 :: x102 :: x103 :: x104 :: x105 :: x106 :: x107 :: x108 :: x109 :: x110 :: x111 :: x112 :: x113 :: x114 :: x115 :: x116 :: x117 :: x118 :: x119 :: x120 :: x121 :: x122 :: x123 :: x124 :: x125 :: x126 :: x127 :: x128 :: x129 :: x130 :: x131 :: x132 :: x133 :: x134 :: x135 :: x136 :: x137 :: []), defers := [] } W0 := by
  have HBOX := Lib.hid hbox; have H := Lib.hid h
  clear hbox h
  have HCELL : Hid (∀ W, Below base W0 W → W.cell? ⟨gk, 0, none⟩ = some (vb y.kind) ∧ W.cell? ⟨gk, 1, none⟩ = some (.slice y.na y.names.length y.nc) ∧ W.cell? ⟨gk, 2, none⟩ = some (.slice y.ka ly.length y.kc) ∧ W.cell? ⟨gk, 3, none⟩ = some (.slice y.da y.data.length y.dc) ∧ W.cell? ⟨gk, 4, none⟩ = some (.bool y.run) ∧ W.cell? ⟨gk, 5, none⟩ = some (.float .f64 y.stamp) ∧ W.cell? ⟨gk, 6, none⟩ = some (vs y.target)) := fun W hW => by
    have hk := HBOX.out.below hW hgk
    exact ⟨hk.cell 0, hk.cell 1, hk.cell 2, hk.cell 3, hk.cell 4, hk.cell 5, hk.cell 6⟩
  have HS0 : Hid (Strs W0 base vn names) := H.out.names
  have HN0 : Hid (Nodes W0 base vk ts) := H.out.kids
  have HB0 : Hid (Below base W0 W0) := Below.refl _ _
  have k0 := HCELL.out _ HB0.out.drew
  have ka := HCELL.out _ (HB0.out.alloc hb0 (.cells #[vs s] 9)).drew
  have kb := HCELL.out _ (HB0.out.alloc hb0 (.cells #[vb y.kind, .slice y.na y.names.length y.nc, .slice y.ka ly.length y.kc, .slice y.da y.data.length y.dc, .bool y.run, .float .f64 y.stamp, vs y.target] 80)).drew
  have kc := HCELL.out _ ((HB0.out.alloc hb0 (.cells #[vs s] 9)).alloc (by simp; omega) (.cells #[vb y.kind, .slice y.na y.names.length y.nc, .slice y.ka ly.length y.kc, .slice y.da y.data.length y.dc, .bool y.run, .float .f64 y.stamp, vs y.target] 80)).drew
  have kd := HCELL.out _ ((HB0.out.alloc hb0 (.cells #[vb y.kind, .slice y.na y.names.length y.nc, .slice y.ka ly.length y.kc, .slice y.da y.data.length y.dc, .bool y.run, .float .f64 y.stamp, vs y.target] 80)).alloc (by simp; omega) (.cells #[vs s] 9)).drew
  have HBB := Lib.hid H.out.below
  clear H
  have HCA : Hid (∀ (W : World) j u, ([s].map vs)[j]? = some u → (W.alloc (.cells #[vs s] 9)).cell? ((⟨W.heap.size, 0, none⟩ : Addr).add j) = some u) := fun W j u hj => by
    rw [Addr.add_mid, Nat.zero_add, (Blk.new W 9 #[vs s]).cell]; exact hj
  have HCB : Hid (∀ (W : World) j u, ([T.mk y ly].flatMap cellsT)[j]? = some u → (W.alloc (.cells #[vb y.kind, .slice y.na y.names.length y.nc, .slice y.ka ly.length y.kc, .slice y.da y.data.length y.dc, .bool y.run, .float .f64 y.stamp, vs y.target] 80)).cell? ((⟨W.heap.size, 0, none⟩ : Addr).add j) = some u) := fun W j u hj => by
    rw [Addr.add_mid, Nat.zero_add, (Blk.new W 80 #[vb y.kind, .slice y.na y.names.length y.nc, .slice y.ka ly.length y.kc, .slice y.da y.data.length y.dc, .bool y.run, .float .f64 y.stamp, vs y.target]).cell]; exact hj
  dsimp only [Tryd.f98, cRight, cLeft, cIn, cThen, Option.getD]
  have A1 : Hid (Strs (W0.alloc (.cells #[vs s] 9)).drew base vn names) := HS0.out.alloc (.cells #[vs s] 9)
  have A2 : Hid (∀ j u, ([s].map vs)[j]? = some u → (W0.alloc (.cells #[vs s] 9)).drew.cell? ((⟨W0.heap.size, 0, none⟩ : Addr).add j) = some u) := HCA.out W0
  have B1 : Hid (Strs ((W0.alloc (.cells #[vs s] 9)).alloc (.cells #[vb y.kind, .slice y.na y.names.length y.nc, .slice y.ka ly.length y.kc, .slice y.da y.data.length y.dc, .bool y.run, .float .f64 y.stamp, vs y.target] 80)).drew base vn names) := (HS0.out.alloc (.cells #[vs s] 9)).alloc (.cells #[vb y.kind, .slice y.na y.names.length y.nc, .slice y.ka ly.length y.kc, .slice y.da y.data.length y.dc, .bool y.run, .float .f64 y.stamp, vs y.target] 80)
  have B2 : Hid (∀ j u, ([s].map vs)[j]? = some u → ((W0.alloc (.cells #[vs s] 9)).alloc (.cells #[vb y.kind, .slice y.na y.names.length y.nc, .slice y.ka ly.length y.kc, .slice y.da y.data.length y.dc, .bool y.run, .float .f64 y.stamp, vs y.target] 80)).drew.cell? ((⟨W0.heap.size, 0, none⟩ : Addr).add j) = some u) := fun j u hj => by
    have := ((Blk.new W0 9 #[vs s]).alloc (.cells #[vb y.kind, .slice y.na y.names.length y.nc, .slice y.ka ly.length y.kc, .slice y.da y.data.length y.dc, .bool y.run, .float .f64 y.stamp, vs y.target] 80)).drew
    rw [Addr.add_mid, Nat.zero_add, this.cell]; exact hj
  have C1 : Hid (Strs ((W0.alloc (.cells #[vb y.kind, .slice y.na y.names.length y.nc, .slice y.ka ly.length y.kc, .slice y.da y.data.length y.dc, .bool y.run, .float .f64 y.stamp, vs y.target] 80)).alloc (.cells #[vs s] 9)).drew base vn names) := (HS0.out.alloc (.cells #[vb y.kind, .slice y.na y.names.length y.nc, .slice y.ka ly.length y.kc, .slice y.da y.data.length y.dc, .bool y.run, .float .f64 y.stamp, vs y.target] 80)).alloc (.cells #[vs s] 9)
  have C2 : Hid (∀ j u, ([s].map vs)[j]? = some u → ((W0.alloc (.cells #[vb y.kind, .slice y.na y.names.length y.nc, .slice y.ka ly.length y.kc, .slice y.da y.data.length y.dc, .bool y.run, .float .f64 y.stamp, vs y.target] 80)).alloc (.cells #[vs s] 9)).drew.cell? ((⟨W0.heap.size + 1, 0, none⟩ : Addr).add j) = some u) := fun j u hj => by
    have := HCA.out (W0.alloc (.cells #[vb y.kind, .slice y.na y.names.length y.nc, .slice y.ka ly.length y.kc, .slice y.da y.data.length y.dc, .bool y.run, .float .f64 y.stamp, vs y.target] 80)) j u hj
    rw [World.size_alloc] at this; exact this
  go_region_held3 (fun W => W.cell? ⟨gk, 0, none⟩ = some (vb y.kind) ∧ W.cell? ⟨gk, 1, none⟩ = some (.slice y.na y.names.length y.nc) ∧ W.cell? ⟨gk, 2, none⟩ = some (.slice y.ka ly.length y.kc) ∧ W.cell? ⟨gk, 3, none⟩ = some (.slice y.da y.data.length y.dc) ∧ W.cell? ⟨gk, 4, none⟩ = some (.bool y.run) ∧ W.cell? ⟨gk, 5, none⟩ = some (.float .f64 y.stamp) ∧ W.cell? ⟨gk, 6, none⟩ = some (vs y.target))
    (first | exact k0 | exact ka | exact kb | exact kc | exact kd | exact k1 | exact k2 | go_keep)
    (first
      | (refine step_strs (by rfl) (.tmp 125) (.tmp 127) (by rfl) base vn names (by rfl) A1.out ⟨W0.heap.size, 0, none⟩ 1 1 [s] rfl (by rfl) A2.out (by omega) (by simp; omega) ?_
         intro v1 w1 h1 g1
         have HW1 : Hid (Below base W0 w1) := (HB0.out.alloc hb0 (.cells #[vs s] 9)).drew.grown g1 (by simp; omega) (fun c hc => (A1.out.lt c hc).1)
         have D0 : Nodes (W0.alloc (.cells #[vs s] 9)).drew base vk ts := HN0.out.alloc (.cells #[vs s] 9)
         have D1 : Hid (Nodes w1 base vk ts) := D0.kept A1.out g1
         have E1 : Hid (Nodes (w1.alloc (.cells #[vb y.kind, .slice y.na y.names.length y.nc, .slice y.ka ly.length y.kc, .slice y.da y.data.length y.dc, .bool y.run, .float .f64 y.stamp, vs y.target] 80)) base vk ts) := D1.out.alloc _
         have E2 := Lib.hid (HCB.out w1)
         have R1 := Lib.hid h1
         have hw1 : base ≤ w1.heap.size := Nat.le_trans hb0 HW1.out.size
         have k1 := HCELL.out _ HW1.out
         clear h1 g1 D0)
      | (refine step_strs (by rfl) (.tmp 125) (.tmp 127) (by rfl) base vn names (by rfl) B1.out ⟨W0.heap.size, 0, none⟩ 1 1 [s] rfl (by rfl) B2.out (by omega) (by simp; omega) ?_
         intro v1 w1 h1 g1
         have HW1 : Hid (Below base W0 w1) := ((HB0.out.alloc hb0 (.cells #[vs s] 9)).alloc (by simp; omega) (.cells #[vb y.kind, .slice y.na y.names.length y.nc, .slice y.ka ly.length y.kc, .slice y.da y.data.length y.dc, .bool y.run, .float .f64 y.stamp, vs y.target] 80)).drew.grown g1 (by simp; omega) (fun c hc => (B1.out.lt c hc).1)
         have D0 : Nodes ((W0.alloc (.cells #[vs s] 9)).alloc (.cells #[vb y.kind, .slice y.na y.names.length y.nc, .slice y.ka ly.length y.kc, .slice y.da y.data.length y.dc, .bool y.run, .float .f64 y.stamp, vs y.target] 80)).drew base vk ts := (HN0.out.alloc (.cells #[vs s] 9)).alloc (.cells #[vb y.kind, .slice y.na y.names.length y.nc, .slice y.ka ly.length y.kc, .slice y.da y.data.length y.dc, .bool y.run, .float .f64 y.stamp, vs y.target] 80)
         have D1 : Hid (Nodes w1 base vk ts) := D0.kept B1.out g1
         have F1 := Lib.hid D1.out
         have F2 : Hid (∀ j u, ([T.mk y ly].flatMap cellsT)[j]? = some u → w1.cell? ((⟨W0.heap.size + 1, 0, none⟩ : Addr).add j) = some u) := fun j u hj => by
           have h0 : ((W0.alloc (.cells #[vs s] 9)).alloc (.cells #[vb y.kind, .slice y.na y.names.length y.nc, .slice y.ka ly.length y.kc, .slice y.da y.data.length y.dc, .bool y.run, .float .f64 y.stamp, vs y.target] 80)).drew.cell? ((⟨W0.heap.size + 1, 0, none⟩ : Addr).add j) = some u := by
             have := HCB.out (W0.alloc (.cells #[vs s] 9)) j u hj
             rw [World.size_alloc] at this; exact this
           rw [Addr.add_mid] at h0 ⊢
           rw [World.cell?_of_block (a := ⟨W0.heap.size + 1, 0 + j, none⟩) (g1.block (W0.heap.size + 1) (by simp) (fun e => by have := (HS0.out.lt _ e.symm).2; omega))]; exact h0
         have R1 := Lib.hid h1
         have hw1 : base ≤ w1.heap.size := Nat.le_trans hb0 HW1.out.size
         have k1 := HCELL.out _ HW1.out
         clear h1 g1 D0)
      | (refine step_strs (by rfl) (.tmp 125) (.tmp 127) (by rfl) base vn names (by rfl) C1.out ⟨W0.heap.size + 1, 0, none⟩ 1 1 [s] rfl (by rfl) C2.out (by omega) (by simp; omega) ?_
         intro v1 w1 h1 g1
         have HW1 : Hid (Below base W0 w1) := ((HB0.out.alloc hb0 (.cells #[vb y.kind, .slice y.na y.names.length y.nc, .slice y.ka ly.length y.kc, .slice y.da y.data.length y.dc, .bool y.run, .float .f64 y.stamp, vs y.target] 80)).alloc (by simp; omega) (.cells #[vs s] 9)).drew.grown g1 (by simp; omega) (fun c hc => (C1.out.lt c hc).1)
         have D0 : Nodes ((W0.alloc (.cells #[vb y.kind, .slice y.na y.names.length y.nc, .slice y.ka ly.length y.kc, .slice y.da y.data.length y.dc, .bool y.run, .float .f64 y.stamp, vs y.target] 80)).alloc (.cells #[vs s] 9)).drew base vk ts := (HN0.out.alloc (.cells #[vb y.kind, .slice y.na y.names.length y.nc, .slice y.ka ly.length y.kc, .slice y.da y.data.length y.dc, .bool y.run, .float .f64 y.stamp, vs y.target] 80)).alloc (.cells #[vs s] 9)
         have D1 : Hid (Nodes w1 base vk ts) := D0.kept C1.out g1
         have G1 := Lib.hid D1.out
         have G2 : Hid (∀ j u, ([T.mk y ly].flatMap cellsT)[j]? = some u → w1.cell? ((⟨W0.heap.size, 0, none⟩ : Addr).add j) = some u) := fun j u hj => by
           have h0 : ((W0.alloc (.cells #[vb y.kind, .slice y.na y.names.length y.nc, .slice y.ka ly.length y.kc, .slice y.da y.data.length y.dc, .bool y.run, .float .f64 y.stamp, vs y.target] 80)).alloc (.cells #[vs s] 9)).drew.cell? ((⟨W0.heap.size, 0, none⟩ : Addr).add j) = some u := by
             have := ((Blk.new W0 80 #[vb y.kind, .slice y.na y.names.length y.nc, .slice y.ka ly.length y.kc, .slice y.da y.data.length y.dc, .bool y.run, .float .f64 y.stamp, vs y.target]).alloc (.cells #[vs s] 9)).drew
             rw [Addr.add_mid, Nat.zero_add, this.cell]; exact hj
           rw [Addr.add_mid] at h0 ⊢
           rw [World.cell?_of_block (a := ⟨W0.heap.size, 0 + j, none⟩) (g1.block W0.heap.size (by simp; omega) (fun e => by have := (HS0.out.lt _ e.symm).2; omega))]; exact h0
         have R1 := Lib.hid h1
         have hw1 : base ≤ w1.heap.size := Nat.le_trans hb0 HW1.out.size
         have k1 := HCELL.out _ HW1.out
         clear h1 g1 D0)
      | (refine step_nodes (by rfl) (.tmp 129) (.tmp 131) (by rfl) base vk ts (by rfl) E1.out ⟨w1.heap.size, 0, none⟩ 1 1 [T.mk y ly] rfl (by rfl) E2.out (by omega) (by simp; omega) ?_
         intro v2 w2 h2 g2
         have TR : TwoRows Wb base v1 vk (names ++ [s]) ts w1 := ⟨R1.out, D1.out, HBB.out.trans HW1.out⟩
         have HF : Hid (TwoRows Wb base v1 v2 (names ++ [s]) (ts ++ [T.mk y ly]) w2) := TR.push (.cells #[vb y.kind, .slice y.na y.names.length y.nc, .slice y.ka ly.length y.kc, .slice y.da y.data.length y.dc, .bool y.run, .float .f64 y.stamp, vs y.target] 80) hw1 h2 g2
         have k2 := HCELL.out w2 (HW1.out.trans (TR.below_of (.cells #[vb y.kind, .slice y.na y.names.length y.nc, .slice y.ka ly.length y.kc, .slice y.da y.data.length y.dc, .bool y.run, .float .f64 y.stamp, vs y.target] 80) hw1 g2))
         clear h2 g2 TR)
      | (refine step_nodes (by rfl) (.tmp 129) (.tmp 131) (by rfl) base vk ts (by rfl) F1.out ⟨W0.heap.size + 1, 0, none⟩ 1 1 [T.mk y ly] rfl (by rfl) F2.out (by omega) hw1 ?_
         intro v2 w2 h2 g2
         have TR : TwoRows Wb base v1 vk (names ++ [s]) ts w1 := ⟨R1.out, D1.out, HBB.out.trans HW1.out⟩
         have HF : Hid (TwoRows Wb base v1 v2 (names ++ [s]) (ts ++ [T.mk y ly]) w2) := TR.push0 hw1 h2 g2
         have k2 := HCELL.out w2 (HW1.out.trans ((Below.refl base w1).grown g2 hw1 (fun c hc => (D1.out.lt c hc).1)))
         clear h2 g2 TR)
      | (refine step_nodes (by rfl) (.tmp 129) (.tmp 131) (by rfl) base vk ts (by rfl) G1.out ⟨W0.heap.size, 0, none⟩ 1 1 [T.mk y ly] rfl (by rfl) G2.out (by omega) hw1 ?_
         intro v2 w2 h2 g2
         have TR : TwoRows Wb base v1 vk (names ++ [s]) ts w1 := ⟨R1.out, D1.out, HBB.out.trans HW1.out⟩
         have HF : Hid (TwoRows Wb base v1 v2 (names ++ [s]) (ts ++ [T.mk y ly]) w2) := TR.push0 hw1 h2 g2
         have k2 := HCELL.out w2 (HW1.out.trans ((Below.refl base w1).grown g2 hw1 (fun c hc => (D1.out.lt c hc).1)))
         clear h2 g2 TR)
      | fail)
  all_goals (first | exact hQ _ _ _ HF.out | (go_wp2_with fail; first | exact hQ _ _ _ HF.out | exact HF.out))
end Go.Proofs.YtggmogjgaoobjaaDoor

/- The contracts of title and Small. -/
namespace Go.Proofs.YtggmogjgaoobjaaDoor
open Go.RowKit TreeMath RealMath

set_option maxRecDepth 100000 in
theorem title_cells (n : By) : #[Value.int .u8 (97 + (n.toNat : Int) % 26), .int .u8 (97 + (n.toNat : Int) / 26)] = ((titleN n).map vb).toArray := by
  have := n.toNat_lt
  unfold titleN
  simp only [List.map_cons, List.map_nil, vb]
  rw [show ((UInt8.ofNat (97 + n.toNat % 26)).toNat : Int) = 97 + (n.toNat : Int) % 26 by rw [UInt8.toNat_ofNat_of_lt' (by show _ < 256; omega)]; omega,
    show ((UInt8.ofNat (97 + n.toNat / 26)).toNat : Int) = 97 + (n.toNat : Int) / 26 by rw [UInt8.toNat_ofNat_of_lt' (by show _ < 256; omega)]; omega]
set_option maxRecDepth 100000 in
theorem title_conv (n : By) (W : World) : (convert 37 9 (.slice (some ⟨W.heap.size, 0, none⟩) 2 2)).run Tryd.prog (W.alloc (.cells #[.int .u8 (97 + (n.toNat : Int) % 26), .int .u8 (97 + (n.toNat : Int) / 26)] 5)) =
    .ok (vs (titleN n)) (W.alloc (.cells #[.int .u8 (97 + (n.toNat : Int) % 26), .int .u8 (97 + (n.toNat : Int) / 26)] 5)) := by
  rw [title_cells n]
  exact run_text_src (A := some ⟨W.heap.size, 0, none⟩) (cap := 2) (l := titleN n) (Blk.src (tl := []) (by simpa using Blk.new W 5 ((titleN n).map vb).toArray))
set_option maxRecDepth 100000 in
set_option maxHeartbeats 1000000 in
theorem title_any (n : By) (w : World) : Calls Tryd.prog 108 #[vb n] w fun e w' => e = .returned (vs (titleN n)) ∧ Below w.heap.size w w' := by
  have hcv := title_conv n w
  have hn := n.toNat_lt
  go_enter Tryd.func108, Tryd.ntmps108
  go_wp2_with fail
  go_ret
  exact ⟨rfl, (Below.refl _ _).alloc (Nat.le_refl _) _⟩
def smallB (l : List Md) : Bool := l.all (fun m => decide (m.data.length ≤ 200)) && decide (l.length ≤ 60)
set_option maxRecDepth 100000 in
set_option maxHeartbeats 1000000 in
theorem small_any (A : Option Addr) (c B : Nat) (l : List Md) (hl : l.length ≤ maxLen) (w : World) (h : Mades w B A l) : Calls Tryd.prog 31 #[.slice A l.length c] w fun e w' => e = .returned (.bool (smallB l)) ∧ w = w' := by
  have H := Lib.hid h
  clear h
  unfold maxLen at hl
  go_enter Tryd.func31, Tryd.ntmps31
  go_wp2_with fail
  go_loop [3] (fun vi => ∃ i : Nat, i ≤ l.length ∧ vi = .int .i64 i ∧ Hid (∀ j (h : j < l.length), j < i → l[j].data.length ≤ 200)) (fun vi => l.length - (intOf vi).toNat)
  case atStart => exact ⟨0, Nat.zero_le _, rfl, fun j _ h => by omega⟩
  case round =>
    obtain ⟨i, hi, rfl, HP⟩ := hrel
    by_cases hlt : i < l.length
    · obtain ⟨b, o, rfl, hb, hc⟩ := H.out.at_ (by omega)
      obtain ⟨c0, c1, c2, c3, c4, c5⟩ := (hc i hlt).six
      have hdl := (H.out.each _ (List.getElem_mem hlt)).dlen
      unfold maxLen at hdl
      clear hc
      by_cases h2 : l[i].data.length ≤ 200
      · have h2' : ¬ (200 : Int) < l[i].data.length := by omega
        have HP' : Hid (∀ j (h : j < l.length), j < i + 1 → l[j].data.length ≤ 200) := fun j hj hji => by
          by_cases e : j = i
          · subst e; exact h2
          · exact HP.out j hj (by omega)
        clear HP
        generalize l[i] = m at *
        go_wp2_with fail
        go_round
        case rel => exact ⟨i + 1, by omega, by go_num, HP'.out⟩
        case measure => simp [intOf]; omega
      · have h2' : (200 : Int) < l[i].data.length := by omega
        have HF : Hid (smallB l = false) := by
          show _ = _
          unfold smallB
          rw [show l.all (fun m => decide (m.data.length ≤ 200)) = false from List.all_eq_false.2 ⟨l[i], List.getElem_mem hlt, by simpa using h2⟩]; rfl
        clear HP
        generalize l[i] = m at *
        go_wp2_with fail
        go_ret
        exact ⟨by rw [HF.out]; rfl, rfl⟩
    · have HF : Hid (smallB l = decide (l.length ≤ 60)) := by
        show _ = _
        unfold smallB
        rw [show l.all (fun m => decide (m.data.length ≤ 200)) = true from List.all_eq_true.2 (fun m hm => by obtain ⟨j, hj, rfl⟩ := List.getElem_of_mem hm; exact decide_eq_true (HP.out j hj (by omega)))]; rfl
      obtain rfl : i = l.length := by omega
      clear HP
      by_cases h6 : l.length ≤ 60
      · have h6' : decide ((l.length : Int) ≤ 60) = true := decide_eq_true (by omega)
        rw [decide_eq_true h6] at HF
        go_wp2_with fail
        go_ret
        exact ⟨by rw [HF.out]; rfl, rfl⟩
      · have h6' : decide ((l.length : Int) ≤ 60) = false := decide_eq_false (by omega)
        rw [decide_eq_false h6] at HF
        go_wp2_with fail
        go_ret
        exact ⟨by rw [HF.out]; rfl, rfl⟩
end Go.Proofs.YtggmogjgaoobjaaDoor

/- The reference's kids: what holds while a directory's entries are put in. -/
namespace Go.Proofs.YtggmogjgaoobjaaDoor
open Go.RowKit TreeMath RealMath

structure OutRel (w : World) (gb B : Nat) (l : List Md) (at_ deep i : Nat) (vn vk : Value) (ps : List Ent) (wr : World) : Prop where
  blk : Blk wr gb 80 [.int .u8 1, vn, vk, .slice none 0 0, .bool false, .float .f64 0, .string ⟨#[]⟩]
  names : Strs wr (gb + 1) vn (ps.map Prod.fst)
  kids : Nodes wr (gb + 1) vk (ps.map Prod.snd)
  oks : ∀ p ∈ ps, Ok wr wr.heap.size p.2 ∧ InS (fun c => c < B ∨ gb < c) p.2
  sorted : Sorted ps
  good : ∀ p ∈ ps, nameOk p.1 = true
  made : ∀ p ∈ ps, (all p.2).all fitsB = true ∧ depth p.2 + deep ≤ 8
  count : (allL (ps.map Prod.snd)).length ≤ below (parOf l) l.length at_ i
  len : ps.length ≤ i
  below : Below gb w wr
  eqs : ps.map eraseP = entT l (kidsT l (7 - deep)) at_ i
set_option maxRecDepth 100000 in
theorem OutRel.keep {w wr wr' : World} {gb B at_ deep i : Nat} {l : List Md} {vn vk : Value} {ps : List Ent} (h : OutRel w gb B l at_ deep i vn vk ps wr) (hb : Below wr.heap.size wr wr') : OutRel w gb B l at_ deep i vn vk ps wr' :=
  ⟨h.blk.below hb h.blk.lt, own_below h.names hb, own_below h.kids hb, fun p hp => ⟨((h.oks p hp).1.keep hb).up hb.size, (h.oks p hp).2⟩, h.sorted, h.good, h.made, h.count, h.len, h.below.trans (hb.mono (Nat.le_of_lt h.blk.lt)), h.eqs⟩
set_option maxRecDepth 100000 in
theorem out_skip {w wr : World} {gb B at_ deep i : Nat} {l : List Md} {vn vk : Value} {ps : List Ent} (h : OutRel w gb B l at_ deep i vn vk ps wr) (hp : parOf l i ≠ at_) : OutRel w gb B l at_ deep (i + 1) vn vk ps wr :=
  ⟨h.blk, h.names, h.kids, h.oks, h.sorted, h.good, h.made, Nat.le_trans h.count (below_mono _ _ _ _), Nat.le_succ_of_le h.len, h.below, by rw [h.eqs, entT, if_neg (fun e => hp e.2)]⟩
set_option maxRecDepth 100000 in
theorem out_start (w : World) (B : Nat) (l : List Md) (at_ deep i : Nat) (hi : i ≤ at_ + 1) : OutRel w w.heap.size B l at_ deep i (.slice none 0 0) (.slice none 0 0) [] (w.alloc (.cells #[.int .u8 1, .slice none 0 0, .slice none 0 0, .slice none 0 0, .bool false, .float .f64 0, .string ⟨#[]⟩] 80)) :=
  ⟨Blk.new w 80 _, strs_nil _ _, nodes_nil _ _, (fun p hp => by cases hp), List.Pairwise.nil, (fun p hp => by cases hp), (fun p hp => by cases hp), by rw [List.map_nil, allL]; simp, by simp, (Below.refl _ _).alloc (Nat.le_refl _) _, by rw [entT_start _ _ _ _ hi]; rfl⟩
set_option maxRecDepth 100000 in
theorem out_blk {w W w4 : World} {gb B at_ deep i : Nat} {l : List Md} {vn vk : Value} {ps : List Ent} (h : OutRel w gb B l at_ deep i vn vk ps W) (hb : Below W.heap.size W w4) : Blk w4 gb 80 [.int .u8 1, vn, vk, .slice none 0 0, .bool false, .float .f64 0, .string ⟨#[]⟩] := h.blk.below hb h.blk.lt
set_option maxRecDepth 100000 in
theorem set2_other (w : World) (g : Nat) (v1 v2 : Value) (c : Nat) (hc : c ≠ g) : ((w.setCell ⟨g, 1, none⟩ v1).setCell ⟨g, 2, none⟩ v2).heap[c]? = w.heap[c]? := by
  rw [Below.heap_setCell _ _ _ c (fun e => hc (by simpa using e)), Below.heap_setCell _ _ _ c (fun e => hc (by simpa using e))]
set_option maxRecDepth 100000 in
theorem out_step {w W w4 : World} {gb B at_ deep i : Nat} {l : List Md} {vn vk v1 v2 : Value} {ps : List Ent} {s : List By} {k : T} (h : OutRel w gb B l at_ deep i vn vk ps W) (hB : B ≤ gb) (hk1 : Ok W W.heap.size k) (hk2 : InS (fun c => c < B ∨ gb < c) k)
    (hk3 : (all k).all fitsB = true) (hk4 : depth k + deep ≤ 8) (hk5 : count k ≤ cnt (parOf l) l.length i) (hp : parOf l i = at_) (hi : at_ < i) (hs : nameOk s = true) (hsn : s = titleN ((l[i]?.map fun m => m.name).getD 0)) (hke : erase k = kidsT l (7 - deep) i)
    (ht : TwoRows W W.heap.size v1 v2 ((insR s k ps).map Prod.fst) ((insR s k ps).map Prod.snd) w4) :
    OutRel w gb B l at_ deep (i + 1) v1 v2 (insR s k ps) ((w4.setCell ⟨gb, 1, none⟩ v1).setCell ⟨gb, 2, none⟩ v2) := by
  have hgl := h.blk.lt
  have hb := out_blk h ht.below
  have key := set2_other w4 gb v1 v2
  have hsz : ((w4.setCell ⟨gb, 1, none⟩ v1).setCell ⟨gb, 2, none⟩ v2).heap.size = w4.heap.size := by simp only [World.size_setCell]
  have hws := ht.below.size
  have turn : ∀ t, Ok W W.heap.size t → InS (fun c => c < B ∨ gb < c) t → Ok ((w4.setCell ⟨gb, 1, none⟩ v1).setCell ⟨gb, 2, none⟩ v2) ((w4.setCell ⟨gb, 1, none⟩ v1).setCell ⟨gb, 2, none⟩ v2).heap.size t := fun t h1 h2 =>
    h1.turn h2 (fun c hc hl => by rw [key c (by rcases hc with e | e <;> omega)]; exact ht.below.block c hl) (fun c _ hl => by rw [hsz]; omega)
  refine ⟨?_, ?_, ?_, ?_, insR_sorted h.sorted, ?_, ?_, ?_, ?_, ?_, by rw [insR_erase, h.eqs, entT, if_pos ⟨hi, hp⟩, hke, hsn]⟩
  · have := (hb.set 1 v1).set 2 v2; simpa using this
  · exact own_weak (own_same ht.names fun c h1 _ => key c (by omega)) (by omega)
  · exact own_weak (own_same ht.kids fun c h1 _ => key c (by omega)) (by omega)
  · intro p hp'
    rcases insR_mem hp' with e | e
    · rw [e]; exact ⟨turn k hk1 hk2, hk2⟩
    · exact ⟨turn p.2 (h.oks p e).1 (h.oks p e).2, (h.oks p e).2⟩
  · intro p hp'
    rcases insR_mem hp' with e | e
    · rw [e]; exact hs
    · exact h.good p e
  · intro p hp'
    rcases insR_mem hp' with e | e
    · rw [e]; exact ⟨hk3, hk4⟩
    · exact h.made p e
  · have h1 := insR_count s k ps
    have h2 := below_step (parOf l) l.length at_ i hp hi
    have h3 := h.count
    omega
  · have := insR_length s k ps; have := h.len; omega
  · exact ((h.below.trans (ht.below.mono (Nat.le_of_lt hgl))).setCell (by exact Nat.le_refl _) _).setCell (by exact Nat.le_refl _) _
set_option maxRecDepth 100000 in
theorem all_fits {ks : List T} (h : ∀ k ∈ ks, (all k).all fitsB = true) : (allL ks).all fitsB = true := by
  induction ks with
  | nil => rw [allL]; rfl
  | cons k l ih => rw [allL, List.all_append, h k (by simp), ih (fun j hj => h j (by simp [hj]))]; rfl
set_option maxRecDepth 100000 in
theorem depth_kids {ks : List T} {d : Nat} (h : ∀ k ∈ ks, depth k ≤ d) : depthL ks ≤ d := by
  induction ks with
  | nil => rw [depthL]; omega
  | cons k l ih => rw [depthL]; have := h k (by simp); have := ih (fun j hj => h j (by simp [hj])); omega
set_option maxRecDepth 100000 in
theorem out_done {w wr : World} {gb B at_ deep i : Nat} {l : List Md} {vn vk : Value} {ps : List Ent} (h : OutRel w gb B l at_ deep i vn vk ps wr) (hat : at_ < l.length) (hi : i ≤ 40) (hd : deep ≤ 7) (hil : i = l.length) (hkd : kidsT l (8 - deep) at_ = .mk (dirE ((entT l (kidsT l (7 - deep)) at_ l.length).map Prod.fst)) ((entT l (kidsT l (7 - deep)) at_ l.length).map Prod.snd)) :
    ∃ An cn Ak ck, vn = .slice An ps.length cn ∧ vk = .slice Ak ps.length ck ∧ Ok wr wr.heap.size (.mk (dirHd An cn (ps.map Prod.fst) Ak ck) (ps.map Prod.snd)) ∧ InS (fun c => c < B ∨ gb < c) (.mk (dirHd An cn (ps.map Prod.fst) Ak ck) (ps.map Prod.snd)) ∧
      MadeT l at_ deep (.mk (dirHd An cn (ps.map Prod.fst) Ak ck) (ps.map Prod.snd)) := by
  obtain ⟨An, cn, hn, hns, hnn, hnc, hnb⟩ := h.names.src
  obtain ⟨Ak, ck, hkv, hks, hkn, hkc, hkb⟩ := h.kids.src
  have hlen := h.len
  rw [List.length_map] at hn hnc hkv hkc
  refine ⟨An, cn, Ak, ck, hn, hkv, ok_dir _ _ _ _ _ _ hns (fun _ a ha => (hnb a ha).2) hnn (by rw [List.length_map]; exact hnc) (by rw [List.length_map]; unfold maxLen; omega) ?_ hkn (by rw [List.length_map]; unfold maxLen; omega) (by rw [List.length_map]; exact hkc) hks ?_, ?_, ?_⟩
  · intro t ht
    obtain ⟨p, hp, rfl⟩ := List.mem_map.1 ht
    have := h.good p hp
    unfold nameOk at this
    simp only [Bool.and_eq_true, decide_eq_true_eq] at this
    have := this.1.1.1.1.2
    unfold maxLen; omega
  · intro t ht
    obtain ⟨p, hp, rfl⟩ := List.mem_map.1 ht
    exact (h.oks p hp).1
  · refine inS_dir _ _ _ _ _ _ _ (fun _ a ha => .inr (by have := (hnb a ha).1; omega)) (fun _ a ha => .inr (by have := (hkb a ha).1; omega)) ?_
    intro t ht
    obtain ⟨p, hp, rfl⟩ := List.mem_map.1 ht
    exact (h.oks p hp).2
  · refine ⟨?_, ?_, ?_, ?_⟩
    · rw [all, List.all_cons, fits_dir, namesOk_sorted h.sorted h.good, List.length_map, List.length_map, decide_eq_true rfl, all_fits (fun t ht => by obtain ⟨p, hp, rfl⟩ := List.mem_map.1 ht; exact (h.made p hp).1)]; rfl
    · have := depth_kids (ks := ps.map Prod.snd) (d := 8 - deep) (fun t ht => by obtain ⟨p, hp, rfl⟩ := List.mem_map.1 ht; have := (h.made p hp).2; omega)
      rw [TreeMath.depth]; omega
    · rw [count_mk]; have := h.count; have := below_cnt (parOf l) l.length at_ i hat; omega
    · rw [hkd, ← hil, ← h.eqs, erase, eraseL_map, List.map_map, List.map_map, List.map_map]; rfl
set_option maxRecDepth 100000 in
theorem made_file (l : List Md) (at_ deep : Nat) (da : Option Addr) (dc : Nat) (data : List By) (run : Bool) (stamp : Nat) (h : data.length ≤ 200) (hat : at_ < l.length) (hd : deep ≤ 8) (he : kidsT l (8 - deep) at_ = .mk (fileE data run stamp) []) : MadeT l at_ deep (.mk (fileHd da dc data run stamp) []) :=
  ⟨by rw [all, allL, List.all_cons, fits_file, decide_eq_true (by omega)]; rfl, by rw [TreeMath.depth, depthL]; omega, by rw [count_mk, allL]; have := below_cnt (parOf l) l.length at_ 0 hat; simp; omega, by rw [he]; rfl⟩
set_option maxRecDepth 100000 in
theorem made_link (l : List Md) (at_ deep : Nat) (t : List By) (h : t.length ≤ 200) (hat : at_ < l.length) (hd : deep ≤ 8) (he : kidsT l (8 - deep) at_ = .mk (linkE (116 :: t)) []) : MadeT l at_ deep (.mk (linkHd (116 :: t)) []) :=
  ⟨by rw [all, allL, List.all_cons, fits_link, decide_eq_true (by simp), decide_eq_true (by simp; omega)]; rfl, by rw [TreeMath.depth, depthL]; omega, by rw [count_mk, allL]; have := below_cnt (parOf l) l.length at_ 0 hat; simp; omega, by rw [he]; rfl⟩
end Go.Proofs.YtggmogjgaoobjaaDoor

/- The reference's kids: links and files. -/
namespace Go.Proofs.YtggmogjgaoobjaaDoor
open Go.RowKit TreeMath RealMath

/-- what a made node comes to -/
def KPost (l : List Md) (B at_ deep : Nat) (w : World) (e : Ending) (w' : World) : Prop := ∃ t, e = .returned (val t) ∧ Ok w' w'.heap.size t ∧ InS (fun c => c < B ∨ w.heap.size ≤ c) t ∧ MadeT l at_ deep t ∧ Below w.heap.size w w'
set_option maxHeartbeats 4000000 in
set_option maxRecDepth 100000 in
theorem kids_link (l : List Md) (A : Option Addr) (c B at_ deep : Nat) (w : World) (hd2 : deep ≤ 8) (hat : at_ < l.length) (hl40 : l.length ≤ 40) (hdata : ∀ x ∈ l, x.data.length ≤ 200) (hm : Mades w B A l) (hk : l[at_].kind.toNat % 4 = 3) :
    Calls Tryd.prog 98 #[.slice A l.length c, .int .i64 at_, .int .i64 deep] w (KPost l B at_ deep w) := by
  have hBw := hm.le
  obtain ⟨b, o, rfl, hbB, hc⟩ := hm.at_ (by omega)
  obtain ⟨c0, c1, c2, c3, c4, c5⟩ := (hc at_ hat).six
  have hok := hm.each _ (List.getElem_mem hat)
  have hdl := hdata _ (List.getElem_mem hat)
  have hbw : b < w.heap.size := by omega
  have HMD := Lib.hid (made_link l at_ deep l[at_].data hdl hat hd2 (by rw [kidsT_leaf hat (.inl (by omega))]; unfold leafE; rw [if_pos hk]))
  have HOK := Lib.hid hok
  clear hc hok hm hdata
  generalize l[at_] = x at *
  have hk' : ((x.kind.toNat : Int) % 4) = 3 := by omega
  have hcv : ∀ W, Below w.heap.size w W → (convert 37 9 (.slice x.da x.data.length x.dc)).run Tryd.prog W = .ok (.string ⟨x.data.toArray⟩) W := fun W hW => run_text_src (HOK.out.dsrc.below hW)
  have hcv1 := hcv ((w.alloc (.cells #[.int .u8 0, .slice none 0 0, .slice none 0 0, .slice none 0 0, .bool false, .float .f64 0, .string ⟨#[]⟩] 80)).alloc (.cells #[.int .u8 (x.up.toNat : Int), .int .u8 (x.kind.toNat : Int), .int .u8 (x.name.toNat : Int), .slice x.da x.data.length x.dc, .bool x.run, .float .f64 x.stamp] 128)) (((Below.refl _ _).alloc (Nat.le_refl _) _).alloc (by simp) _)
  have hadd : ∀ W, (Op.stringOp .add ⟨[116].toArray⟩ ⟨x.data.toArray⟩).run Tryd.prog W = .ok (.string ⟨([116] ++ x.data).toArray⟩) W := fun W => run_string_add_lists W [116] x.data (by simp) (by omega)
  clear hcv
  go_enter Tryd.func98, Tryd.ntmps98
  go_wp2_with fail
  refine bodyPost_ret (v := val (.mk (linkHd (116 :: x.data)) [])) (by simp [results, Tryd.results98, go_sem]; rfl) rfl ⟨_, rfl, ok_link _ (by unfold maxLen; simp; omega), inS_link _ _, HMD.out, ((Below.refl _ _).alloc (Nat.le_refl _) _).alloc (by simp) _⟩
set_option maxHeartbeats 4000000 in
set_option maxRecDepth 100000 in
theorem kids_file (l : List Md) (A : Option Addr) (c B at_ deep : Nat) (w : World) (hd2 : deep ≤ 8) (hat : at_ < l.length) (hl40 : l.length ≤ 40) (hdata : ∀ x ∈ l, x.data.length ≤ 200) (hm : Mades w B A l) (hk : l[at_].kind.toNat % 4 ≠ 3) (hk0 : 0 < l[at_].kind.toNat % 4 ∨ deep = 8) :
    Calls Tryd.prog 98 #[.slice A l.length c, .int .i64 at_, .int .i64 deep] w (KPost l B at_ deep w) := by
  have hBw := hm.le
  obtain ⟨b, o, rfl, hbB, hc⟩ := hm.at_ (by omega)
  obtain ⟨c0, c1, c2, c3, c4, c5⟩ := (hc at_ hat).six
  have hok := hm.each _ (List.getElem_mem hat)
  have hlow := hm.low _ (List.getElem_mem hat)
  have hdl := hdata _ (List.getElem_mem hat)
  have hbw : b < w.heap.size := by omega
  have HMD := Lib.hid (made_file l at_ deep l[at_].da l[at_].dc l[at_].data l[at_].run l[at_].stamp hdl hat hd2 (by rw [kidsT_leaf hat (hk0.imp id (fun e => by omega))]; unfold leafE; rw [if_neg hk]))
  have HOK := Lib.hid hok; have HLOW := Lib.hid hlow
  clear hc hok hm hdata hlow
  generalize l[at_] = x at *
  have hk' : ((((x.kind.toNat : Int) % 4)) == 3) = false := by rw [beq_eq_false_iff_ne]; omega
  have HB : Hid (∀ o1 o2, Below w.heap.size w ((w.alloc o1).alloc o2)) := fun o1 o2 => ((Below.refl _ _).alloc (Nat.le_refl _) _).alloc (by simp) _
  have HF : Hid (∀ W, Below w.heap.size w W → Ok W W.heap.size (.mk (fileHd x.da x.dc x.data x.run x.stamp) []) ∧ InS (fun c => c < B ∨ w.heap.size ≤ c) (.mk (fileHd x.da x.dc x.data x.run x.stamp) [])) := fun W hW =>
    ⟨ok_file _ _ _ _ _ (HOK.out.dsrc.below hW) (fun h a ha => Nat.lt_of_lt_of_le (HOK.out.dsrc.lt h a ha) hW.size) HOK.out.dnil HOK.out.dcap HOK.out.dlen HOK.out.stamp, inS_file _ _ _ _ _ _ (fun h a ha => .inl (HLOW.out h a ha))⟩
  have HIN := Lib.hid (HF.out w (Below.refl _ _)).2
  by_cases h0 : 0 < x.kind.toNat % 4
  · have h0' : decide ((0 : Int) < (x.kind.toNat : Int) % 4) = true := decide_eq_true (by omega)
    go_enter Tryd.func98, Tryd.ntmps98
    go_wp2_with fail
    refine bodyPost_ret (v := val (.mk (fileHd x.da x.dc x.data x.run x.stamp) [])) (by simp [results, Tryd.results98, go_sem]; rfl) rfl ⟨_, rfl, (HF.out _ (HB.out _ _)).1, HIN.out, HMD.out, HB.out _ _⟩
  · have h0' : decide ((0 : Int) < (x.kind.toNat : Int) % 4) = false := decide_eq_false (by omega)
    obtain rfl : deep = 8 := by omega
    go_enter Tryd.func98, Tryd.ntmps98
    go_wp2_with fail
    refine bodyPost_ret (v := val (.mk (fileHd x.da x.dc x.data x.run x.stamp) [])) (by simp [results, Tryd.results98, go_sem]; rfl) rfl ⟨_, rfl, (HF.out _ (HB.out _ _)).1, HIN.out, HMD.out, HB.out _ _⟩
end Go.Proofs.YtggmogjgaoobjaaDoor
