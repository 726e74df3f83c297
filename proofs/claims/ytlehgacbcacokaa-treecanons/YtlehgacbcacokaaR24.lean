/- The reference's kids: a new entry, put last. -/
import Derived.Test.YtlehgacbcacokaaK5
import Derived.Test.YtlehgacbcacokaaW12a
import Derived.Deep.RegionHeld3
import Derived.Deep.CutBlock
namespace Go.Proofs.Ytlehgacbcacokaa
open Go.RowKit TreeMath RealMath

set_option maxHeartbeats 8000000 in
set_option maxRecDepth 100000 in
theorem reg24 {x0 x1 x2 x3 x4 x5 x6 x7 x8 x9 x14 x15 x16 x17 x18 x19 x20 x21 x22 x23 x24 x25 x26 x27 x28 x29 x30 x31 x32 x33 x34 x35 x36 x37 x38 x39 x40 x41 x42 x43 x44 x45 x46 x47 x48 x49 x50 x51 x52 x53 x54 x55 x56 x57 x58 x59 x60 x61 x62 x63 x64 x65 x66 x67 x68 x69 x70 x71 x72 x73 x74 x75 x76 x77 x78 x79 x80 x81 x82 x83 x84 x85 x86 x87 x88 x89 x90 x91 x92 x93 x94 x95 x96 x97 x98 x99 x100 x101 x102 x103 x104 x105 x106 x107 x108 x109 x110 x111 x112 x113 x114 x115 x116 x117 x118 x119 x120 x121 x122 x123 x124 x125 x126 x127 x128 x129 x130 x131 x132 x133 x134 x135 x136 x137 : Value} (gk base : Nat) (s : List By) (y : Hd) (ly : List T) (vn vk : Value) (names : List (List By)) (ts : List T) (Wb W0 : World) (Q : Exit → Act → World → Prop)
    (hbox : Blk W0 gk 27 (cellsT (.mk y ly))) (hgk : gk < base) (h : TwoRows Wb base vn vk names ts W0) (hb0 : base ≤ W0.heap.size) (hn1 : names.length ≤ 1000) (hn2 : ts.length ≤ 1000)
    (hQ : ∀ {y125 y126 y127 y128 y129 y130 y131 y132 : Value} (v1 v2 : Value) (w' : World), TwoRows Wb base v1 v2 (names ++ [s]) (ts ++ [.mk y ly]) w' → Q .normal { tmps := List.toArray (x0 :: x1 :: x2 :: x3 :: x4 :: x5 :: x6 :: x7 :: x8 :: x9 :: (vs s) :: (.pointer (some ⟨gk, 0, none⟩)) :: v1 :: v2 :: x14 :: x15 :: x16 :: x17 :: x18 :: x19 :: x20 :: x21 :: x22 :: x23 :: x24 :: x25 :: x26 :: x27 :: x28 :: x29 :: x30 :: x31 :: x32 :: x33 :: x34 :: x35 :: x36 :: x37 :: x38 :: x39 :: x40 :: x41 :: x42 :: x43 :: x44 :: x45 :: x46 :: x47 :: x48 :: x49 :: x50 :: x51 :: x52 :: x53 :: x54 :: x55 :: x56 :: x57 :: x58 :: x59 :: x60 :: x61 :: x62 :: x63 :: x64 :: x65 :: x66 :: x67 :: x68 :: x69 :: x70 :: x71 :: x72 :: x73 :: x74 :: x75 :: x76 :: x77 :: x78 :: x79 :: x80 :: x81 :: x82 :: x83 :: x84 :: x85 :: x86 :: x87 :: x88 :: x89 :: x90 :: x91 :: x92 :: x93 :: x94 :: x95 :: x96 :: x97 :: x98 :: x99 :: x100 :: x101 :: x102 :: x103 :: x104 :: x105 :: x106 :: x107 :: x108 :: x109 :: x110 :: x111 :: x112 :: x113 :: x114 :: x115 :: x116 :: x117 :: x118 :: x119 :: x120 :: x121 :: x122 :: x123 :: x124 :: y125 :: y126 :: y127 :: y128 :: y129 :: y130 :: y131 :: y132 :: x133 :: x134 :: x135 :: x136 :: x137 :: []), defers := [] } w') :
    Code.wp Try.prog (cThen (cRight (cLeft (cRight (cRight (cRight (cRight (cRight (cRight (cIn (cLeft (cRight (cIn (cIn (cRight (cLeft (cRight (cRight (cRight (cRight (cRight (Try.f55.body.getD .skip)))))))))))))))))))))) Q { tmps := List.toArray (x0 :: x1 :: x2 :: x3 :: x4 :: x5 :: x6 :: x7 :: x8 :: x9 :: (vs s) :: (.pointer (some ⟨gk, 0, none⟩)) :: vn :: vk :: x14 :: x15 :: x16 :: x17 :: x18 :: x19 :: x20 :: x21 :: x22 :: x23 :: x24 :: x25 :: x26 :: x27 :: x28 :: x29 :: x30 :: x31 :: x32 :: x33 :: x34 :: x35 :: x36 :: x37 :: x38 :: x39 :: x40 :: x41 :: x42 :: x43 :: x44 :: x45 :: x46 :: x47 :: x48 :: x49 :: x50 :: x51 :: x52 :: x53 :: x54 :: x55 :: x56 :: x57 :: x58 :: x59 :: x60 :: x61 :: x62 :: x63 :: x64 :: x65 :: x66 :: x67 :: x68 :: x69 :: x70 :: x71 :: x72 :: x73 :: x74 :: x75 :: x76 :: x77 :: x78 :: x79 :: x80 :: x81 :: x82 :: x83 :: x84 :: x85 :: x86 :: x87 :: x88 :: x89 :: x90 :: x91 :: x92 :: x93 :: x94 :: x95 :: x96 :: x97 :: x98 :: x99 :: x100 :: x101 :: x102 :: x103 :: x104 :: x105 :: x106 :: x107 :: x108 :: x109 :: x110 :: x111 :: x112 :: x113 :: x114 :: x115 :: x116 :: x117 :: x118 :: x119 :: x120 :: x121 :: x122 :: x123 :: x124 :: x125 :: x126 :: x127 :: x128 :: x129 :: x130 :: x131 :: x132 :: x133 :: x134 :: x135 :: x136 :: x137 :: []), defers := [] } W0 := by
  have HBOX := Lib.hid hbox; have H := Lib.hid h
  clear hbox h
  have HCELL : Hid (∀ W, Below base W0 W → W.cell? ⟨gk, 0, none⟩ = some (vb y.kind) ∧ W.cell? ⟨gk, 1, none⟩ = some (.slice y.na y.names.length y.nc) ∧ W.cell? ⟨gk, 2, none⟩ = some (.slice y.ka ly.length y.kc) ∧ W.cell? ⟨gk, 3, none⟩ = some (.slice y.da y.data.length y.dc) ∧ W.cell? ⟨gk, 4, none⟩ = some (.bool y.run) ∧ W.cell? ⟨gk, 5, none⟩ = some (.float .f64 y.stamp) ∧ W.cell? ⟨gk, 6, none⟩ = some (vs y.target)) := fun W hW => by
    have hk := HBOX.out.below hW hgk
    exact ⟨hk.cell 0, hk.cell 1, hk.cell 2, hk.cell 3, hk.cell 4, hk.cell 5, hk.cell 6⟩
  have HS0 : Hid (Strs W0 base vn names) := H.out.names
  have HN0 : Hid (Nodes W0 base vk ts) := H.out.kids
  have HB0 : Hid (Below base W0 W0) := Below.refl _ _
  have k0 := HCELL.out _ HB0.out.drew
  have ka := HCELL.out _ (HB0.out.alloc hb0 (.cells #[vs s] 9)).drew
  have kb := HCELL.out _ (HB0.out.alloc hb0 (.cells #[vb y.kind, .slice y.na y.names.length y.nc, .slice y.ka ly.length y.kc, .slice y.da y.data.length y.dc, .bool y.run, .float .f64 y.stamp, vs y.target] 27)).drew
  have kc := HCELL.out _ ((HB0.out.alloc hb0 (.cells #[vs s] 9)).alloc (by simp; omega) (.cells #[vb y.kind, .slice y.na y.names.length y.nc, .slice y.ka ly.length y.kc, .slice y.da y.data.length y.dc, .bool y.run, .float .f64 y.stamp, vs y.target] 27)).drew
  have kd := HCELL.out _ ((HB0.out.alloc hb0 (.cells #[vb y.kind, .slice y.na y.names.length y.nc, .slice y.ka ly.length y.kc, .slice y.da y.data.length y.dc, .bool y.run, .float .f64 y.stamp, vs y.target] 27)).alloc (by simp; omega) (.cells #[vs s] 9)).drew
  have HBB := Lib.hid H.out.below
  clear H
  have HCA : Hid (∀ (W : World) j u, ([s].map vs)[j]? = some u → (W.alloc (.cells #[vs s] 9)).cell? ((⟨W.heap.size, 0, none⟩ : Addr).add j) = some u) := fun W j u hj => by
    rw [Addr.add_mid, Nat.zero_add, (Blk.new W 9 #[vs s]).cell]; exact hj
  have HCB : Hid (∀ (W : World) j u, ([T.mk y ly].flatMap cellsT)[j]? = some u → (W.alloc (.cells #[vb y.kind, .slice y.na y.names.length y.nc, .slice y.ka ly.length y.kc, .slice y.da y.data.length y.dc, .bool y.run, .float .f64 y.stamp, vs y.target] 27)).cell? ((⟨W.heap.size, 0, none⟩ : Addr).add j) = some u) := fun W j u hj => by
    rw [Addr.add_mid, Nat.zero_add, (Blk.new W 27 #[vb y.kind, .slice y.na y.names.length y.nc, .slice y.ka ly.length y.kc, .slice y.da y.data.length y.dc, .bool y.run, .float .f64 y.stamp, vs y.target]).cell]; exact hj
  dsimp only [Try.f55, cRight, cLeft, cIn, cThen, Option.getD]
  have A1 : Hid (Strs (W0.alloc (.cells #[vs s] 9)).drew base vn names) := HS0.out.alloc (.cells #[vs s] 9)
  have A2 : Hid (∀ j u, ([s].map vs)[j]? = some u → (W0.alloc (.cells #[vs s] 9)).drew.cell? ((⟨W0.heap.size, 0, none⟩ : Addr).add j) = some u) := HCA.out W0
  have B1 : Hid (Strs ((W0.alloc (.cells #[vs s] 9)).alloc (.cells #[vb y.kind, .slice y.na y.names.length y.nc, .slice y.ka ly.length y.kc, .slice y.da y.data.length y.dc, .bool y.run, .float .f64 y.stamp, vs y.target] 27)).drew base vn names) := (HS0.out.alloc (.cells #[vs s] 9)).alloc (.cells #[vb y.kind, .slice y.na y.names.length y.nc, .slice y.ka ly.length y.kc, .slice y.da y.data.length y.dc, .bool y.run, .float .f64 y.stamp, vs y.target] 27)
  have B2 : Hid (∀ j u, ([s].map vs)[j]? = some u → ((W0.alloc (.cells #[vs s] 9)).alloc (.cells #[vb y.kind, .slice y.na y.names.length y.nc, .slice y.ka ly.length y.kc, .slice y.da y.data.length y.dc, .bool y.run, .float .f64 y.stamp, vs y.target] 27)).drew.cell? ((⟨W0.heap.size, 0, none⟩ : Addr).add j) = some u) := fun j u hj => by
    have := ((Blk.new W0 9 #[vs s]).alloc (.cells #[vb y.kind, .slice y.na y.names.length y.nc, .slice y.ka ly.length y.kc, .slice y.da y.data.length y.dc, .bool y.run, .float .f64 y.stamp, vs y.target] 27)).drew
    rw [Addr.add_mid, Nat.zero_add, this.cell]; exact hj
  have C1 : Hid (Strs ((W0.alloc (.cells #[vb y.kind, .slice y.na y.names.length y.nc, .slice y.ka ly.length y.kc, .slice y.da y.data.length y.dc, .bool y.run, .float .f64 y.stamp, vs y.target] 27)).alloc (.cells #[vs s] 9)).drew base vn names) := (HS0.out.alloc (.cells #[vb y.kind, .slice y.na y.names.length y.nc, .slice y.ka ly.length y.kc, .slice y.da y.data.length y.dc, .bool y.run, .float .f64 y.stamp, vs y.target] 27)).alloc (.cells #[vs s] 9)
  have C2 : Hid (∀ j u, ([s].map vs)[j]? = some u → ((W0.alloc (.cells #[vb y.kind, .slice y.na y.names.length y.nc, .slice y.ka ly.length y.kc, .slice y.da y.data.length y.dc, .bool y.run, .float .f64 y.stamp, vs y.target] 27)).alloc (.cells #[vs s] 9)).drew.cell? ((⟨W0.heap.size + 1, 0, none⟩ : Addr).add j) = some u) := fun j u hj => by
    have := HCA.out (W0.alloc (.cells #[vb y.kind, .slice y.na y.names.length y.nc, .slice y.ka ly.length y.kc, .slice y.da y.data.length y.dc, .bool y.run, .float .f64 y.stamp, vs y.target] 27)) j u hj
    rw [World.size_alloc] at this; exact this
  go_region_held3 (fun W => W.cell? ⟨gk, 0, none⟩ = some (vb y.kind) ∧ W.cell? ⟨gk, 1, none⟩ = some (.slice y.na y.names.length y.nc) ∧ W.cell? ⟨gk, 2, none⟩ = some (.slice y.ka ly.length y.kc) ∧ W.cell? ⟨gk, 3, none⟩ = some (.slice y.da y.data.length y.dc) ∧ W.cell? ⟨gk, 4, none⟩ = some (.bool y.run) ∧ W.cell? ⟨gk, 5, none⟩ = some (.float .f64 y.stamp) ∧ W.cell? ⟨gk, 6, none⟩ = some (vs y.target))
    (first | exact k0 | exact ka | exact kb | exact kc | exact kd | exact k1 | exact k2 | go_keep)
    (first
      | (refine step_strs (by rfl) (.tmp 125) (.tmp 127) (by rfl) base vn names (by rfl) A1.out ⟨W0.heap.size, 0, none⟩ 1 1 [s] rfl (by rfl) A2.out (by omega) (by simp; omega) ?_
         intro v1 w1 h1 g1
         have HW1 : Hid (Below base W0 w1) := (HB0.out.alloc hb0 (.cells #[vs s] 9)).drew.grown g1 (by simp; omega) (fun c hc => (A1.out.lt c hc).1)
         have D0 : Nodes (W0.alloc (.cells #[vs s] 9)).drew base vk ts := HN0.out.alloc (.cells #[vs s] 9)
         have D1 : Hid (Nodes w1 base vk ts) := D0.kept A1.out g1
         have E1 : Hid (Nodes (w1.alloc (.cells #[vb y.kind, .slice y.na y.names.length y.nc, .slice y.ka ly.length y.kc, .slice y.da y.data.length y.dc, .bool y.run, .float .f64 y.stamp, vs y.target] 27)) base vk ts) := D1.out.alloc _
         have E2 := Lib.hid (HCB.out w1)
         have R1 := Lib.hid h1
         have hw1 : base ≤ w1.heap.size := Nat.le_trans hb0 HW1.out.size
         have k1 := HCELL.out _ HW1.out
         clear h1 g1 D0)
      | (refine step_strs (by rfl) (.tmp 125) (.tmp 127) (by rfl) base vn names (by rfl) B1.out ⟨W0.heap.size, 0, none⟩ 1 1 [s] rfl (by rfl) B2.out (by omega) (by simp; omega) ?_
         intro v1 w1 h1 g1
         have HW1 : Hid (Below base W0 w1) := ((HB0.out.alloc hb0 (.cells #[vs s] 9)).alloc (by simp; omega) (.cells #[vb y.kind, .slice y.na y.names.length y.nc, .slice y.ka ly.length y.kc, .slice y.da y.data.length y.dc, .bool y.run, .float .f64 y.stamp, vs y.target] 27)).drew.grown g1 (by simp; omega) (fun c hc => (B1.out.lt c hc).1)
         have D0 : Nodes ((W0.alloc (.cells #[vs s] 9)).alloc (.cells #[vb y.kind, .slice y.na y.names.length y.nc, .slice y.ka ly.length y.kc, .slice y.da y.data.length y.dc, .bool y.run, .float .f64 y.stamp, vs y.target] 27)).drew base vk ts := (HN0.out.alloc (.cells #[vs s] 9)).alloc (.cells #[vb y.kind, .slice y.na y.names.length y.nc, .slice y.ka ly.length y.kc, .slice y.da y.data.length y.dc, .bool y.run, .float .f64 y.stamp, vs y.target] 27)
         have D1 : Hid (Nodes w1 base vk ts) := D0.kept B1.out g1
         have F1 := Lib.hid D1.out
         have F2 : Hid (∀ j u, ([T.mk y ly].flatMap cellsT)[j]? = some u → w1.cell? ((⟨W0.heap.size + 1, 0, none⟩ : Addr).add j) = some u) := fun j u hj => by
           have h0 : ((W0.alloc (.cells #[vs s] 9)).alloc (.cells #[vb y.kind, .slice y.na y.names.length y.nc, .slice y.ka ly.length y.kc, .slice y.da y.data.length y.dc, .bool y.run, .float .f64 y.stamp, vs y.target] 27)).drew.cell? ((⟨W0.heap.size + 1, 0, none⟩ : Addr).add j) = some u := by
             have := HCB.out (W0.alloc (.cells #[vs s] 9)) j u hj
             rw [World.size_alloc] at this; exact this
           rw [Addr.add_mid] at h0 ⊢
           rw [World.cell?_of_block (a := ⟨W0.heap.size + 1, 0 + j, none⟩) (g1.block (W0.heap.size + 1) (by simp) (fun e => by have := (HS0.out.lt _ e.symm).2; omega))]; exact h0
         have R1 := Lib.hid h1
         have hw1 : base ≤ w1.heap.size := Nat.le_trans hb0 HW1.out.size
         have k1 := HCELL.out _ HW1.out
         clear h1 g1 D0)
      | (refine step_strs (by rfl) (.tmp 125) (.tmp 127) (by rfl) base vn names (by rfl) C1.out ⟨W0.heap.size + 1, 0, none⟩ 1 1 [s] rfl (by rfl) C2.out (by omega) (by simp; omega) ?_
         intro v1 w1 h1 g1
         have HW1 : Hid (Below base W0 w1) := ((HB0.out.alloc hb0 (.cells #[vb y.kind, .slice y.na y.names.length y.nc, .slice y.ka ly.length y.kc, .slice y.da y.data.length y.dc, .bool y.run, .float .f64 y.stamp, vs y.target] 27)).alloc (by simp; omega) (.cells #[vs s] 9)).drew.grown g1 (by simp; omega) (fun c hc => (C1.out.lt c hc).1)
         have D0 : Nodes ((W0.alloc (.cells #[vb y.kind, .slice y.na y.names.length y.nc, .slice y.ka ly.length y.kc, .slice y.da y.data.length y.dc, .bool y.run, .float .f64 y.stamp, vs y.target] 27)).alloc (.cells #[vs s] 9)).drew base vk ts := (HN0.out.alloc (.cells #[vb y.kind, .slice y.na y.names.length y.nc, .slice y.ka ly.length y.kc, .slice y.da y.data.length y.dc, .bool y.run, .float .f64 y.stamp, vs y.target] 27)).alloc (.cells #[vs s] 9)
         have D1 : Hid (Nodes w1 base vk ts) := D0.kept C1.out g1
         have G1 := Lib.hid D1.out
         have G2 : Hid (∀ j u, ([T.mk y ly].flatMap cellsT)[j]? = some u → w1.cell? ((⟨W0.heap.size, 0, none⟩ : Addr).add j) = some u) := fun j u hj => by
           have h0 : ((W0.alloc (.cells #[vb y.kind, .slice y.na y.names.length y.nc, .slice y.ka ly.length y.kc, .slice y.da y.data.length y.dc, .bool y.run, .float .f64 y.stamp, vs y.target] 27)).alloc (.cells #[vs s] 9)).drew.cell? ((⟨W0.heap.size, 0, none⟩ : Addr).add j) = some u := by
             have := ((Blk.new W0 27 #[vb y.kind, .slice y.na y.names.length y.nc, .slice y.ka ly.length y.kc, .slice y.da y.data.length y.dc, .bool y.run, .float .f64 y.stamp, vs y.target]).alloc (.cells #[vs s] 9)).drew
             rw [Addr.add_mid, Nat.zero_add, this.cell]; exact hj
           rw [Addr.add_mid] at h0 ⊢
           rw [World.cell?_of_block (a := ⟨W0.heap.size, 0 + j, none⟩) (g1.block W0.heap.size (by simp; omega) (fun e => by have := (HS0.out.lt _ e.symm).2; omega))]; exact h0
         have R1 := Lib.hid h1
         have hw1 : base ≤ w1.heap.size := Nat.le_trans hb0 HW1.out.size
         have k1 := HCELL.out _ HW1.out
         clear h1 g1 D0)
      | (refine step_nodes (by rfl) (.tmp 129) (.tmp 131) (by rfl) base vk ts (by rfl) E1.out ⟨w1.heap.size, 0, none⟩ 1 1 [T.mk y ly] rfl (by rfl) E2.out (by omega) (by simp; omega) ?_
         intro v2 w2 h2 g2
         have TR : TwoRows Wb base v1 vk (names ++ [s]) ts w1 := ⟨R1.out, D1.out, HBB.out.trans HW1.out⟩
         have HF : Hid (TwoRows Wb base v1 v2 (names ++ [s]) (ts ++ [T.mk y ly]) w2) := TR.push (.cells #[vb y.kind, .slice y.na y.names.length y.nc, .slice y.ka ly.length y.kc, .slice y.da y.data.length y.dc, .bool y.run, .float .f64 y.stamp, vs y.target] 27) hw1 h2 g2
         have k2 := HCELL.out w2 (HW1.out.trans (TR.below_of (.cells #[vb y.kind, .slice y.na y.names.length y.nc, .slice y.ka ly.length y.kc, .slice y.da y.data.length y.dc, .bool y.run, .float .f64 y.stamp, vs y.target] 27) hw1 g2))
         clear h2 g2 TR)
      | (refine step_nodes (by rfl) (.tmp 129) (.tmp 131) (by rfl) base vk ts (by rfl) F1.out ⟨W0.heap.size + 1, 0, none⟩ 1 1 [T.mk y ly] rfl (by rfl) F2.out (by omega) hw1 ?_
         intro v2 w2 h2 g2
         have TR : TwoRows Wb base v1 vk (names ++ [s]) ts w1 := ⟨R1.out, D1.out, HBB.out.trans HW1.out⟩
         have HF : Hid (TwoRows Wb base v1 v2 (names ++ [s]) (ts ++ [T.mk y ly]) w2) := TR.push0 hw1 h2 g2
         have k2 := HCELL.out w2 (HW1.out.trans ((Below.refl base w1).grown g2 hw1 (fun c hc => (D1.out.lt c hc).1)))
         clear h2 g2 TR)
      | (refine step_nodes (by rfl) (.tmp 129) (.tmp 131) (by rfl) base vk ts (by rfl) G1.out ⟨W0.heap.size, 0, none⟩ 1 1 [T.mk y ly] rfl (by rfl) G2.out (by omega) hw1 ?_
         intro v2 w2 h2 g2
         have TR : TwoRows Wb base v1 vk (names ++ [s]) ts w1 := ⟨R1.out, D1.out, HBB.out.trans HW1.out⟩
         have HF : Hid (TwoRows Wb base v1 v2 (names ++ [s]) (ts ++ [T.mk y ly]) w2) := TR.push0 hw1 h2 g2
         have k2 := HCELL.out w2 (HW1.out.trans ((Below.refl base w1).grown g2 hw1 (fun c hc => (D1.out.lt c hc).1)))
         clear h2 g2 TR)
      | fail)
  all_goals (first | exact hQ _ _ _ HF.out | (go_wp2_with fail; first | exact hQ _ _ _ HF.out | exact HF.out))
end Go.Proofs.Ytlehgacbcacokaa
