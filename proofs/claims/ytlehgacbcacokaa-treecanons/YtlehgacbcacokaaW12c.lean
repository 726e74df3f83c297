/- The reference's form: the question of one name and one kid, way c. -/
import Derived.Test.YtlehgacbcacokaaW12a
namespace Go.Proofs.Ytlehgacbcacokaa
open Go.RowKit TreeMath RealMath
set_option maxHeartbeats 8000000 in
set_option maxRecDepth 100000 in
theorem reg11_first {x0 x2 x3 x4 x5 x7 x8 x9 x10 x11 x12 x13 x14 x15 x16 x17 x18 x19 x20 x21 x22 x23 x24 x25 x26 x27 x28 x29 x30 x31 x32 x33 x34 x35 x36 x37 x38 x39 x40 x41 x42 x43 x44 x45 x46 x47 x48 x49 x50 x51 x52 x53 x54 x55 x56 x57 x58 x59 x60 x61 x62 x63 x64 x65 x66 x67 x68 x69 x70 x71 x72 x73 x74 x75 x76 x77 x78 x79 x80 x81 x82 x83 x84 x85 x86 x87 x88 x89 x90 x91 x92 x93 x94 x95 x96 x97 x98 x99 x100 x101 x102 x103 x104 x105 x106 x107 x108 x109 x110 x111 x112 x113 x114 x115 x116 x117 x118 x119 x120 x121 : Value} (g i nb no cn ln : Nat) (s1 : List By) (y : Hd) (ly a oa kl kc : Nat) (fk : Bool) (W0 : World) (Q : Exit → Act → World → Prop) (hs : s1.length ≤ maxLen) (hnm : nameOk s1 = true) (hi : i < ln) (c1 : W0.cell? ⟨g, 1, none⟩ = some (.slice (some ⟨nb, no, none⟩) ln cn)) (n1 : W0.cell? ⟨nb, no + i, none⟩ = some (vs s1)) (hi0 : i = 0) (hkl : i < kl) (c2 : W0.cell? ⟨g, 2, none⟩ = some (.slice (some ⟨a, oa, none⟩) kl kc)) (k0 : W0.cell? ⟨a, oa + i * 7, none⟩ = some (vb y.kind)) (k1 : W0.cell? ⟨a, oa + i * 7 + 1, none⟩ = some (.slice y.na y.names.length y.nc)) (k2 : W0.cell? ⟨a, oa + i * 7 + 2, none⟩ = some (.slice y.ka ly y.kc)) (k3 : W0.cell? ⟨a, oa + i * 7 + 3, none⟩ = some (.slice y.da y.data.length y.dc)) (k4 : W0.cell? ⟨a, oa + i * 7 + 4, none⟩ = some (.bool y.run)) (k5 : W0.cell? ⟨a, oa + i * 7 + 5, none⟩ = some (.float .f64 y.stamp)) (k6 : W0.cell? ⟨a, oa + i * 7 + 6, none⟩ = some (vs y.target)) (HC : Calls Try.prog 50 #[nv y ly] W0.drew fun e w' => e = .returned (.bool fk) ∧ Below W0.heap.size W0.drew w')
    (hQ : ∀ {y57 y58 y59 y60 y61 y62 y63 y64 y65 y66 y67 y68 y69 y70 y71 y72 y73 y74 y75 y76 y77 y78 y79 y80 y81 y82 y83 y84 y85 y86 y87 y88 y89 : Value} (w' : World), Below W0.heap.size W0 w' → Q .normal { tmps := List.toArray (x0 :: (.pointer (some ⟨g, 0, none⟩)) :: x2 :: x3 :: x4 :: x5 :: (.int .i64 i) :: x7 :: x8 :: x9 :: x10 :: x11 :: x12 :: x13 :: x14 :: x15 :: x16 :: x17 :: x18 :: x19 :: x20 :: x21 :: x22 :: x23 :: x24 :: x25 :: x26 :: x27 :: x28 :: x29 :: x30 :: x31 :: x32 :: x33 :: x34 :: x35 :: x36 :: x37 :: x38 :: x39 :: x40 :: x41 :: x42 :: x43 :: x44 :: x45 :: x46 :: x47 :: x48 :: x49 :: x50 :: x51 :: x52 :: x53 :: x54 :: x55 :: x56 :: y57 :: y58 :: y59 :: y60 :: y61 :: y62 :: y63 :: y64 :: y65 :: y66 :: y67 :: y68 :: y69 :: y70 :: y71 :: y72 :: y73 :: y74 :: y75 :: y76 :: y77 :: y78 :: y79 :: y80 :: y81 :: y82 :: y83 :: y84 :: y85 :: y86 :: y87 :: y88 :: y89 :: (.bool (!fk)) :: x91 :: x92 :: x93 :: x94 :: x95 :: x96 :: x97 :: x98 :: x99 :: x100 :: x101 :: x102 :: x103 :: x104 :: x105 :: x106 :: x107 :: x108 :: x109 :: x110 :: x111 :: x112 :: x113 :: x114 :: x115 :: x116 :: x117 :: x118 :: x119 :: x120 :: x121 :: []), defers := [] } w') :
    Code.wp Try.prog (cLeft (cIn (cLeft (cRight (cIn (cIn (cRight (cLeft (cRight (cThen (cRight (cIn (cRight (cLeft (cRight (cRight (cRight (cRight (Try.f50.body.getD .skip))))))))))))))))))) Q { tmps := List.toArray (x0 :: (.pointer (some ⟨g, 0, none⟩)) :: x2 :: x3 :: x4 :: x5 :: (.int .i64 i) :: x7 :: x8 :: x9 :: x10 :: x11 :: x12 :: x13 :: x14 :: x15 :: x16 :: x17 :: x18 :: x19 :: x20 :: x21 :: x22 :: x23 :: x24 :: x25 :: x26 :: x27 :: x28 :: x29 :: x30 :: x31 :: x32 :: x33 :: x34 :: x35 :: x36 :: x37 :: x38 :: x39 :: x40 :: x41 :: x42 :: x43 :: x44 :: x45 :: x46 :: x47 :: x48 :: x49 :: x50 :: x51 :: x52 :: x53 :: x54 :: x55 :: x56 :: x57 :: x58 :: x59 :: x60 :: x61 :: x62 :: x63 :: x64 :: x65 :: x66 :: x67 :: x68 :: x69 :: x70 :: x71 :: x72 :: x73 :: x74 :: x75 :: x76 :: x77 :: x78 :: x79 :: x80 :: x81 :: x82 :: x83 :: x84 :: x85 :: x86 :: x87 :: x88 :: x89 :: x90 :: x91 :: x92 :: x93 :: x94 :: x95 :: x96 :: x97 :: x98 :: x99 :: x100 :: x101 :: x102 :: x103 :: x104 :: x105 :: x106 :: x107 :: x108 :: x109 :: x110 :: x111 :: x112 :: x113 :: x114 :: x115 :: x116 :: x117 :: x118 :: x119 :: x120 :: x121 :: []), defers := [] } W0 := by
  have HNM : Hid (∀ W : World, Calls Try.prog 82 #[vs s1] W fun e w' => e = .returned (.bool true) ∧ w' = W) := fun W => (refname_any s1 hs W).mono fun e w' h => ⟨by rw [h.1, hnm], h.2.symm⟩
  have HC' := Lib.hid HC
  have HSD : Hid (Below W0.heap.size W0 W0.drew) := (Below.refl _ _).drew
  clear hs hnm HC
  have h0' : decide ((0 : Int) < i) = false := decide_eq_false (by omega)
  have h0n : decide (0 < i) = false := decide_eq_false (by omega)
  clear hi0
  dsimp only [Try.f50, cRight, cLeft, cIn, cThen, Option.getD]
  refine wp_region_still_tail 31 (by kernel_rfl) (by kernel_rfl) ?_
  simp only [List.take_succ_cons, List.take_zero, List.drop_succ_cons, List.drop_zero]
  replace c1 : W0.drew.cell? _ = _ := c1
  replace c2 : W0.drew.cell? _ = _ := c2
  replace n1 : W0.drew.cell? _ = _ := n1
  replace k0 : W0.drew.cell? _ = _ := k0
  replace k1 : W0.drew.cell? _ = _ := k1
  replace k2 : W0.drew.cell? _ = _ := k2
  replace k3 : W0.drew.cell? _ = _ := k3
  replace k4 : W0.drew.cell? _ = _ := k4
  replace k5 : W0.drew.cell? _ = _ := k5
  replace k6 : W0.drew.cell? _ = _ := k6
  change wpStill _ _ W0.drew (fun a' => wpList _ _ _ _ a' W0.drew) _ _
  generalize W0.drew = W2 at c1 c2 n1 k0 k1 k2 k3 k4 k5 k6 HC' HSD ⊢
  refine wpStill_of_quiet ?_
  iterate 5 go_big_quiet_step (fail)
  refine wpQuiet_step (fun K hK => ?_)
  go_simp
  refine ⟨_, HNM.out _, hK _ ?_⟩
  clear hK K
  iterate 25 go_big_quiet_step (fail)
  refine wpQuiet_nil ?_
  go_wp2_with fail
  refine HC'.out.mono ?_
  rintro e w2 ⟨rfl, hfb⟩
  have HFB : Hid (Below W0.heap.size W0 w2) := HSD.out.trans hfb
  clear hfb
  go_wp2_with fail
  exact HFB.out
end Go.Proofs.Ytlehgacbcacokaa
