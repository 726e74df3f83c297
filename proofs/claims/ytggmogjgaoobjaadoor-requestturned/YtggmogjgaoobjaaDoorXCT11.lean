/- The reference's form: the question of one name and one kid, way c. -/
import Derived.Test.YtggmogjgaoobjaaDoorXCT10
import Derived.Deep.CutBlock
import Derived.Test.YtggmogjgaoobjaaDoorXCT9
namespace Go.Proofs.YtggmogjgaoobjaaDoor
open Go.RowKit TreeMath RealMath
set_option maxHeartbeats 8000000 in
set_option maxRecDepth 100000 in
theorem reg11_first {x0 x2 x3 x4 x5 x7 x8 x9 x10 x11 x12 x13 x14 x15 x16 x17 x18 x19 x20 x21 x22 x23 x24 x25 x26 x27 x28 x29 x30 x31 x32 x33 x34 x35 x36 x37 x38 x39 x40 x41 x42 x43 x44 x45 x46 x47 x48 x49 x50 x51 x52 x53 x54 x55 x56 x57 x58 x59 x60 x61 x62 x63 x64 x65 x66 x67 x68 x69 x70 x71 x72 x73 x74 x75 x76 x77 x78 x79 x80 x81 x82 x83 x84 x85 x86 x87 x88 x89 x90 x91 x92 x93 x94 x95 x96 x97 x98 x99 x100 x101 x102 x103 x104 x105 x106 x107 x108 x109 x110 x111 x112 x113 x114 x115 x116 x117 x118 x119 x120 x121 : Value} (g i nb no cn ln : Nat) (s1 : List By) (y : Hd) (ly a oa kl kc : Nat) (fk : Bool) (W0 : World) (Q : Exit → Act → World → Prop) (hs : s1.length ≤ maxLen) (hnm : nameOk s1 = true) (hi : i < ln) (c1 : W0.cell? ⟨g, 1, none⟩ = some (.slice (some ⟨nb, no, none⟩) ln cn)) (n1 : W0.cell? ⟨nb, no + i, none⟩ = some (vs s1)) (hi0 : i = 0) (hkl : i < kl) (c2 : W0.cell? ⟨g, 2, none⟩ = some (.slice (some ⟨a, oa, none⟩) kl kc)) (k0 : W0.cell? ⟨a, oa + i * 7, none⟩ = some (vb y.kind)) (k1 : W0.cell? ⟨a, oa + i * 7 + 1, none⟩ = some (.slice y.na y.names.length y.nc)) (k2 : W0.cell? ⟨a, oa + i * 7 + 2, none⟩ = some (.slice y.ka ly y.kc)) (k3 : W0.cell? ⟨a, oa + i * 7 + 3, none⟩ = some (.slice y.da y.data.length y.dc)) (k4 : W0.cell? ⟨a, oa + i * 7 + 4, none⟩ = some (.bool y.run)) (k5 : W0.cell? ⟨a, oa + i * 7 + 5, none⟩ = some (.float .f64 y.stamp)) (k6 : W0.cell? ⟨a, oa + i * 7 + 6, none⟩ = some (vs y.target)) (HC : Calls Tryd.prog 99 #[nv y ly] W0.drew fun e w' => e = .returned (.bool fk) ∧ Below W0.heap.size W0.drew w')
    (hQ : ∀ {y57 y58 y59 y60 y61 y62 y63 y64 y65 y66 y67 y68 y69 y70 y71 y72 y73 y74 y75 y76 y77 y78 y79 y80 y81 y82 y83 y84 y85 y86 y87 y88 y89 : Value} (w' : World), Below W0.heap.size W0 w' → Q .normal { tmps := List.toArray (x0 :: (.pointer (some ⟨g, 0, none⟩)) :: x2 :: x3 :: x4 :: x5 :: (.int .i64 i) :: x7 :: x8 :: x9 :: x10 :: x11 :: x12 :: x13 :: x14 :: x15 :: x16 :: x17 :: x18 :: x19 :: x20 :: x21 :: x22 :: x23 :: x24 :: x25 :: x26 :: x27 :: x28 :: x29 :: x30 :: x31 :: x32 :: x33 :: x34 :: x35 :: x36 :: x37 :: x38 :: x39 :: x40 :: x41 :: x42 :: x43 :: x44 :: x45 :: x46 :: x47 :: x48 :: x49 :: x50 :: x51 :: x52 :: x53 :: x54 :: x55 :: x56 :: y57 :: y58 :: y59 :: y60 :: y61 :: y62 :: y63 :: y64 :: y65 :: y66 :: y67 :: y68 :: y69 :: y70 :: y71 :: y72 :: y73 :: y74 :: y75 :: y76 :: y77 :: y78 :: y79 :: y80 :: y81 :: y82 :: y83 :: y84 :: y85 :: y86 :: y87 :: y88 :: y89 :: (.bool (!fk)) :: x91 :: x92 :: x93 :: x94 :: x95 :: x96 :: x97 :: x98 :: x99 :: x100 :: x101 :: x102 :: x103 :: x104 :: x105 :: x106 :: x107 :: x108 :: x109 :: x110 :: x111 :: x112 :: x113 :: x114 :: x115 :: x116 :: x117 :: x118 :: x119 :: x120 :: x121 :: []), defers := [] } w') :
    Code.wp Tryd.prog (cLeft (cIn (cLeft (cRight (cIn (cIn (cRight (cLeft (cRight (cThen (cRight (cIn (cRight (cLeft (cRight (cRight (cRight (cRight (Tryd.f99.body.getD .skip))))))))))))))))))) Q { tmps := List.toArray (x0 :: (.pointer (some ⟨g, 0, none⟩)) :: x2 :: x3 :: x4 :: x5 :: (.int .i64 i) :: x7 :: x8 :: x9 :: x10 :: x11 :: x12 :: x13 :: x14 :: x15 :: x16 :: x17 :: x18 :: x19 :: x20 :: x21 :: x22 :: x23 :: x24 :: x25 :: x26 :: x27 :: x28 :: x29 :: x30 :: x31 :: x32 :: x33 :: x34 :: x35 :: x36 :: x37 :: x38 :: x39 :: x40 :: x41 :: x42 :: x43 :: x44 :: x45 :: x46 :: x47 :: x48 :: x49 :: x50 :: x51 :: x52 :: x53 :: x54 :: x55 :: x56 :: x57 :: x58 :: x59 :: x60 :: x61 :: x62 :: x63 :: x64 :: x65 :: x66 :: x67 :: x68 :: x69 :: x70 :: x71 :: x72 :: x73 :: x74 :: x75 :: x76 :: x77 :: x78 :: x79 :: x80 :: x81 :: x82 :: x83 :: x84 :: x85 :: x86 :: x87 :: x88 :: x89 :: x90 :: x91 :: x92 :: x93 :: x94 :: x95 :: x96 :: x97 :: x98 :: x99 :: x100 :: x101 :: x102 :: x103 :: x104 :: x105 :: x106 :: x107 :: x108 :: x109 :: x110 :: x111 :: x112 :: x113 :: x114 :: x115 :: x116 :: x117 :: x118 :: x119 :: x120 :: x121 :: []), defers := [] } W0 := by
  have HNM : Hid (∀ W : World, Calls Tryd.prog 109 #[vs s1] W fun e w' => e = .returned (.bool true) ∧ w' = W) := fun W => (refname_any s1 hs W).mono fun e w' h => ⟨by rw [h.1, hnm], h.2.symm⟩
  have HC' := Lib.hid HC
  have HSD : Hid (Below W0.heap.size W0 W0.drew) := (Below.refl _ _).drew
  clear hs hnm HC
  have h0' : decide ((0 : Int) < i) = false := decide_eq_false (by omega)
  have h0n : decide (0 < i) = false := decide_eq_false (by omega)
  clear hi0
  dsimp only [Tryd.f99, cRight, cLeft, cIn, cThen, Option.getD]
  refine wp_region_still_tail 31 (by kernel_rfl) (by kernel_rfl) ?_
  simp only [List.take_succ_cons, List.take_zero, List.drop_succ_cons, List.drop_zero]
  replace c1 : W0.drew.cell? _ = _ := c1
  replace c2 : W0.drew.cell? _ = _ := c2
  replace n1 : W0.drew.cell? _ = _ := n1
  replace k0 : W0.drew.cell? _ = _ := k0
  replace k1 : W0.drew.cell? _ = _ := k1
  replace k2 : W0.drew.cell? _ = _ := k2
  replace k3 : W0.drew.cell? _ = _ := k3
  replace k4 : W0.drew.cell? _ = _ := k4
  replace k5 : W0.drew.cell? _ = _ := k5
  replace k6 : W0.drew.cell? _ = _ := k6
  change wpStill _ _ W0.drew (fun a' => wpList _ _ _ _ a' W0.drew) _ _
  generalize W0.drew = W2 at c1 c2 n1 k0 k1 k2 k3 k4 k5 k6 HC' HSD ⊢
  refine wpStill_of_quiet ?_
  iterate 5 go_big_quiet_step (fail)
  refine wpQuiet_step (fun K hK => ?_)
  go_simp
  refine ⟨_, HNM.out _, hK _ ?_⟩
  clear hK K
  iterate 25 go_big_quiet_step (fail)
  refine wpQuiet_nil ?_
  go_wp2_with fail
  refine HC'.out.mono ?_
  rintro e w2 ⟨rfl, hfb⟩
  have HFB : Hid (Below W0.heap.size W0 w2) := HSD.out.trans hfb
  clear hfb
  go_wp2_with fail
  exact HFB.out
end Go.Proofs.YtggmogjgaoobjaaDoor

/- The reference's form: the question of one name and one kid, way d. -/
namespace Go.Proofs.YtggmogjgaoobjaaDoor
open Go.RowKit TreeMath RealMath
set_option maxHeartbeats 8000000 in
set_option maxRecDepth 100000 in
theorem reg11_later {x0 x2 x3 x4 x5 x7 x8 x9 x10 x11 x12 x13 x14 x15 x16 x17 x18 x19 x20 x21 x22 x23 x24 x25 x26 x27 x28 x29 x30 x31 x32 x33 x34 x35 x36 x37 x38 x39 x40 x41 x42 x43 x44 x45 x46 x47 x48 x49 x50 x51 x52 x53 x54 x55 x56 x57 x58 x59 x60 x61 x62 x63 x64 x65 x66 x67 x68 x69 x70 x71 x72 x73 x74 x75 x76 x77 x78 x79 x80 x81 x82 x83 x84 x85 x86 x87 x88 x89 x90 x91 x92 x93 x94 x95 x96 x97 x98 x99 x100 x101 x102 x103 x104 x105 x106 x107 x108 x109 x110 x111 x112 x113 x114 x115 x116 x117 x118 x119 x120 x121 : Value} (g i j nb no cn ln : Nat) (s1 s0 : List By) (y : Hd) (ly a oa kl kc : Nat) (fk : Bool) (W0 : World) (Q : Exit → Act → World → Prop) (hs : s1.length ≤ maxLen) (hnm : nameOk s1 = true) (hi : i < ln) (hln : ln ≤ 100000) (c1 : W0.cell? ⟨g, 1, none⟩ = some (.slice (some ⟨nb, no, none⟩) ln cn)) (n1 : W0.cell? ⟨nb, no + i, none⟩ = some (vs s1)) (hj : i = j + 1) (n0 : W0.cell? ⟨nb, no + j, none⟩ = some (vs s0)) (hlt : Op.bytesLess s1 s0 = false) (heq : (s1 == s0) = false) (hkl : i < kl) (c2 : W0.cell? ⟨g, 2, none⟩ = some (.slice (some ⟨a, oa, none⟩) kl kc)) (k0 : W0.cell? ⟨a, oa + i * 7, none⟩ = some (vb y.kind)) (k1 : W0.cell? ⟨a, oa + i * 7 + 1, none⟩ = some (.slice y.na y.names.length y.nc)) (k2 : W0.cell? ⟨a, oa + i * 7 + 2, none⟩ = some (.slice y.ka ly y.kc)) (k3 : W0.cell? ⟨a, oa + i * 7 + 3, none⟩ = some (.slice y.da y.data.length y.dc)) (k4 : W0.cell? ⟨a, oa + i * 7 + 4, none⟩ = some (.bool y.run)) (k5 : W0.cell? ⟨a, oa + i * 7 + 5, none⟩ = some (.float .f64 y.stamp)) (k6 : W0.cell? ⟨a, oa + i * 7 + 6, none⟩ = some (vs y.target)) (HC : Calls Tryd.prog 99 #[nv y ly] W0.drew fun e w' => e = .returned (.bool fk) ∧ Below W0.heap.size W0.drew w')
    (hQ : ∀ {y57 y58 y59 y60 y61 y62 y63 y64 y65 y66 y67 y68 y69 y70 y71 y72 y73 y74 y75 y76 y77 y78 y79 y80 y81 y82 y83 y84 y85 y86 y87 y88 y89 : Value} (w' : World), Below W0.heap.size W0 w' → Q .normal { tmps := List.toArray (x0 :: (.pointer (some ⟨g, 0, none⟩)) :: x2 :: x3 :: x4 :: x5 :: (.int .i64 i) :: x7 :: x8 :: x9 :: x10 :: x11 :: x12 :: x13 :: x14 :: x15 :: x16 :: x17 :: x18 :: x19 :: x20 :: x21 :: x22 :: x23 :: x24 :: x25 :: x26 :: x27 :: x28 :: x29 :: x30 :: x31 :: x32 :: x33 :: x34 :: x35 :: x36 :: x37 :: x38 :: x39 :: x40 :: x41 :: x42 :: x43 :: x44 :: x45 :: x46 :: x47 :: x48 :: x49 :: x50 :: x51 :: x52 :: x53 :: x54 :: x55 :: x56 :: y57 :: y58 :: y59 :: y60 :: y61 :: y62 :: y63 :: y64 :: y65 :: y66 :: y67 :: y68 :: y69 :: y70 :: y71 :: y72 :: y73 :: y74 :: y75 :: y76 :: y77 :: y78 :: y79 :: y80 :: y81 :: y82 :: y83 :: y84 :: y85 :: y86 :: y87 :: y88 :: y89 :: (.bool (!fk)) :: x91 :: x92 :: x93 :: x94 :: x95 :: x96 :: x97 :: x98 :: x99 :: x100 :: x101 :: x102 :: x103 :: x104 :: x105 :: x106 :: x107 :: x108 :: x109 :: x110 :: x111 :: x112 :: x113 :: x114 :: x115 :: x116 :: x117 :: x118 :: x119 :: x120 :: x121 :: []), defers := [] } w') :
    Code.wp Tryd.prog (cLeft (cIn (cLeft (cRight (cIn (cIn (cRight (cLeft (cRight (cThen (cRight (cIn (cRight (cLeft (cRight (cRight (cRight (cRight (Tryd.f99.body.getD .skip))))))))))))))))))) Q { tmps := List.toArray (x0 :: (.pointer (some ⟨g, 0, none⟩)) :: x2 :: x3 :: x4 :: x5 :: (.int .i64 i) :: x7 :: x8 :: x9 :: x10 :: x11 :: x12 :: x13 :: x14 :: x15 :: x16 :: x17 :: x18 :: x19 :: x20 :: x21 :: x22 :: x23 :: x24 :: x25 :: x26 :: x27 :: x28 :: x29 :: x30 :: x31 :: x32 :: x33 :: x34 :: x35 :: x36 :: x37 :: x38 :: x39 :: x40 :: x41 :: x42 :: x43 :: x44 :: x45 :: x46 :: x47 :: x48 :: x49 :: x50 :: x51 :: x52 :: x53 :: x54 :: x55 :: x56 :: x57 :: x58 :: x59 :: x60 :: x61 :: x62 :: x63 :: x64 :: x65 :: x66 :: x67 :: x68 :: x69 :: x70 :: x71 :: x72 :: x73 :: x74 :: x75 :: x76 :: x77 :: x78 :: x79 :: x80 :: x81 :: x82 :: x83 :: x84 :: x85 :: x86 :: x87 :: x88 :: x89 :: x90 :: x91 :: x92 :: x93 :: x94 :: x95 :: x96 :: x97 :: x98 :: x99 :: x100 :: x101 :: x102 :: x103 :: x104 :: x105 :: x106 :: x107 :: x108 :: x109 :: x110 :: x111 :: x112 :: x113 :: x114 :: x115 :: x116 :: x117 :: x118 :: x119 :: x120 :: x121 :: []), defers := [] } W0 := by
  have HNM : Hid (∀ W : World, Calls Tryd.prog 109 #[vs s1] W fun e w' => e = .returned (.bool true) ∧ w' = W) := fun W => (refname_any s1 hs W).mono fun e w' h => ⟨by rw [h.1, hnm], h.2.symm⟩
  have HC' := Lib.hid HC
  have HSD : Hid (Below W0.heap.size W0 W0.drew) := (Below.refl _ _).drew
  clear hs hnm HC
  have h0' : decide ((0 : Int) < i) = true := decide_eq_true (by omega)
  have h0n : decide (0 < i) = true := decide_eq_true (by omega)
  have e3 : (0 : Int) ≤ (j : Int) := by omega
  have e4 : (j : Int) < ln := by omega
  have e1 : IntKind.i64.wrap ((i : Int) - 1) = (j : Int) := by rw [IntWalk.i64_in _ (by omega)]; omega
  clear hj
  dsimp only [Tryd.f99, cRight, cLeft, cIn, cThen, Option.getD]
  refine wp_region_still_tail 31 (by kernel_rfl) (by kernel_rfl) ?_
  simp only [List.take_succ_cons, List.take_zero, List.drop_succ_cons, List.drop_zero]
  replace c1 : W0.drew.cell? _ = _ := c1
  replace c2 : W0.drew.cell? _ = _ := c2
  replace n1 : W0.drew.cell? _ = _ := n1
  replace k0 : W0.drew.cell? _ = _ := k0
  replace k1 : W0.drew.cell? _ = _ := k1
  replace k2 : W0.drew.cell? _ = _ := k2
  replace k3 : W0.drew.cell? _ = _ := k3
  replace k4 : W0.drew.cell? _ = _ := k4
  replace k5 : W0.drew.cell? _ = _ := k5
  replace k6 : W0.drew.cell? _ = _ := k6
  replace n0 : W0.drew.cell? _ = _ := n0
  change wpStill _ _ W0.drew (fun a' => wpList _ _ _ _ a' W0.drew) _ _
  generalize W0.drew = W2 at c1 c2 n1 n0 k0 k1 k2 k3 k4 k5 k6 HC' HSD ⊢
  refine wpStill_of_quiet ?_
  iterate 5 go_big_quiet_step (fail)
  refine wpQuiet_step (fun K hK => ?_)
  go_simp
  refine ⟨_, HNM.out _, hK _ ?_⟩
  clear hK K
  iterate 25 go_big_quiet_step (fail)
  refine wpQuiet_nil ?_
  go_wp2_with fail
  refine HC'.out.mono ?_
  rintro e w2 ⟨rfl, hfb⟩
  have HFB : Hid (Below W0.heap.size W0 w2) := HSD.out.trans hfb
  clear hfb
  go_wp2_with fail
  exact HFB.out
end Go.Proofs.YtggmogjgaoobjaaDoor

/- The contract of the reference's form. -/
namespace Go.Proofs.YtggmogjgaoobjaaDoor
open Go.RowKit TreeMath RealMath

theorem less_total : ∀ a b : List By, Op.bytesLess a b = false → (Op.bytesLess b a || b == a) = true
  | [], [], _ => by decide
  | [], _ :: _, h => by simp [Op.bytesLess] at h
  | _ :: _, [], _ => by simp [Op.bytesLess]
  | x :: a, y :: b, h => by
    have ih := less_total a b
    simp only [Op.bytesLess, Bool.or_eq_false_iff, Bool.and_eq_false_iff, decide_eq_false_iff_not] at h
    obtain ⟨h1, h2⟩ := h
    by_cases e : x = y
    · subst e
      have h3 : Op.bytesLess a b = false := by rcases h2 with h2 | h2; (simp at h2); exact h2
      have h4 := ih h3
      simp only [Bool.or_eq_true, beq_iff_eq] at h4
      rcases h4 with h4 | h4
      · simp [Op.bytesLess, h4]
      · simp [h4]
    · have h5 : y < x := by
        rw [UInt8.lt_iff_toNat_lt] at h1 ⊢
        have : x.toNat ≠ y.toNat := fun h => e (UInt8.toNat_inj.1 h)
        omega
      simp [Op.bytesLess, h5]
theorem less_not {a b : List By} (h : Op.bytesLess a b = false) : (Op.bytesLess b a || b == a) = true := less_total a b h
theorem less_asymm : ∀ a b : List By, Op.bytesLess a b = true → Op.bytesLess b a = false ∧ (b == a) = false
  | [], [], h => by simp [Op.bytesLess] at h
  | [], _ :: _, _ => by simp [Op.bytesLess]
  | _ :: _, [], h => by simp [Op.bytesLess] at h
  | x :: a, y :: b, h => by
    have ih := less_asymm a b
    simp only [Op.bytesLess, Bool.or_eq_true, Bool.and_eq_true, decide_eq_true_eq, beq_iff_eq] at h
    rcases h with h1 | ⟨rfl, h2⟩
    · have h3 : ¬ y < x := by rw [UInt8.lt_iff_toNat_lt] at h1 ⊢; omega
      have h4 : ¬ y = x := fun e => by subst e; rw [UInt8.lt_iff_toNat_lt] at h1; omega
      simp [Op.bytesLess, h3, h4]
    · have h5 := ih h2
      have h6 : ¬ b = a := by simpa using h5.2
      simp [Op.bytesLess, h5.1, h6]
theorem less_yes {a b : List By} (h : Op.bytesLess a b = true) : Op.bytesLess b a = false ∧ (b == a) = false := less_asymm a b h
mutual
def formB : T → Bool
  | .mk x ks => fitsB (.mk x ks) && formL ks
def formL : List T → Bool
  | [] => true
  | k :: l => formB k && formL l
end
mutual
theorem formB_all : ∀ t, formB t = (all t).all fitsB
  | .mk x ks => by rw [formB, all, List.all_cons, formL_all ks]
theorem formL_all : ∀ ks, formL ks = (allL ks).all fitsB
  | [] => by rw [formL, allL]; rfl
  | k :: l => by rw [formL, allL, List.all_append, formB_all k, formL_all l]
end
theorem formL_false {ks : List T} (i : Nat) (h : i < ks.length) (hk : formB ks[i] = false) : formL ks = false := by
  induction ks generalizing i with
  | nil => simp at h
  | cons k l ih =>
    rw [formL]
    cases i with
    | zero => rw [show formB k = false from hk]; rfl
    | succ i => rw [ih i (by simpa using h) hk, Bool.and_false]
theorem formL_true {ks : List T} (h : ∀ i (hi : i < ks.length), formB ks[i] = true) : formL ks = true := by
  induction ks with
  | nil => rw [formL]
  | cons k l ih => rw [formL, show formB k = true from h 0 (by simp), ih (fun i hi => h (i + 1) (by simpa using hi))]; rfl
/-- no node has too many names -/
def Few (t : T) : Prop := ∀ k ∈ all t, k.hd.names.length ≤ 100000
theorem Few.kid {x : Hd} {ks : List T} (h : Few (.mk x ks)) {k : T} (hk : k ∈ ks) : Few k := fun j hj => h j (by
  rw [all]; refine List.mem_cons_of_mem _ ?_
  clear h
  induction ks with
  | nil => cases hk
  | cons a l ih =>
    rw [allL]
    rcases List.mem_cons.1 hk with e | e
    · subst e; exact List.mem_append_left _ hj
    · exact List.mem_append_right _ (ih e))
theorem Few.top {x : Hd} {ks : List T} (h : Few (.mk x ks)) : x.names.length ≤ 100000 := h (.mk x ks) (by rw [all]; simp)
theorem len_le_count (ks : List T) : ks.length ≤ (allL ks).length := by
  induction ks with
  | nil => simp
  | cons k l ih => rw [allL, List.length_append]; have : 0 < (all k).length := count_pos k; simp; omega
theorem cell_keep {B : Nat} {w w' : World} {p : Addr} {v : Value} (h : Below B w w') (hp : p.block < B) (hc : w.cell? p = some v) : w'.cell? p = some v := by rw [h.cell hp]; exact hc
def FormOf (top : Nat) (t : T) : Prop := ∀ (w : World), top ≤ w.heap.size → Ok w top t → count t ≤ 90000 → Few t → Calls Tryd.prog 99 #[val t] w fun e w' => e = .returned (.bool (formB t)) ∧ Below w.heap.size w w'
set_option maxHeartbeats 4000000 in
theorem form_of (top : Nat) : ∀ t, FormOf top t := by
  refine T.ind fun x ks IH => ?_
  intro w htop hok hn hfew
  show Calls Tryd.prog 99 #[nv x ks.length] w _
  have hlen : ks.length ≤ 90000 := by have := len_le_count ks; rw [count_mk] at hn; omega
  have hnam := hfew.top
  have hst := hok.hd.stamp
  have HIH := Lib.hid IH; have HOK := Lib.hid hok; have HN := Lib.hid hn; have HFEW := Lib.hid hfew
  clear IH hok hn hfew
  go_enter Tryd.func99, Tryd.ntmps99
  go_upto_region 2 with fail
  have hbox := Blk.new w 80 #[vb x.kind, .slice x.na x.names.length x.nc, .slice x.ka ks.length x.kc, .slice x.da x.data.length x.dc, .bool x.run, .float .f64 x.stamp, vs x.target]
  have hB1 : Below w.heap.size w (w.alloc (.cells #[vb x.kind, .slice x.na x.names.length x.nc, .slice x.ka ks.length x.kc, .slice x.da x.data.length x.dc, .bool x.run, .float .f64 x.stamp, vs x.target] 80)) := (Below.refl _ _).alloc (Nat.le_refl _) _
  have hs1 : (w.alloc (.cells #[vb x.kind, .slice x.na x.names.length x.nc, .slice x.ka ks.length x.kc, .slice x.da x.data.length x.dc, .bool x.run, .float .f64 x.stamp, vs x.target] 80)).heap.size = w.heap.size + 1 := by simp
  generalize w.alloc (.cells #[vb x.kind, .slice x.na x.names.length x.nc, .slice x.ka ks.length x.kc, .slice x.da x.data.length x.dc, .bool x.run, .float .f64 x.stamp, vs x.target] 80) = W1 at *
  have c0 := hbox.cell 0; have c1 := hbox.cell 1; have c2 := hbox.cell 2; have c3 := hbox.cell 3; have c4 := hbox.cell 4; have c5 := hbox.cell 5; have c6 := hbox.cell 6
  simp only [List.getElem?_cons_zero, List.getElem?_cons_succ] at c0 c1 c2 c3 c4 c5 c6
  have HBOX := Lib.hid hbox; have HB1 := Lib.hid hB1; have HS1 := Lib.hid hs1
  clear hbox hB1 hs1
  have HZ : Hid (noFile x = (decide (x.data = []) && decide (x.run = false) && decide (canonB x.stamp = 0))) := Lib.hid rfl
  go_cut [4] from 15 to 28 (fun s4 wx => s4 = .bool (!noFile x) ∧ W1 = wx)
  case first =>
    by_cases hd : x.data = []
    · have hd' : decide (0 < x.data.length) = false := by rw [hd]; rfl
      rw [decide_eq_true hd] at HZ
      clear hd
      cases hr : x.run with
      | true =>
        rw [hr] at HZ c4
        have HZ' : Hid (noFile x = false) := by show _ = _; rw [HZ.out]; simp
        clear HZ hr
        go_wp2_with fail
        go_meet
        exact ⟨by rw [HZ'.out]; rfl, rfl⟩
      | false =>
        rw [hr] at HZ c4
        clear hr
        go_wp2_with fail
        refine (refbits_any x.stamp W1).mono ?_
        rintro e w1 ⟨rfl, rfl⟩
        by_cases hz : canonB x.stamp = 0
        · have hz' : ((canonB x.stamp : Int) == 0) = true := by rw [hz]; rfl
          have HZ' : Hid (noFile x = true) := by show _ = _; rw [HZ.out, decide_eq_true hz]; simp
          have HQ : Hid (((canonB x.stamp : Int) != 0) = false) := by show _ = _; rw [hz]; rfl
          clear HZ hz
          go_wp2_with fail
          go_meet
          exact ⟨by rw [HZ'.out]; first | rfl | (rw [HQ.out]; rfl), rfl⟩
        · have hz' : ((canonB x.stamp : Int) == 0) = false := by rw [beq_eq_false_iff_ne]; omega
          have hz'' : (canonB x.stamp == 0) = false := by rw [beq_eq_false_iff_ne]; exact hz
          have HZ' : Hid (noFile x = false) := by show _ = _; rw [HZ.out, decide_eq_false hz]; simp
          have HQ : Hid (((canonB x.stamp : Int) != 0) = true) := by show _ = _; rw [bne, hz']; rfl
          clear HZ hz
          go_wp2_with fail
          go_meet
          exact ⟨by rw [HZ'.out]; first | rfl | (rw [HQ.out]; rfl), rfl⟩
    · have hd' : decide (0 < x.data.length) = true := decide_eq_true (List.length_pos_iff.2 hd)
      rw [decide_eq_false hd] at HZ
      have HZ' : Hid (noFile x = false) := by show _ = _; rw [HZ.out]; simp
      clear HZ hd
      go_wp2_with fail
      go_meet
      exact ⟨by rw [HZ'.out]; rfl, rfl⟩
  case rest =>
    obtain ⟨rfl, rfl⟩ := hcut
    clear HZ
    have HF0 : Hid (formB (.mk x ks) = (fitsB (.mk x ks) && formL ks)) := by show _ = _; rw [formB]
    have HF1 : Hid (fitsB (.mk x ks) = _) := Lib.hid (by rw [fitsB])
    by_cases k1 : x.kind = 1
    · have e1 : ((x.kind.toNat : Int) == 1) = true := by rw [k1]; rfl
      rw [if_pos k1] at HF1
      clear k1
      cases hnf : noFile x with
      | false =>
        have HF : Hid (formB (.mk x ks) = false) := by show _ = _; rw [HF0.out, HF1.out, hnf]; simp
        clear HF0 HF1 hnf
        go_wp2_with fail
        go_ret
        exact ⟨by rw [HF.out]; rfl, HB1.out⟩
      | true =>
        rw [hnf] at HF1
        clear hnf
        by_cases hl : x.target = []
        · have hl' : decide (0 < x.target.length) = false := by rw [hl]; rfl
          rw [decide_eq_true hl] at HF1
          clear hl
          by_cases hln : x.names.length = ks.length
          · have el : ((x.names.length : Int) == (ks.length : Int)) = true := by rw [hln]; simp
            have HLN := Lib.hid hln
            have HF : Hid (formB (.mk x ks) = (namesOk x.names && formL ks)) := by show _ = _; rw [HF0.out, HF1.out, decide_eq_true hln]; simp
            clear HF0 HF1 hln
            go_wp2_with fail
            go_loopw [6] (fun vi wr => ∃ i : Nat, i ≤ x.names.length ∧ vi = .int .i64 i ∧ Hid (∀ j, j < i → goodAt x.names j = true ∧ ∀ h : j < ks.length, formB ks[j] = true) ∧ Hid (Below (w.heap.size + 1) W1 wr)) (fun vi _ => x.names.length - (intOf vi).toNat)
            case atStart => exact ⟨0, Nat.zero_le _, rfl, fun j h => by omega, Below.refl _ _⟩
            case round =>
              obtain ⟨i, hi, rfl, HP, HBE⟩ := hrel
              rename World => W0
              have hblk := HBOX.out.below HBE.out (by omega)
              have c1 := hblk.cell 1; have c2 := hblk.cell 2
              simp only [List.getElem?_cons_zero, List.getElem?_cons_succ] at c1 c2
              clear hblk
              by_cases hlt : i < x.names.length
              · have hltk : i < ks.length := by rw [← HLN.out]; exact hlt
                have hbt : Below top w W0 := (HB1.out.mono htop).trans (HBE.out.mono (by omega))
                obtain ⟨a, oa, y, ly, hAe, hat, hy, hca⟩ := HOK.out.at.cells i hltk
                obtain ⟨k0, k1, k2, k3, k4, k5, k6⟩ := (hca.same (hbt.block a hat)).seven
                obtain ⟨nb, no, hNe, hnc⟩ := HOK.out.hd.nsrc (by omega)
                have hnb : nb < top := HOK.out.hd.nlt (by omega) _ hNe
                have n1 : W0.cell? ⟨nb, no + i, none⟩ = some (vs (x.names[i]'hlt)) := by rw [hbt.cell (p := ⟨nb, no + i, none⟩) hnb]; exact hnc i hlt
                have hsz : w.heap.size + 1 ≤ W0.heap.size := by have := HBE.out.size; have := HS1.out; omega
                have HC : Hid (Calls Tryd.prog 99 #[nv y ly.length] W0.drew fun e w' => e = .returned (.bool (formB ks[i])) ∧ Below W0.heap.size W0.drew w') := by
                  have hle := all_count_le (x := x) i hltk
                  have := HIH.out ks[i] (List.getElem_mem _) W0.drew (by show top ≤ W0.heap.size; omega) ((HOK.out.kid (List.getElem_mem hltk)).keep hbt.drew) (by have := HN.out; omega) (HFEW.out.kid (List.getElem_mem hltk))
                  rw [hy] at this ⊢; exact this
                have HGN : Hid (goodAt x.names i = false → formB (.mk x ks) = false) := fun h => by rw [HF.out, namesOk_false i hlt h]; rfl
                have HGK : Hid (formB ks[i] = false → formB (.mk x ks) = false) := fun h => by rw [HF.out, formL_false i hltk h, Bool.and_false]
                have HGT : Hid (goodAt x.names i = true → formB ks[i] = true → ∀ j, j < i + 1 → goodAt x.names j = true ∧ ∀ h : j < ks.length, formB ks[j] = true) := fun h1 h2 j hj => by
                  by_cases e : j = i
                  · subst e; exact ⟨h1, fun _ => h2⟩
                  · exact HP.out j (by omega)
                have HBE0 := Lib.hid HBE.out
                have HB0 : Hid (Below w.heap.size w W0) := HB1.out.trans (HBE.out.mono (by omega))
                have HNC : Hid (∀ j (h : j < x.names.length), W0.cell? ⟨nb, no + j, none⟩ = some (vs x.names[j])) := fun j h => by rw [hbt.cell (p := ⟨nb, no + j, none⟩) hnb]; exact hnc j h
                rw [hNe] at c1
                rw [hAe] at c2
                clear hbt hca hnc hAe hNe HP HBE HF hat hnb
                have hnl := HOK.out.hd.neach _ (List.getElem_mem hlt)
                have HQ1 : Hid (∀ w', Below W0.heap.size W0 w' → Below w.heap.size w w') := fun w' h => HB0.out.trans (h.mono (by omega))
                have HQ2 : Hid (∀ w', Below W0.heap.size W0 w' → Below (w.heap.size + 1) W1 w') := fun w' h => HBE0.out.trans (h.mono hsz)
                have hltk' : i < ks.length := hltk
                go_upto_region 11 with fail
                by_cases h0 : i = 0
                · have hgz : goodAt x.names i = nameOk (x.names[i]'hlt) := by subst h0; exact goodAt_zero x.names hlt
                  rw [hgz] at HGN HGT
                  clear hgz HNC
                  generalize hfk : formB ks[i] = fk at *
                  generalize x.names[i]'hlt = s1 at *
                  clear hfk hy
                  cases hnm : nameOk s1 with
                  | false =>
                    rw [hnm] at HGN HGT
                    have HE := Lib.hid (HGN.out rfl)
                    refine reg11_bad w.heap.size i nb no x.nc x.names.length s1 W0 _ hnl hnm hlt c1 n1 ?_
                    intros
                    rename Below _ _ _ => hfb
                    have HFB := Lib.hid hfb
                    clear hfb hnm HGN HGT HGK HC
                    go_wp2_with fail
                    go_ret
                    exact ⟨by rw [HE.out]; rfl, HQ1.out _ HFB.out⟩
                  | true =>
                    rw [hnm] at HGN HGT
                    refine reg11_first w.heap.size i nb no x.nc x.names.length s1 y ly.length a oa ks.length x.kc fk W0 _ hnl hnm hlt c1 n1 h0 hltk c2 k0 k1 k2 k3 k4 k5 k6 HC.out ?_
                    intros
                    rename Below _ _ _ => hfb
                    have HFB := Lib.hid hfb
                    clear hfb hnm HGN HC
                    cases fk with
                    | false =>
                      have HE := Lib.hid (HGK.out rfl)
                      clear HGT HGK
                      go_wp2_with fail
                      go_ret
                      exact ⟨by rw [HE.out]; rfl, HQ1.out _ HFB.out⟩
                    | true =>
                      have HT := Lib.hid (HGT.out rfl rfl)
                      clear HGT HGK
                      go_wp2_with fail
                      go_roundw
                      case rel => exact ⟨i + 1, by omega, by go_num, HT.out, HQ2.out _ HFB.out⟩
                      case measure => simp [intOf]; omega
                · obtain ⟨j, hj⟩ : ∃ j, i = j + 1 := ⟨i - 1, by omega⟩
                  have n0 : W0.cell? ⟨nb, no + j, none⟩ = some (vs (x.names[j]'(by omega))) := HNC.out j (by omega)
                  rw [goodAt_pos x.names i (by omega) hlt] at HGN HGT
                  have hj' : x.names[i - 1]'(by omega) = x.names[j]'(by omega) := by congr 1; omega
                  rw [hj'] at HGN HGT
                  clear hj' HNC
                  generalize hfk : formB ks[i] = fk at *
                  generalize x.names[i]'hlt = s1 at *
                  generalize x.names[j]'(by omega) = s0 at *
                  clear hfk hy
                  cases hnm : nameOk s1 with
                  | false =>
                    rw [hnm] at HGN HGT
                    have HE := Lib.hid (HGN.out rfl)
                    refine reg11_bad w.heap.size i nb no x.nc x.names.length s1 W0 _ hnl hnm hlt c1 n1 ?_
                    intros
                    rename Below _ _ _ => hfb
                    have HFB := Lib.hid hfb
                    clear hfb hnm HGN HGT HGK HC hj
                    go_wp2_with fail
                    go_ret
                    exact ⟨by rw [HE.out]; rfl, HQ1.out _ HFB.out⟩
                  | true =>
                    rw [hnm] at HGN HGT
                    cases hbl : Op.bytesLess s0 s1 with
                    | false =>
                      rw [hbl] at HGN HGT
                      have HE := Lib.hid (HGN.out rfl)
                      refine reg11_order w.heap.size i j nb no x.nc x.names.length s1 s0 W0 _ hnl hnm hlt hnam c1 n1 hj n0 (less_not hbl) ?_
                      intros
                      rename Below _ _ _ => hfb
                      have HFB := Lib.hid hfb
                      clear hfb hnm hbl HGN HGT HGK HC hj
                      go_wp2_with fail
                      go_ret
                      exact ⟨by rw [HE.out]; rfl, HQ1.out _ HFB.out⟩
                    | true =>
                      rw [hbl] at HGN HGT
                      obtain ⟨hgt, heq⟩ := less_yes hbl
                      refine reg11_later w.heap.size i j nb no x.nc x.names.length s1 s0 y ly.length a oa ks.length x.kc fk W0 _ hnl hnm hlt hnam c1 n1 hj n0 hgt heq hltk c2 k0 k1 k2 k3 k4 k5 k6 HC.out ?_
                      intros
                      rename Below _ _ _ => hfb
                      have HFB := Lib.hid hfb
                      clear hfb hnm hbl hgt heq HGN HC hj
                      cases fk with
                      | false =>
                        have HE := Lib.hid (HGK.out rfl)
                        clear HGT HGK
                        go_wp2_with fail
                        go_ret
                        exact ⟨by rw [HE.out]; rfl, HQ1.out _ HFB.out⟩
                      | true =>
                        have HT := Lib.hid (HGT.out rfl rfl)
                        clear HGT HGK
                        go_wp2_with fail
                        go_roundw
                        case rel => exact ⟨i + 1, by omega, by go_num, HT.out, HQ2.out _ HFB.out⟩
                        case measure => simp [intOf]; omega
              · have HT : Hid (formB (.mk x ks) = true) := by
                  show _ = _
                  have hle := HLN.out
                  rw [HF.out, namesOk_true (fun j hj => (HP.out j (by omega)).1), formL_true (fun j hj => (HP.out j (by omega)).2 hj)]; rfl
                have HBE2 : Hid (Below w.heap.size w W0) := HB1.out.trans (HBE.out.mono (by omega))
                obtain rfl : i = x.names.length := by omega
                clear HP HF
                go_wp2_with fail
                go_ret
                exact ⟨by rw [HT.out]; rfl, HBE2.out⟩
          · have el : ((x.names.length : Int) == (ks.length : Int)) = false := by rw [beq_eq_false_iff_ne]; omega
            have el' : (x.names.length == ks.length) = false := by rw [beq_eq_false_iff_ne]; omega
            have HF : Hid (formB (.mk x ks) = false) := by show _ = _; rw [HF0.out, HF1.out, decide_eq_false hln]; simp
            clear HF0 HF1 hln
            go_wp2_with fail
            go_ret
            exact ⟨by rw [HF.out]; rfl, HB1.out⟩
        · have hl' : decide (0 < x.target.length) = true := decide_eq_true (List.length_pos_iff.2 hl)
          have HF : Hid (formB (.mk x ks) = false) := by show _ = _; rw [HF0.out, HF1.out, decide_eq_false hl]; simp
          clear HF0 HF1 hl
          go_wp2_with fail
          go_ret
          exact ⟨by rw [HF.out]; rfl, HB1.out⟩
    · have e1 : ((x.kind.toNat : Int) == 1) = false := by rw [show (1 : Int) = ((1 : By).toNat : Int) from rfl, vb_eq]; exact decide_eq_false k1
      rw [if_neg k1] at HF1
      clear k1
      by_cases k2 : x.kind = 2
      · have e2 : ((x.kind.toNat : Int) == 2) = true := by rw [k2]; rfl
        rw [if_pos k2] at HF1
        clear k2
        by_cases hdir : 0 < x.names.length + ks.length
        · have hdir' : (0 : Int) < (x.names.length : Int) + (ks.length : Int) := by omega
          have HF : Hid (formB (.mk x ks) = false) := by
            show _ = _
            rw [HF0.out, HF1.out]
            by_cases h1 : x.names = []
            · rw [h1] at hdir; simp at hdir
              rw [decide_eq_false (by omega : ¬ ks.length = 0)]; simp
            · rw [decide_eq_false h1]; simp
          clear HF0 HF1 hdir
          go_wp2_with fail
          go_ret
          exact ⟨by rw [HF.out]; rfl, HB1.out⟩
        · have hdir' : ¬ (0 : Int) < (x.names.length : Int) + (ks.length : Int) := by omega
          have hn0 : x.names = [] := List.eq_nil_of_length_eq_zero (by omega)
          have hk0 : ks.length = 0 := by omega
          by_cases hl : x.target = []
          · have hl' : decide (0 < x.target.length) = false := by rw [hl]; rfl
            have HF2 : Hid (formB (.mk x ks) = decide (x.data.length ≤ 1024)) := by
              show _ = _
              rw [HF0.out, HF1.out, decide_eq_true hn0, decide_eq_true hk0, decide_eq_true hl, List.eq_nil_of_length_eq_zero hk0, formL]; simp
            clear HF0 HF1 hl hn0 hk0 hdir
            by_cases hdt : x.data.length ≤ 1024
            · have hdt' : decide ((x.data.length : Int) ≤ 1024) = true := decide_eq_true (by omega)
              have HF : Hid (formB (.mk x ks) = true) := by show _ = _; rw [HF2.out, decide_eq_true hdt]
              clear HF2
              go_wp2_with fail
              go_ret
              exact ⟨by rw [HF.out]; rfl, HB1.out⟩
            · have hdt' : decide ((x.data.length : Int) ≤ 1024) = false := decide_eq_false (by omega)
              have HF : Hid (formB (.mk x ks) = false) := by show _ = _; rw [HF2.out, decide_eq_false hdt]
              clear HF2
              go_wp2_with fail
              go_ret
              exact ⟨by rw [HF.out]; rfl, HB1.out⟩
          · have hl' : decide (0 < x.target.length) = true := decide_eq_true (List.length_pos_iff.2 hl)
            have HF : Hid (formB (.mk x ks) = false) := by show _ = _; rw [HF0.out, HF1.out, decide_eq_false hl]; simp
            clear HF0 HF1 hl hn0 hk0 hdir
            go_wp2_with fail
            go_ret
            exact ⟨by rw [HF.out]; rfl, HB1.out⟩
      · have e2 : ((x.kind.toNat : Int) == 2) = false := by rw [show (2 : Int) = ((2 : By).toNat : Int) from rfl, vb_eq]; exact decide_eq_false k2
        rw [if_neg k2] at HF1
        clear k2
        by_cases k3 : x.kind = 3
        · have e3 : ((x.kind.toNat : Int) == 3) = true := by rw [k3]; rfl
          rw [if_pos k3] at HF1
          clear k3
          by_cases hdir : 0 < x.names.length + ks.length
          · have hdir' : (0 : Int) < (x.names.length : Int) + (ks.length : Int) := by omega
            have HF : Hid (formB (.mk x ks) = false) := by
              show _ = _
              rw [HF0.out, HF1.out]
              by_cases h1 : x.names = []
              · rw [h1] at hdir; simp at hdir
                rw [decide_eq_false (by omega : ¬ ks.length = 0)]; simp
              · rw [decide_eq_false h1]; simp
            clear HF0 HF1 hdir
            go_wp2_with fail
            go_ret
            exact ⟨by rw [HF.out]; rfl, HB1.out⟩
          · have hdir' : ¬ (0 : Int) < (x.names.length : Int) + (ks.length : Int) := by omega
            have hn0 : x.names = [] := List.eq_nil_of_length_eq_zero (by omega)
            have hk0 : ks.length = 0 := by omega
            cases hnf : noFile x with
            | false =>
              have HF : Hid (formB (.mk x ks) = false) := by show _ = _; rw [HF0.out, HF1.out, hnf]; simp
              clear HF0 HF1 hnf hn0 hk0 hdir
              go_wp2_with fail
              go_ret
              exact ⟨by rw [HF.out]; rfl, HB1.out⟩
            | true =>
              have HF2 : Hid (formB (.mk x ks) = (decide (1 ≤ x.target.length) && decide (x.target.length ≤ 1024))) := by
                show _ = _
                rw [HF0.out, HF1.out, decide_eq_true hn0, decide_eq_true hk0, hnf, List.eq_nil_of_length_eq_zero hk0, formL]; simp
              clear HF0 HF1 hnf hn0 hk0 hdir
              by_cases hl : 0 < x.target.length
              · have hl' : decide (0 < x.target.length) = true := decide_eq_true hl
                by_cases hdt : x.target.length ≤ 1024
                · have hdt' : decide ((x.target.length : Int) ≤ 1024) = true := decide_eq_true (by omega)
                  have HF : Hid (formB (.mk x ks) = true) := by show _ = _; rw [HF2.out, decide_eq_true hdt, decide_eq_true (by omega : 1 ≤ x.target.length)]; rfl
                  clear HF2
                  go_wp2_with fail
                  go_ret
                  exact ⟨by rw [HF.out]; rfl, HB1.out⟩
                · have hdt' : decide ((x.target.length : Int) ≤ 1024) = false := decide_eq_false (by omega)
                  have HF : Hid (formB (.mk x ks) = false) := by show _ = _; rw [HF2.out, decide_eq_false hdt]; simp
                  clear HF2
                  go_wp2_with fail
                  go_ret
                  exact ⟨by rw [HF.out]; rfl, HB1.out⟩
              · have hl' : decide (0 < x.target.length) = false := decide_eq_false hl
                have HF : Hid (formB (.mk x ks) = false) := by show _ = _; rw [HF2.out, decide_eq_false (by omega : ¬ 1 ≤ x.target.length)]; rfl
                clear HF2
                go_wp2_with fail
                go_ret
                exact ⟨by rw [HF.out]; rfl, HB1.out⟩
        · have e3 : ((x.kind.toNat : Int) == 3) = false := by rw [show (3 : Int) = ((3 : By).toNat : Int) from rfl, vb_eq]; exact decide_eq_false k3
          rw [if_neg k3] at HF1
          have HF : Hid (formB (.mk x ks) = false) := by show _ = _; rw [HF0.out, HF1.out]; rfl
          clear HF0 HF1 k3
          go_wp2_with fail
          go_ret
          exact ⟨by rw [HF.out]; rfl, HB1.out⟩
end Go.Proofs.YtggmogjgaoobjaaDoor

/- The contracts of walk and each, whatever they are handed. -/
namespace Go.Proofs.YtggmogjgaoobjaaDoor
open Go.RowKit TreeMath RealMath

/-- what is asked of a function that is shown each node: of what it holds on to (own) it may turn all, of the rest nothing -/
structure See (fn : Nat) (cp : Value) (top : Nat) {σ : Type} (step : σ → T → Nat → σ × Bool) (R : σ → World → Prop) (own : σ → Nat → Prop) : Prop where
  call : ∀ (s : σ) (x : Hd) (ks : List T) (d : Nat) (w : World), top ≤ w.heap.size → d ≤ 100000 → R s w → Ok w top (.mk x ks) →
    Calls Tryd.prog fn #[nv x ks.length, .int .i64 d, cp] w fun e w' => e = .returned (.bool (step s (.mk x ks) d).2) ∧ R (step s (.mk x ks) d).1 w' ∧ Turned (own s) (own (step s (.mk x ks) d).1) w w'
  enters : ∀ (args : Array Value) (w : World), (callFunc fn args).run Tryd.prog w = .ok (.enter fn args) w
  keep : ∀ s w w', R s w → Below w.heap.size w w' → R s w'
  up : ∀ s c, own s c → top ≤ c
  lt : ∀ s w c, R s w → own s c → c < w.heap.size
set_option maxRecDepth 100000 in
theorem Turned.after {S S' : Nat → Prop} {w w1 w2 : World} (h : Below w.heap.size w w1) (k : Turned S S' w1 w2) : Turned S S' w w2 := (Turned.of_below (S := S) h).trans k
set_option maxRecDepth 100000 in
theorem runs_stop {σ : Type} (step : σ → T → Nat → σ × Bool) (s : σ) (d : Nat) (ks : List T) (i : Nat) (s' : σ) (h : runs step s (preL d (ks.take i)) = (s', false)) : runs step s (preL d ks) = (s', false) := by
  rw [← List.take_append_drop i ks, preL_append, runs_append, h]; simp
end Go.Proofs.YtggmogjgaoobjaaDoor
