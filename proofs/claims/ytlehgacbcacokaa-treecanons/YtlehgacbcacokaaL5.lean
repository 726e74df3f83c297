/- TreeSame: the walk. -/
import Derived.Test.YtlehgacbcacokaaW14
import Derived.Test.YtlehgacbcacokaaW16
import Derived.Test.YtlehgacbcacokaaW19
import Derived.Deep.RegionHeld3
namespace Go.Proofs.Ytlehgacbcacokaa
open Go.RowKit TreeMath RealMath

theorem same_files (p q : Nat) : same (.mk (fileHd none 0 [] false p) []) (.mk (fileHd none 0 [] false q) []) = decide (canonB p = canonB q) := by
  rw [same, hdSame, sameL]; simp [fileHd]; rfl
theorem small_true {l : List Md} (h : smallB l = true) : l.length ≤ 60 ∧ ∀ x ∈ l, x.data.length ≤ 200 := by
  unfold smallB at h
  rw [Bool.and_eq_true, List.all_eq_true] at h
  exact ⟨of_decide_eq_true h.2, fun x hx => of_decide_eq_true (h.1 x hx)⟩
theorem ok_stamp (W : World) (top p : Nat) (hp : p < 18446744073709551616) : Ok W top (.mk (fileHd none 0 [] false p) []) := ok_file _ _ _ _ _ (fun h => absurd h (by simp)) (fun h => absurd h (by simp)) (fun _ => rfl) (by simp) (by simp) hp
set_option maxHeartbeats 8000000 in
theorem same_walk (A1 A2 : Option Addr) (c1 c2 : Nat) (l1 l2 : List Md) (p q : Nat) (w : World) (h1 : Mades w w.heap.size A1 l1) (h2 : Mades w w.heap.size A2 l2) (hm1 : l1.length ≤ maxLen) (hm2 : l2.length ≤ maxLen) (hc1 : l1.length ≤ c1) (hc2 : l2.length ≤ c2) (hx1 : c1 ≤ maxLen) (hx2 : c2 ≤ maxLen) (hp : p < 18446744073709551616) (hq : q < 18446744073709551616) :
    Calls Try.prog 7 #[.slice A1 l1.length c1, .slice A2 l2.length c2, .int .u64 p, .int .u64 q] w fun e w' => e = .returned (.bool true) ∧ Below w.heap.size w w' := by
  have H1 := Lib.hid h1; have H2 := Lib.hid h2
  clear h1 h2
  go_enter Try.func7, Try.ntmps7
  go_wp2_with fail
  refine (leaf_any w).mono ?_
  rintro e w1 ⟨rfl, hb1⟩
  have HB1 := Lib.hid hb1
  clear hb1
  go_wp2_with fail
  refine (small_any A1 c1 w.heap.size l1 hm1 w1 (H1.out.keep HB1.out)).mono ?_
  rintro e w2 ⟨rfl, rfl⟩
  have HS1 := Lib.hid (small_true (l := l1)); have HS2 := Lib.hid (small_true (l := l2))
  generalize smallB l1 = s1 at *
  cases s1 with
  | false =>
    go_wp2_with fail
    refine (leaf_any w1).mono ?_
    rintro e w2 ⟨rfl, hb2⟩
    have HB2 : Hid (Below w.heap.size w w2) := HB1.out.trans (hb2.mono HB1.out.size)
    clear hb2
    go_wp2_with fail
    go_ret
    exact ⟨rfl, HB2.out⟩
  | true =>
    obtain ⟨ha1, hd1⟩ := HS1.out rfl
    have HD1 := Lib.hid hd1
    clear hd1 HS1
    go_wp2_with fail
    refine (small_any A2 c2 w.heap.size l2 hm2 w1 (H2.out.keep HB1.out)).mono ?_
    rintro e w2 ⟨rfl, rfl⟩
    generalize smallB l2 = s2 at *
    cases s2 with
    | false =>
      go_wp2_with fail
      refine (leaf_any w1).mono ?_
      rintro e w2 ⟨rfl, hb2⟩
      have HB2 : Hid (Below w.heap.size w w2) := HB1.out.trans (hb2.mono HB1.out.size)
      clear hb2
      go_wp2_with fail
      go_ret
      exact ⟨rfl, HB2.out⟩
    | true =>
      obtain ⟨ha2, hd2⟩ := HS2.out rfl
      have HD2 := Lib.hid hd2
      clear hd2 HS2
      go_wp2_with fail
      refine (make_any l1 A1 c1 w.heap.size w1 ha1 hc1 hx1 HD1.out (H1.out.keep HB1.out)).mono ?_
      rintro e w3 ⟨y, ly, rfl, hok1, -, hmr1, hb3⟩
      have HB3 : Hid (Below w.heap.size w w3) := HB1.out.trans (hb3.mono HB1.out.size)
      have HO1 := Lib.hid hok1
      clear hok1 hmr1 hb3
      go_wp2_with fail
      refine (make_any l2 A2 c2 w.heap.size w3 ha2 hc2 hx2 HD2.out (H2.out.keep HB3.out)).mono ?_
      rintro e w4 ⟨z, lz, rfl, hok2, -, hmr2, hb4⟩
      have HB4 : Hid (Below w.heap.size w w4) := HB3.out.trans (hb4.mono HB3.out.size)
      have HO1' : Hid (Ok w4 w4.heap.size (.mk y ly)) := (HO1.out.keep hb4).up hb4.size
      have HO2 := Lib.hid hok2
      clear hok2 hmr2 hb4 HO1 HD1 HD2 H1 H2
      go_upto_region 5 with fail
      have hB5 : Below w4.heap.size w4 ((((w4.alloc (.cells #[vb y.kind, .slice y.na y.names.length y.nc, .slice y.ka ly.length y.kc, .slice y.da y.data.length y.dc, .bool y.run, .float .f64 y.stamp, vs y.target] 27)).alloc (.cells #[vb z.kind, .slice z.na z.names.length z.nc, .slice z.ka lz.length z.kc, .slice z.da z.data.length z.dc, .bool z.run, .float .f64 z.stamp, vs z.target] 27)).alloc (.cells #[.int .u8 2, .slice none 0 0, .slice none 0 0, .slice none 0 0, .bool false, .float .f64 p, .string ⟨#[]⟩] 27)).alloc (.cells #[.int .u8 2, .slice none 0 0, .slice none 0 0, .slice none 0 0, .bool false, .float .f64 q, .string ⟨#[]⟩] 27)) := ((((Below.refl _ _).alloc (Nat.le_refl _) _).alloc (by simp) _).alloc (by simp; omega) _).alloc (by simp; omega) _
      have g0 := (((Blk.new w4 27 #[vb y.kind, .slice y.na y.names.length y.nc, .slice y.ka ly.length y.kc, .slice y.da y.data.length y.dc, .bool y.run, .float .f64 y.stamp, vs y.target]).alloc (.cells #[vb z.kind, .slice z.na z.names.length z.nc, .slice z.ka lz.length z.kc, .slice z.da z.data.length z.dc, .bool z.run, .float .f64 z.stamp, vs z.target] 27)).alloc (.cells #[.int .u8 2, .slice none 0 0, .slice none 0 0, .slice none 0 0, .bool false, .float .f64 p, .string ⟨#[]⟩] 27)).alloc (.cells #[.int .u8 2, .slice none 0 0, .slice none 0 0, .slice none 0 0, .bool false, .float .f64 q, .string ⟨#[]⟩] 27)
      have g1 := ((Blk.new (w4.alloc (.cells #[vb y.kind, .slice y.na y.names.length y.nc, .slice y.ka ly.length y.kc, .slice y.da y.data.length y.dc, .bool y.run, .float .f64 y.stamp, vs y.target] 27)) 27 #[vb z.kind, .slice z.na z.names.length z.nc, .slice z.ka lz.length z.kc, .slice z.da z.data.length z.dc, .bool z.run, .float .f64 z.stamp, vs z.target]).alloc (.cells #[.int .u8 2, .slice none 0 0, .slice none 0 0, .slice none 0 0, .bool false, .float .f64 p, .string ⟨#[]⟩] 27)).alloc (.cells #[.int .u8 2, .slice none 0 0, .slice none 0 0, .slice none 0 0, .bool false, .float .f64 q, .string ⟨#[]⟩] 27)
      have g2 := (Blk.new ((w4.alloc (.cells #[vb y.kind, .slice y.na y.names.length y.nc, .slice y.ka ly.length y.kc, .slice y.da y.data.length y.dc, .bool y.run, .float .f64 y.stamp, vs y.target] 27)).alloc (.cells #[vb z.kind, .slice z.na z.names.length z.nc, .slice z.ka lz.length z.kc, .slice z.da z.data.length z.dc, .bool z.run, .float .f64 z.stamp, vs z.target] 27)) 27 #[.int .u8 2, .slice none 0 0, .slice none 0 0, .slice none 0 0, .bool false, .float .f64 p, .string ⟨#[]⟩]).alloc (.cells #[.int .u8 2, .slice none 0 0, .slice none 0 0, .slice none 0 0, .bool false, .float .f64 q, .string ⟨#[]⟩] 27)
      have g3 := Blk.new (((w4.alloc (.cells #[vb y.kind, .slice y.na y.names.length y.nc, .slice y.ka ly.length y.kc, .slice y.da y.data.length y.dc, .bool y.run, .float .f64 y.stamp, vs y.target] 27)).alloc (.cells #[vb z.kind, .slice z.na z.names.length z.nc, .slice z.ka lz.length z.kc, .slice z.da z.data.length z.dc, .bool z.run, .float .f64 z.stamp, vs z.target] 27)).alloc (.cells #[.int .u8 2, .slice none 0 0, .slice none 0 0, .slice none 0 0, .bool false, .float .f64 p, .string ⟨#[]⟩] 27)) 27 #[.int .u8 2, .slice none 0 0, .slice none 0 0, .slice none 0 0, .bool false, .float .f64 q, .string ⟨#[]⟩]
      simp only [World.size_alloc] at g1 g2 g3
      have hs5 : ((((w4.alloc (.cells #[vb y.kind, .slice y.na y.names.length y.nc, .slice y.ka ly.length y.kc, .slice y.da y.data.length y.dc, .bool y.run, .float .f64 y.stamp, vs y.target] 27)).alloc (.cells #[vb z.kind, .slice z.na z.names.length z.nc, .slice z.ka lz.length z.kc, .slice z.da z.data.length z.dc, .bool z.run, .float .f64 z.stamp, vs z.target] 27)).alloc (.cells #[.int .u8 2, .slice none 0 0, .slice none 0 0, .slice none 0 0, .bool false, .float .f64 p, .string ⟨#[]⟩] 27)).alloc (.cells #[.int .u8 2, .slice none 0 0, .slice none 0 0, .slice none 0 0, .bool false, .float .f64 q, .string ⟨#[]⟩] 27)).heap.size = w4.heap.size + 4 := by simp
      generalize ((((w4.alloc (.cells #[vb y.kind, .slice y.na y.names.length y.nc, .slice y.ka ly.length y.kc, .slice y.da y.data.length y.dc, .bool y.run, .float .f64 y.stamp, vs y.target] 27)).alloc (.cells #[vb z.kind, .slice z.na z.names.length z.nc, .slice z.ka lz.length z.kc, .slice z.da z.data.length z.dc, .bool z.run, .float .f64 z.stamp, vs z.target] 27)).alloc (.cells #[.int .u8 2, .slice none 0 0, .slice none 0 0, .slice none 0 0, .bool false, .float .f64 p, .string ⟨#[]⟩] 27)).alloc (.cells #[.int .u8 2, .slice none 0 0, .slice none 0 0, .slice none 0 0, .bool false, .float .f64 q, .string ⟨#[]⟩] 27)) = W5 at *
      have HG0 := Lib.hid g0; have HG1 := Lib.hid g1; have HG2 := Lib.hid g2; have HG3 := Lib.hid g3; have HB5 := Lib.hid hB5; have HS5 := Lib.hid hs5
      clear g0 g1 g2 g3 hB5 hs5
      have HCELL : Hid (∀ W, Below W5.heap.size W5 W → W.cell? ⟨w4.heap.size, 0, none⟩ = some (vb y.kind) ∧ W.cell? ⟨w4.heap.size, 1, none⟩ = some (.slice y.na y.names.length y.nc) ∧ W.cell? ⟨w4.heap.size, 2, none⟩ = some (.slice y.ka ly.length y.kc) ∧ W.cell? ⟨w4.heap.size, 3, none⟩ = some (.slice y.da y.data.length y.dc) ∧ W.cell? ⟨w4.heap.size, 4, none⟩ = some (.bool y.run) ∧ W.cell? ⟨w4.heap.size, 5, none⟩ = some (.float .f64 y.stamp) ∧ W.cell? ⟨w4.heap.size, 6, none⟩ = some (vs y.target) ∧ W.cell? ⟨(w4.heap.size + 1), 0, none⟩ = some (vb z.kind) ∧ W.cell? ⟨(w4.heap.size + 1), 1, none⟩ = some (.slice z.na z.names.length z.nc) ∧ W.cell? ⟨(w4.heap.size + 1), 2, none⟩ = some (.slice z.ka lz.length z.kc) ∧ W.cell? ⟨(w4.heap.size + 1), 3, none⟩ = some (.slice z.da z.data.length z.dc) ∧ W.cell? ⟨(w4.heap.size + 1), 4, none⟩ = some (.bool z.run) ∧ W.cell? ⟨(w4.heap.size + 1), 5, none⟩ = some (.float .f64 z.stamp) ∧ W.cell? ⟨(w4.heap.size + 1), 6, none⟩ = some (vs z.target) ∧ W.cell? ⟨(w4.heap.size + 1 + 1), 0, none⟩ = some (.int .u8 2) ∧ W.cell? ⟨(w4.heap.size + 1 + 1), 1, none⟩ = some (.slice none 0 0) ∧ W.cell? ⟨(w4.heap.size + 1 + 1), 2, none⟩ = some (.slice none 0 0) ∧ W.cell? ⟨(w4.heap.size + 1 + 1), 3, none⟩ = some (.slice none 0 0) ∧ W.cell? ⟨(w4.heap.size + 1 + 1), 4, none⟩ = some (.bool false) ∧ W.cell? ⟨(w4.heap.size + 1 + 1), 5, none⟩ = some (.float .f64 p) ∧ W.cell? ⟨(w4.heap.size + 1 + 1), 6, none⟩ = some (.string ⟨#[]⟩) ∧ W.cell? ⟨(w4.heap.size + 1 + 1 + 1), 0, none⟩ = some (.int .u8 2) ∧ W.cell? ⟨(w4.heap.size + 1 + 1 + 1), 1, none⟩ = some (.slice none 0 0) ∧ W.cell? ⟨(w4.heap.size + 1 + 1 + 1), 2, none⟩ = some (.slice none 0 0) ∧ W.cell? ⟨(w4.heap.size + 1 + 1 + 1), 3, none⟩ = some (.slice none 0 0) ∧ W.cell? ⟨(w4.heap.size + 1 + 1 + 1), 4, none⟩ = some (.bool false) ∧ W.cell? ⟨(w4.heap.size + 1 + 1 + 1), 5, none⟩ = some (.float .f64 q) ∧ W.cell? ⟨(w4.heap.size + 1 + 1 + 1), 6, none⟩ = some (.string ⟨#[]⟩)) := fun W hW => by
        have h1 := HG0.out.below hW (by have := HS5.out; omega)
        have h2 := HG1.out.below hW (by have := HS5.out; omega)
        have h3 := HG2.out.below hW (by have := HS5.out; omega)
        have h4 := HG3.out.below hW (by have := HS5.out; omega)
        exact ⟨h1.cell 0, h1.cell 1, h1.cell 2, h1.cell 3, h1.cell 4, h1.cell 5, h1.cell 6, h2.cell 0, h2.cell 1, h2.cell 2, h2.cell 3, h2.cell 4, h2.cell 5, h2.cell 6, h3.cell 0, h3.cell 1, h3.cell 2, h3.cell 3, h3.cell 4, h3.cell 5, h3.cell 6, h4.cell 0, h4.cell 1, h4.cell 2, h4.cell 3, h4.cell 4, h4.cell 5, h4.cell 6⟩
      have HNEXT : Hid (∀ W W', Below W5.heap.size W5 W → Below W.heap.size W W' → Below W5.heap.size W5 W') := fun W W' h h' => h.trans (h'.mono h.size)
      have HKP : Hid (∀ W t, Below W5.heap.size W5 W → Ok w4 w4.heap.size t → w4.heap.size ≤ W.heap.size ∧ Ok W w4.heap.size t) := fun W t hW ht => ⟨by have := hW.size; have := HS5.out; omega, (ht.keep HB5.out).keep (hW.mono (by have := HS5.out; omega))⟩
      have C1 : Hid (∀ W, Below W5.heap.size W5 W → Calls Try.prog 26 #[nv y ly.length, nv z lz.length] W fun e w' => e = .returned (.bool (same (.mk y ly) (.mk z lz))) ∧ Below W5.heap.size W5 w') := fun W hW => (same_of w4.heap.size (.mk y ly) (.mk z lz) W (HKP.out W _ hW HO1'.out).1 (HKP.out W _ hW HO1'.out).2 (HKP.out W _ hW HO2.out).2).mono fun e w' h => ⟨h.1, HNEXT.out _ _ hW h.2⟩
      have C2 : Hid (∀ W, Below W5.heap.size W5 W → Calls Try.prog 27 #[nv y ly.length, nv z lz.length] W fun e w' => e = .returned (.bool (same (.mk y ly) (.mk z lz))) ∧ Below W5.heap.size W5 w') := fun W hW => (refsame_of w4.heap.size (.mk y ly) (.mk z lz) W (HKP.out W _ hW HO1'.out).1 (HKP.out W _ hW HO1'.out).2 (HKP.out W _ hW HO2.out).2).mono fun e w' h => ⟨h.1, HNEXT.out _ _ hW h.2⟩
      obtain ⟨bc, hbc⟩ : ∃ bc, ((canonB p : Int) == (canonB q : Int)) = bc := ⟨_, rfl⟩
      have hbc' : (canonB p == canonB q) = bc := by rw [← hbc, nat_eq_int, Bool.eq_iff_iff]; simp
      have C3 : Hid (∀ W, Below W5.heap.size W5 W → Calls Try.prog 26 #[.agg #[.int .u8 2, .slice none 0 0, .slice none 0 0, .slice none 0 0, .bool false, .float .f64 p, .string ⟨#[]⟩], .agg #[.int .u8 2, .slice none 0 0, .slice none 0 0, .slice none 0 0, .bool false, .float .f64 q, .string ⟨#[]⟩]] W fun e w' => e = .returned (.bool bc) ∧ Below W5.heap.size W5 w') := fun W hW => by
        have := same_of w4.heap.size (.mk (fileHd none 0 [] false p) []) (.mk (fileHd none 0 [] false q) []) W (HKP.out W _ hW HO1'.out).1 (ok_stamp _ _ _ hp) (ok_stamp _ _ _ hq)
        rw [same_files] at this
        exact this.mono fun e w' h => ⟨by rw [h.1, ← hbc, nat_eq_int], HNEXT.out _ _ hW h.2⟩
      have C4 : Hid (∀ W, Below W5.heap.size W5 W → Calls Try.prog 33 #[.float .f64 p] W fun e w' => e = .returned (.int .u64 (canonB p)) ∧ Below W5.heap.size W5 w') := fun W hW => (refbits_any p W).mono fun e w' h => ⟨h.1, by rw [← h.2]; exact hW⟩
      have C5 : Hid (∀ W, Below W5.heap.size W5 W → Calls Try.prog 33 #[.float .f64 q] W fun e w' => e = .returned (.int .u64 (canonB q)) ∧ Below W5.heap.size W5 w') := fun W hW => (refbits_any q W).mono fun e w' h => ⟨h.1, by rw [← h.2]; exact hW⟩
      have HBW : Hid (Below w.heap.size w W5) := HB4.out.trans (HB5.out.mono HB4.out.size)
      clear HO1' HO2 HG0 HG1 HG2 HG3 HKP HNEXT
      generalize same (.mk y ly) (.mk z lz) = sb at *
      have H0 : Hid (Below W5.heap.size W5 W5.drew) := (Below.refl _ _).drew
      have k0 := HCELL.out _ H0.out
      go_region_held3 (fun W => W.cell? ⟨w4.heap.size, 0, none⟩ = some (vb y.kind) ∧ W.cell? ⟨w4.heap.size, 1, none⟩ = some (.slice y.na y.names.length y.nc) ∧ W.cell? ⟨w4.heap.size, 2, none⟩ = some (.slice y.ka ly.length y.kc) ∧ W.cell? ⟨w4.heap.size, 3, none⟩ = some (.slice y.da y.data.length y.dc) ∧ W.cell? ⟨w4.heap.size, 4, none⟩ = some (.bool y.run) ∧ W.cell? ⟨w4.heap.size, 5, none⟩ = some (.float .f64 y.stamp) ∧ W.cell? ⟨w4.heap.size, 6, none⟩ = some (vs y.target) ∧ W.cell? ⟨(w4.heap.size + 1), 0, none⟩ = some (vb z.kind) ∧ W.cell? ⟨(w4.heap.size + 1), 1, none⟩ = some (.slice z.na z.names.length z.nc) ∧ W.cell? ⟨(w4.heap.size + 1), 2, none⟩ = some (.slice z.ka lz.length z.kc) ∧ W.cell? ⟨(w4.heap.size + 1), 3, none⟩ = some (.slice z.da z.data.length z.dc) ∧ W.cell? ⟨(w4.heap.size + 1), 4, none⟩ = some (.bool z.run) ∧ W.cell? ⟨(w4.heap.size + 1), 5, none⟩ = some (.float .f64 z.stamp) ∧ W.cell? ⟨(w4.heap.size + 1), 6, none⟩ = some (vs z.target) ∧ W.cell? ⟨(w4.heap.size + 1 + 1), 0, none⟩ = some (.int .u8 2) ∧ W.cell? ⟨(w4.heap.size + 1 + 1), 1, none⟩ = some (.slice none 0 0) ∧ W.cell? ⟨(w4.heap.size + 1 + 1), 2, none⟩ = some (.slice none 0 0) ∧ W.cell? ⟨(w4.heap.size + 1 + 1), 3, none⟩ = some (.slice none 0 0) ∧ W.cell? ⟨(w4.heap.size + 1 + 1), 4, none⟩ = some (.bool false) ∧ W.cell? ⟨(w4.heap.size + 1 + 1), 5, none⟩ = some (.float .f64 p) ∧ W.cell? ⟨(w4.heap.size + 1 + 1), 6, none⟩ = some (.string ⟨#[]⟩) ∧ W.cell? ⟨(w4.heap.size + 1 + 1 + 1), 0, none⟩ = some (.int .u8 2) ∧ W.cell? ⟨(w4.heap.size + 1 + 1 + 1), 1, none⟩ = some (.slice none 0 0) ∧ W.cell? ⟨(w4.heap.size + 1 + 1 + 1), 2, none⟩ = some (.slice none 0 0) ∧ W.cell? ⟨(w4.heap.size + 1 + 1 + 1), 3, none⟩ = some (.slice none 0 0) ∧ W.cell? ⟨(w4.heap.size + 1 + 1 + 1), 4, none⟩ = some (.bool false) ∧ W.cell? ⟨(w4.heap.size + 1 + 1 + 1), 5, none⟩ = some (.float .f64 q) ∧ W.cell? ⟨(w4.heap.size + 1 + 1 + 1), 6, none⟩ = some (.string ⟨#[]⟩))
        (first | exact k0 | exact k1 | exact k2 | exact k3 | exact k4 | exact k5)
        (first
          | (go_at_call 26
             first
             | (with_reducible refine (C1.out _ H0.out).mono ?_
                rintro e x1 ⟨rfl, hb⟩
                have HH1 := Lib.hid hb; clear hb
                have k1 := HCELL.out _ HH1.out)
             | (with_reducible refine (C3.out _ HH2.out).mono ?_
                rintro e x3 ⟨rfl, hb⟩
                have HH3 := Lib.hid hb; clear hb
                have k3 := HCELL.out _ HH3.out))
          | (go_at_call 27
             refine (C2.out _ HH1.out).mono ?_
             rintro e x2 ⟨rfl, hb⟩
             have HH2 := Lib.hid hb; clear hb
             have k2 := HCELL.out _ HH2.out)
          | (go_at_call 33
             first
             | (with_reducible refine (C4.out _ HH3.out).mono ?_
                rintro e x4 ⟨rfl, hb⟩
                have HH4 := Lib.hid hb; clear hb
                have k4 := HCELL.out _ HH4.out)
             | (with_reducible refine (C5.out _ HH4.out).mono ?_
                rintro e x5 ⟨rfl, hb⟩
                have HH5 := Lib.hid hb; clear hb
                have k5 := HCELL.out _ HH5.out)))
      clear k0 k1 k2 k3 k4 k5
      go_wp2_with fail
      go_ret
      exact ⟨rfl, HBW.out.trans (HH5.out.mono HBW.out.size)⟩
end Go.Proofs.Ytlehgacbcacokaa
