/- PackOne: the walk. -/
import Derived.Test.YtlehgacbcacokaaG40
namespace Go.Proofs.Ytlehgacbcacokaa
open Go.RowKit TreeMath RealMath WireMath PackMath

/-- what the reference's Of comes to, and of which tree -/
structure OfPostL (l : List Md) (w : World) (e : Ending) (w' : World) : Prop where
  ex : ∃ (t : T) (A : Option Addr) (c : Nat), e = .returned (.slice A (arch t).length c) ∧ SrcIs w' A (arch t) ∧ (A = none → c = 0) ∧ rightB t = true ∧ Ok w' w'.heap.size t ∧ erase t = makeT l
  below : Below w.heap.size w w'
set_option maxHeartbeats 2000000 in
theorem of44_of (l : List Md) (A : Option Addr) (c B : Nat) (w : World) (hl : l.length ≤ 60) (hcap : l.length ≤ c) (hcm : c ≤ maxLen) (hdata : ∀ x ∈ l, x.data.length ≤ 200) (hm : Mades w B A l) : Calls Try.prog 44 #[.slice A l.length c] w (OfPostL l w) := by
  have HM := Lib.hid hm; have HD := Lib.hid hdata
  clear hm hdata
  go_enter Try.func44, Try.ntmps44
  go_wp2_with fail
  refine (make_of l A c B w hl hcap hcm HD.out HM.out).mono ?_
  rintro e w1 ⟨y, ly, rfl, hok, -, ⟨hmr, heq⟩, hb⟩
  have HO := Lib.hid hok; have HR := Lib.hid (made_right hmr); have HF := Lib.hid (made_few hmr); have HB := Lib.hid hb; have HEQ := Lib.hid heq
  have HC : Hid (count (.mk y ly) ≤ 40) := hmr.count
  clear hok hmr hb heq
  go_wp2_with fail
  refine (rwrite_any y ly w1.heap.size w1 (Nat.le_refl _) HO.out (by have := HC.out; omega) HF.out).mono ?_
  rintro e w2 ⟨⟨A2, c2, rfl, hA, hN, -⟩, hb2⟩
  have HOUT := Lib.hid (out_right HR.out)
  rw [HOUT.out.1] at hA
  rw [HOUT.out.1, HOUT.out.2]
  have HA := Lib.hid hA; have HN := Lib.hid hN; have HB2 := Lib.hid hb2
  clear hA hN hb2
  go_wp2_with fail
  go_ret
  exact ⟨⟨_, A2, c2, rfl, HA.out, HN.out, HR.out, (HO.out.keep HB2.out).up HB2.out.size, HEQ.out⟩, HB.out.trans (HB2.out.mono HB.out.size)⟩
theorem right_one (x : Nat) : rightB (.mk (fileE [] false x) []) = true := by
  unfold rightB
  rw [count_mk, TreeMath.depth, all, allL, depthL]
  simp [fitsB, fileE]
theorem res_one (b : Nat) (hb : b < 18446744073709551616) : resE (oneB b) = ofE b := by
  unfold resE ofE
  rw [read_one rightB right_one b hb]
  cases ofOk b <;> rfl
theorem two_src (W : World) (a b : By) : SrcIs (W.alloc (.cells #[vb a, vb b] 5)) (some ⟨W.heap.size, 0, none⟩) [a, b] := Blk.src (l := [a, b]) (tl := []) (Blk.new W 5 #[vb a, vb b])
set_option maxHeartbeats 8000000 in
set_option maxRecDepth 100000 in
theorem pone_walk (A1 A2 : Option Addr) (c1 c2 : Nat) (l1 l2 : List Md) (b : Nat) (w : World) (h1 : Mades w w.heap.size A1 l1) (h2 : Mades w w.heap.size A2 l2) (hm1 : l1.length ≤ maxLen) (hm2 : l2.length ≤ maxLen) (hc1 : l1.length ≤ c1) (hc2 : l2.length ≤ c2) (hx1 : c1 ≤ maxLen) (hx2 : c2 ≤ maxLen) (hb : b < 18446744073709551616) :
    Calls Try.prog 13 #[.slice A1 l1.length c1, .slice A2 l2.length c2, .int .u64 b] w fun e w' => e = .returned (.bool true) ∧ Below w.heap.size w w' := by
  have H1 := Lib.hid h1; have H2 := Lib.hid h2; have HBB := Lib.hid hb
  clear h1 h2 hb
  go_enter Try.func13, Try.ntmps13
  go_wp2_with fail
  refine (points_any w).mono ?_
  rintro e w1 ⟨rfl, hb1⟩
  have HB1 := Lib.hid hb1
  clear hb1
  go_wp2_with fail
  refine (small_any A1 c1 w.heap.size l1 hm1 w1 (H1.out.keep HB1.out)).mono ?_
  rintro e w2 ⟨rfl, rfl⟩
  have HS1 := Lib.hid (small_true (l := l1)); have HS2 := Lib.hid (small_true (l := l2))
  generalize smallB l1 = s1 at *
  cases s1 with
  | false =>
    go_wp2_with fail
    refine (points_any w1).mono ?_
    rintro e w2 ⟨rfl, hb2⟩
    have HB2 : Hid (Below w.heap.size w w2) := HB1.out.trans (hb2.mono HB1.out.size)
    clear hb2
    go_wp2_with fail
    go_ret
    exact ⟨rfl, HB2.out⟩
  | true =>
  obtain ⟨ha1, hd1⟩ := HS1.out rfl
  have HD1 := Lib.hid hd1
  clear hd1 HS1
  go_wp2_with fail
  refine (small_any A2 c2 w.heap.size l2 hm2 w1 (H2.out.keep HB1.out)).mono ?_
  rintro e w2 ⟨rfl, rfl⟩
  generalize smallB l2 = s2 at *
  cases s2 with
  | false =>
    go_wp2_with fail
    refine (points_any w1).mono ?_
    rintro e w2 ⟨rfl, hb2⟩
    have HB2 : Hid (Below w.heap.size w w2) := HB1.out.trans (hb2.mono HB1.out.size)
    clear hb2
    go_wp2_with fail
    go_ret
    exact ⟨rfl, HB2.out⟩
  | true =>
  obtain ⟨ha2, hd2⟩ := HS2.out rfl
  have HD2 := Lib.hid hd2
  clear hd2 HS2
  go_wp2_with fail
  refine (of44_of l1 A1 c1 w.heap.size w1 ha1 hc1 hx1 HD1.out (H1.out.keep HB1.out)).mono ?_
  rintro e w3 ⟨⟨t1, A3, c3, rfl, hA3, hN3, hr3, ho3, he3⟩, hb3⟩
  have HA3 := Lib.hid hA3; have HB3 := Lib.hid (HB1.out.trans (hb3.mono HB1.out.size)); have HE3 := Lib.hid he3
  have HRD1 := Lib.hid (read_right ho3 hr3); have HL1 := Lib.hid (arch_le hr3)
  clear hA3 hN3 hr3 ho3 he3 hb3 HB1
  go_wp2_with fail
  refine (of44_of l2 A2 c2 w.heap.size w3 ha2 hc2 hx2 HD2.out (H2.out.keep HB3.out)).mono ?_
  rintro e w4 ⟨⟨t2, A4, c4, rfl, hA4, hN4, hr4, ho4, he4⟩, hb4⟩
  have HA4 := Lib.hid hA4; have HB4 := Lib.hid (HB3.out.trans (hb4.mono HB3.out.size)); have HE4 := Lib.hid he4; have HA34 := Lib.hid (HA3.out.below hb4)
  have HRD2 := Lib.hid (read_right ho4 hr4); have HL2 := Lib.hid (arch_le hr4)
  clear hA4 hN4 hr4 ho4 he4 hb4 HB3 HA3
  go_wp2_with fail
  refine (bytes_any A3 A4 c3 c4 (arch t1) (arch t2) (by have := HL1.out; unfold maxLen; omega) (by have := HL2.out; unfold maxLen; omega) w4 HA34.out HA4.out).mono ?_
  rintro e w5 ⟨rfl, q, rfl⟩
  have HB5 := Lib.hid (below_drewN HB4.out q)
  generalize w4.drewN q = W5 at *
  clear HA34 HA4 HB4
  go_wp2_with fail
  refine (make_of l1 A1 c1 w.heap.size W5 ha1 hc1 hx1 HD1.out (H1.out.keep HB5.out)).mono ?_
  rintro e w6 ⟨y, ly, rfl, hok1, -, ⟨-, heq1⟩, hb6⟩
  have HB6 := Lib.hid (HB5.out.trans (hb6.mono HB5.out.size)); have HO1 := Lib.hid hok1; have HE1 := Lib.hid heq1
  clear hok1 heq1 hb6 HB5
  go_wp2_with fail
  refine (make_of l2 A2 c2 w.heap.size w6 ha2 hc2 hx2 HD2.out (H2.out.keep HB6.out)).mono ?_
  rintro e w7 ⟨z, lz, rfl, hok2, -, ⟨-, heq2⟩, hb7⟩
  have HB7 := Lib.hid (HB6.out.trans (hb7.mono HB6.out.size)); have HO2 := Lib.hid hok2; have HE2 := Lib.hid heq2; have HO1' := Lib.hid ((HO1.out.keep hb7).up hb7.size)
  clear hok2 heq2 hb7 HB6 HO1
  go_wp2_with fail
  refine (same_of w7.heap.size (.mk y ly) (.mk z lz) w7 (Nat.le_refl _) HO1'.out HO2.out).mono ?_
  rintro e w8 ⟨rfl, hb8⟩
  have HB8 := Lib.hid (HB7.out.trans (hb8.mono HB7.out.size))
  have hds := arch_same rightB t1 t2 (.mk y ly) (.mk z lz) HRD1.out HRD2.out (HE3.out.trans HE1.out.symm) (HE4.out.trans HE2.out.symm)
  rw [hds]
  clear hds hb8 HB7 HO1' HO2 HE1 HE2 HE3 HE4 HRD1 HRD2 HL1 HL2
  generalize same (.mk y ly) (.mk z lz) = sb at *
  have hss : (sb == sb) = true := by simp
  go_wp2_with fail
  refine (rtextb_any magic (by decide) w8).mono ?_
  rintro e w9 ⟨u, rfl, hu⟩
  obtain ⟨A9, c9, rfl, hA9, hN9, -, -⟩ := hu.src
  have hb9 : Below w9.heap.size w9 (w9.alloc (.cells #[vb 2, vb 0] 5)) := (Below.refl _ _).alloc (Nat.le_refl _) _
  have HA9 := Lib.hid (hA9.below hb9); have HN9 := Lib.hid hN9; have HB9 := Lib.hid (HB8.out.trans ((hu.below.trans (hb9.mono hu.below.size)).mono HB8.out.size)); have HT9 := Lib.hid (two_src w9 2 0)
  clear hu hA9 hN9 hb9 HB8
  go_wp2_with fail
  refine (join_any A9 (some ⟨w9.heap.size, 0, none⟩) c9 2 (textB magic) [2, 0] (by decide) HN9.out (fun h => by cases h) _ HA9.out HT9.out).mono ?_
  rintro e w10 ⟨u, rfl, hu⟩
  obtain ⟨A10, c10, rfl, hA10, hN10, -, -⟩ := hu.src
  have HA10 := Lib.hid hA10; have HN10 := Lib.hid hN10; have HB10 := Lib.hid (HB9.out.trans (hu.below.mono HB9.out.size))
  clear hu hA10 hN10 HB9 HA9 HT9
  have HOB : Hid (oneB b = textB magic ++ [2, 0] ++ wideB b ++ [0, 0]) := Lib.hid rfl
  have HL10 : Hid ((textB magic ++ ([2, 0] : List By)).length = 11) := Lib.hid rfl
  generalize textB magic ++ ([2, 0] : List By) = p10 at *
  go_wp2_with fail
  refine (rwide_any b (by have := HBB.out; omega) w10).mono ?_
  rintro e w11 ⟨u, rfl, hu⟩
  obtain ⟨A11, c11, rfl, hA11, hN11, -, -⟩ := hu.src
  have HA11 := Lib.hid hA11; have HN11 := Lib.hid hN11; have HA10' := Lib.hid (HA10.out.below hu.below); have HB11 := Lib.hid (HB10.out.trans (hu.below.mono HB10.out.size))
  clear hu hA11 hN11 HB10 HA10
  have HWL : Hid ((wideB b).length = 8) := wideB_length b
  generalize wideB b = p11 at *
  go_wp2_with fail
  refine (join_any A10 A11 c10 c11 p10 p11 (by rw [HWL.out, HL10.out]; decide) HN10.out HN11.out w11 HA10'.out HA11.out).mono ?_
  rintro e w12 ⟨u, rfl, hu⟩
  obtain ⟨A12, c12, rfl, hA12, hN12, -, -⟩ := hu.src
  have hb12 : Below w12.heap.size w12 (w12.alloc (.cells #[vb 0, vb 0] 5)) := (Below.refl _ _).alloc (Nat.le_refl _) _
  have HA12 := Lib.hid (hA12.below hb12); have HN12 := Lib.hid hN12; have HB12 := Lib.hid (HB11.out.trans ((hu.below.trans (hb12.mono hu.below.size)).mono HB11.out.size)); have HT12 := Lib.hid (two_src w12 0 0)
  have HL12 : Hid ((p10 ++ p11).length = 19) := by show _ = _; rw [List.length_append, HWL.out, HL10.out]
  clear hu hA12 hN12 hb12 HB11 HA10' HA11
  generalize p10 ++ p11 = p12 at *
  go_wp2_with fail
  refine (join_any A12 (some ⟨w12.heap.size, 0, none⟩) c12 2 p12 [0, 0] (by rw [HL12.out]; decide) HN12.out (fun h => by cases h) _ HA12.out HT12.out).mono ?_
  rintro e w13 ⟨u, rfl, hu⟩
  obtain ⟨A13, c13, rfl, hA13, hN13, -, -⟩ := hu.src
  have HA13 := Lib.hid hA13; have HN13 := Lib.hid hN13; have HB13 := Lib.hid (HB12.out.trans (hu.below.mono HB12.out.size))
  have HL13 : Hid ((p12 ++ ([0, 0] : List By)).length = 21) := by show _ = _; rw [List.length_append, HL12.out]; rfl
  clear hu hA13 hN13 HB12 HA12 HT12
  generalize p12 ++ ([0, 0] : List By) = p13 at *
  go_wp2_with fail
  refine (read_any A13 c13 p13 (by rw [HL13.out]; decide) HN13.out w13 HA13.out).mono ?_
  rintro e w14 hp
  obtain ⟨x, ks, rfl, -, -, -, h4⟩ := hp.open
  have hre : resE p13 = ofE b := by rw [← HOB.out]; exact res_one b HBB.out
  rw [hre]
  have hb14 : Below w14.heap.size w14 (w14.alloc (.cells #[vb x.kind, .slice x.na x.names.length x.nc, .slice x.ka ks.length x.kc, .slice x.da x.data.length x.dc, .bool x.run, .float .f64 x.stamp, vs x.target] 27)) := (Below.refl _ _).alloc (Nat.le_refl _) _
  have HB14 := Lib.hid (HB13.out.trans ((h4.trans (hb14.mono h4.size)).mono HB13.out.size))
  clear h4 hb14 hp hre HOB
  go_upto_region 8 with fail
  generalize hW : w14.alloc (.cells #[vb x.kind, .slice x.na x.names.length x.nc, .slice x.ka ks.length x.kc, .slice x.da x.data.length x.dc, .bool x.run, .float .f64 x.stamp, vs x.target] 27) = W15 at *
  clear hW
  go_wp2_with fail
  refine (rof_any b HBB.out W15).mono ?_
  rintro e w16 ⟨rfl, rfl⟩
  have hee : (ofE b == ofE b) = true := by simp
  generalize ofE b = ev at *
  go_wp2_with fail
  go_ret
  exact ⟨rfl, HB14.out⟩
end Go.Proofs.Ytlehgacbcacokaa
