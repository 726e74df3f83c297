/- PackBack: the walk. -/
import Derived.Test.YtlehgacbcacokaaG39
import Derived.Test.YtlehgacbcacokaaG26
namespace Go.Proofs.Ytlehgacbcacokaa
open Go.RowKit TreeMath RealMath WireMath PackMath

theorem right_can (t : T) : rightB (canT t) = rightB t := by
  unfold rightB; rw [count_can, depth_can, all_can, List.all_map]
  congr 1
  exact congrArg (fun f => (all t).all f) (funext fun k => fits_can k)
theorem Ok.stampOk {w : World} {top : Nat} {t : T} (h : Ok w top t) : StampOk t := by
  induction h with
  | mk x ks hx hl hc hk hks ih =>
    intro j hj
    rw [all] at hj
    rcases List.mem_cons.1 hj with e | e
    · subst e; exact hx.stamp
    · have key : ∀ l : List T, (∀ k ∈ l, StampOk k) → ∀ j ∈ allL l, j.hd.stamp < 18446744073709551616 := by
        intro l
        induction l with
        | nil => intro _ j hj; rw [allL] at hj; cases hj
        | cons t l ih2 =>
          intro hl j hj
          rw [allL] at hj
          rcases List.mem_append.1 hj with q | q
          · exact hl t (by simp) j q
          · exact ih2 (fun t ht => hl t (by simp [ht])) j q
      exact key ks ih j e
theorem read_right {w : World} {top : Nat} {t : T} (hok : Ok w top t) (hr : rightB t = true) : readP rightB (arch t) = some (canT t) := by
  obtain ⟨h1, h2⟩ := right_form hr
  exact read_arch rightB t h1 hok.stampOk h2 (by rw [right_can]; exact hr)
theorem res_right {w : World} {top : Nat} {t : T} (hok : Ok w top t) (hr : rightB t = true) : resT (arch t) = canT t ∧ resE (arch t) = 0 := by
  unfold resT resE; rw [read_right hok hr]; exact ⟨rfl, rfl⟩
theorem same_can_erase {t m : T} (h : erase m = canT t) : same t m = true := by
  have h1 : erase (canT t) = canT t := by rw [← h, erase_erase]
  rw [← same_erase, h, ← h1, same_erase, same_can]
theorem out_right {t : T} (hr : rightB t = true) : outB t = arch t ∧ errN t = 0 := by unfold outB errN; rw [hr]; exact ⟨rfl, rfl⟩
theorem Ok.stamped {w : World} {top : Nat} {y : Hd} {ly : List T} (h : Ok w top (.mk y ly)) (b : Nat) (hb : b < 18446744073709551616) : Ok w top (.mk { y with stamp := b } ly) := by
  cases h with
  | mk _ _ hx hl hc hk hks => exact .mk _ _ ⟨hx.nsrc, hx.nlt, hx.nnil, hx.ncap, hx.nlen, hx.neach, hx.dsrc, hx.dlt, hx.dnil, hx.dcap, hx.dlen, hb, hx.tlen, hx.knil⟩ hl hc hk hks
theorem right_stamped {y : Hd} {ly : List T} (h : rightB (.mk y ly) = true) (hk : y.kind = 2) (b : Nat) : rightB (.mk { y with stamp := b } ly) = true := by
  unfold rightB at h ⊢
  rw [count_mk, TreeMath.depth, all, List.all_cons] at h ⊢
  have : fitsB (.mk { y with stamp := b } ly) = fitsB (.mk y ly) := by
    simp [fitsB, hk]
  rw [this]; exact h
set_option maxHeartbeats 8000000 in
set_option maxRecDepth 100000 in
theorem pback_walk (A : Option Addr) (c : Nat) (l : List Md) (b : Nat) (w : World) (h1 : Mades w w.heap.size A l) (hm : l.length ≤ maxLen) (hc : l.length ≤ c) (hx : c ≤ maxLen) (hb : b < 18446744073709551616) :
    Calls Try.prog 9 #[.slice A l.length c, .int .u64 b] w fun e w' => e = .returned (.bool true) ∧ Below w.heap.size w w' := by
  have H1 := Lib.hid h1; have HBB := Lib.hid hb
  clear h1 hb
  go_enter Try.func9, Try.ntmps9
  go_wp2_with fail
  refine (points_any w).mono ?_
  rintro e w1 ⟨rfl, hb1⟩
  have HB1 := Lib.hid hb1
  clear hb1
  go_wp2_with fail
  refine (small_any A c w.heap.size l hm w1 (H1.out.keep HB1.out)).mono ?_
  rintro e w2 ⟨rfl, rfl⟩
  have HS1 := Lib.hid (small_true (l := l))
  generalize smallB l = s1 at *
  cases s1 with
  | false =>
    go_wp2_with fail
    refine (points_any w1).mono ?_
    rintro e w2 ⟨rfl, hb2⟩
    have HB2 : Hid (Below w.heap.size w w2) := HB1.out.trans (hb2.mono HB1.out.size)
    clear hb2
    go_wp2_with fail
    go_ret
    exact ⟨rfl, HB2.out⟩
  | true =>
    obtain ⟨ha1, hd1⟩ := HS1.out rfl
    have HD1 := Lib.hid hd1
    clear hd1 HS1
    go_wp2_with fail
    refine (make_any l A c w.heap.size w1 ha1 hc hx HD1.out (H1.out.keep HB1.out)).mono ?_
    rintro e w3 ⟨y, ly, rfl, hok1, -, hmr1, hb3⟩
    have HO3 := Lib.hid hok1; have HB3 : Hid (Below w.heap.size w w3) := HB1.out.trans (hb3.mono HB1.out.size)
    have HRY := Lib.hid (made_right hmr1); have HFY := Lib.hid (made_few hmr1)
    clear hok1 hmr1 hb3 HB1 HD1 H1
    have hb4 : Below w3.heap.size w3 (w3.alloc (.cells #[vb y.kind, .slice y.na y.names.length y.nc, .slice y.ka ly.length y.kc, .slice y.da y.data.length y.dc, .bool y.run, .float .f64 y.stamp, vs y.target] 27)) := (Below.refl _ _).alloc (Nat.le_refl _) _
    have HB4 := Lib.hid hb4
    have HBX4 := Lib.hid (Blk.new w3 27 #[vb y.kind, .slice y.na y.names.length y.nc, .slice y.ka ly.length y.kc, .slice y.da y.data.length y.dc, .bool y.run, .float .f64 y.stamp, vs y.target])
    clear hb4
    go_upto_region 4 with fail
    generalize hW : w3.alloc (.cells #[vb y.kind, .slice y.na y.names.length y.nc, .slice y.ka ly.length y.kc, .slice y.da y.data.length y.dc, .bool y.run, .float .f64 y.stamp, vs y.target] 27) = W4 at *
    clear hW
    have c0 := HBX4.out.cell 0
    simp only [List.getElem?_cons_zero] at c0
    have hfb := fun W => run_frombits (b : Int) W
    by_cases hk : y.kind = 2
    · have hk' : ((y.kind.toNat : Int) == 2) = true := by rw [hk]; rfl
      have c5 := HBX4.out.cell 5; have f5 := HBX4.out.frozen 5
      simp only [List.getElem?_cons_zero, List.getElem?_cons_succ] at c5
      have hl4 := HBX4.out.lt
      obtain ⟨x, ks, hxk, HO, HBX, HB5, HRX, HFEW⟩ : ∃ (x : Hd) (ks : List T), x = { y with stamp := b } ∧ Hid (Ok (W4.setCell ⟨w3.heap.size, 5, none⟩ (.float .f64 b)) (W4.setCell ⟨w3.heap.size, 5, none⟩ (.float .f64 b)).heap.size (.mk x ks)) ∧ Hid (Blk (W4.setCell ⟨w3.heap.size, 5, none⟩ (.float .f64 b)) w3.heap.size 27 (cellsOf x ks.length)) ∧ Hid (Below w.heap.size w (W4.setCell ⟨w3.heap.size, 5, none⟩ (.float .f64 b))) ∧ Hid (rightB (.mk x ks) = true) ∧ Hid (Few (.mk x ks)) := by
        have hbs : Below w3.heap.size w3 (W4.setCell ⟨w3.heap.size, 5, none⟩ (.float .f64 b)) := HB4.out.setCell (by exact Nat.le_refl _) _
        refine ⟨{ y with stamp := b }, ly, rfl, ((HO3.out.keep hbs).up hbs.size).stamped b HBB.out, ?_, HB3.out.trans (hbs.mono HB3.out.size), right_stamped HRY.out hk b, few_head HFY.out (HFY.out _ (all_self _))⟩
        have := HBX4.out.set 5 (.float .f64 b); exact this
      clear hk
      go_upto_region 6 with fail
      generalize hW : W4.setCell ⟨w3.heap.size, 5, none⟩ (.float .f64 b) = W5 at *
      clear hW hxk c0 c5 f5 hk' hfb HBX4 HB4 HO3 HRY HFY
      have HOUT := Lib.hid (out_right HRX.out); have HAL := Lib.hid (arch_le HRX.out); have HRE := Lib.hid (res_right HO.out HRX.out); have HCT := Lib.hid (right_form HRX.out).2
      have e0 := HBX.out.cell 0; have e1 := HBX.out.cell 1; have e2 := HBX.out.cell 2; have e3 := HBX.out.cell 3; have e4 := HBX.out.cell 4; have e5 := HBX.out.cell 5; have e6 := HBX.out.cell 6
      simp only [cellsOf, List.getElem?_cons_zero, List.getElem?_cons_succ] at e0 e1 e2 e3 e4 e5 e6
      go_wp2_with fail
      refine (write_any x ks W5.heap.size W5 (Nat.le_refl _) HO.out (by have := HCT.out; omega)).mono ?_
      rintro e w6 ⟨⟨A6, c6, rfl, hA6, hN6, -⟩, hb6⟩
      rw [HOUT.out.1] at hA6
      rw [HOUT.out.1, HOUT.out.2]
      have HA6 := Lib.hid hA6; have HN6 := Lib.hid hN6; have HB6 := Lib.hid hb6
      clear hA6 hN6 hb6 e0 e1 e2 e3 e4 e5 e6
      have HBX6 := Lib.hid (HBX.out.below HB6.out HBX.out.lt)
      have HO6 := Lib.hid ((HO.out.keep HB6.out).up HB6.out.size)
      have e0 := HBX6.out.cell 0; have e1 := HBX6.out.cell 1; have e2 := HBX6.out.cell 2; have e3 := HBX6.out.cell 3; have e4 := HBX6.out.cell 4; have e5 := HBX6.out.cell 5; have e6 := HBX6.out.cell 6
      simp only [cellsOf, List.getElem?_cons_zero, List.getElem?_cons_succ] at e0 e1 e2 e3 e4 e5 e6
      go_wp2_with fail
      refine (rwrite_any x ks w6.heap.size w6 (Nat.le_refl _) HO6.out (by have := HCT.out; omega) HFEW.out).mono ?_
      rintro e w7 ⟨⟨A7, c7, rfl, hA7, hN7, -⟩, hb7⟩
      rw [HOUT.out.1] at hA7
      rw [HOUT.out.1, HOUT.out.2]
      have HA7 := Lib.hid hA7; have HN7 := Lib.hid hN7; have HB7 := Lib.hid hb7
      clear hA7 hN7 hb7 e0 e1 e2 e3 e4 e5 e6
      go_wp2_with fail
      have hl8 := HAL.out
      refine (bytes_any A6 A7 c6 c7 (arch (.mk x ks)) (arch (.mk x ks)) (by unfold maxLen; omega) (by unfold maxLen; omega) w7 (HA6.out.below HB7.out) HA7.out).mono ?_
      rintro e w8 ⟨rfl, q, rfl⟩
      have hdec : decide (arch (.mk x ks) = arch (.mk x ks)) = true := decide_eq_true rfl
      rw [hdec]
      have HB8 := Lib.hid (below_drewN (Below.refl w7.heap.size w7) q)
      have HB78 := Lib.hid (HB7.out.trans (HB8.out.mono HB7.out.size))
      generalize w7.drewN q = W8 at *
      clear hdec
      go_wp2_with fail
      refine (read_any A6 c6 (arch (.mk x ks)) (by omega) HN6.out W8 (HA6.out.below HB78.out)).mono ?_
      rintro e w9 hp
      obtain ⟨z, lz, rfl, h1, h2, -, h4⟩ := hp.open
      rw [HRE.out.2] 
      rw [HRE.out.1] at h1
      have hb1 : Below w9.heap.size w9 (w9.alloc (.cells #[vb z.kind, .slice z.na z.names.length z.nc, .slice z.ka lz.length z.kc, .slice z.da z.data.length z.dc, .bool z.run, .float .f64 z.stamp, vs z.target] 27)) := (Below.refl _ _).alloc (Nat.le_refl _) _
      have hB9 := HB78.out.trans ((h4.trans (hb1.mono h4.size)).mono HB78.out.size)
      have HB9 := Lib.hid (HB6.out.trans (hB9.mono HB6.out.size))
      have HE := Lib.hid h1; have HO2 := Lib.hid ((h2.keep hb1).up hb1.size); have HO1 := Lib.hid ((HO.out.keep HB9.out).up HB9.out.size)
      have HX2 := Lib.hid (HBX.out.below HB9.out HBX.out.lt)
      have HY := Lib.hid (Blk.new w9 27 #[vb z.kind, .slice z.na z.names.length z.nc, .slice z.ka lz.length z.kc, .slice z.da z.data.length z.dc, .bool z.run, .float .f64 z.stamp, vs z.target])
      clear h1 h2 h4 hb1 hB9 hp
      go_upto_region 11 with fail
      generalize hW : w9.alloc (.cells #[vb z.kind, .slice z.na z.names.length z.nc, .slice z.ka lz.length z.kc, .slice z.da z.data.length z.dc, .bool z.run, .float .f64 z.stamp, vs z.target] 27) = W10 at *
      clear hW
      have e0 := HX2.out.cell 0; have e1 := HX2.out.cell 1; have e2 := HX2.out.cell 2; have e3 := HX2.out.cell 3; have e4 := HX2.out.cell 4; have e5 := HX2.out.cell 5; have e6 := HX2.out.cell 6
      have k0 := HY.out.cell 0; have k1 := HY.out.cell 1; have k2 := HY.out.cell 2; have k3 := HY.out.cell 3; have k4 := HY.out.cell 4; have k5 := HY.out.cell 5; have k6 := HY.out.cell 6
      simp only [cellsOf, List.getElem?_cons_zero, List.getElem?_cons_succ] at e0 e1 e2 e3 e4 e5 e6 k0 k1 k2 k3 k4 k5 k6
      go_wp2_with fail
      clear e0 e1 e2 e3 e4 e5 e6 k0 k1 k2 k3 k4 k5 k6
      refine (refsame_of W10.heap.size (.mk x ks) (.mk z lz) W10 (Nat.le_refl _) HO1.out HO2.out).mono ?_
      rintro e w11 ⟨rfl, hb11⟩
      rw [same_can_erase HE.out]
      have HB11 := Lib.hid hb11
      clear hb11
      go_wp2_with fail
      go_ret
      exact ⟨rfl, HB5.out.trans ((HB9.out.trans (HB11.out.mono HB9.out.size)).mono HB5.out.size)⟩
    · have hk' : ((y.kind.toNat : Int) == 2) = false := by rw [show (2 : Int) = ((2 : By).toNat : Int) from rfl, vb_eq]; exact decide_eq_false hk
      obtain ⟨x, ks, HO, HBX, HB5, HRX, HFEW⟩ : ∃ (x : Hd) (ks : List T), Hid (Ok W4 W4.heap.size (.mk x ks)) ∧ Hid (Blk W4 w3.heap.size 27 (cellsOf x ks.length)) ∧ Hid (Below w.heap.size w W4) ∧ Hid (rightB (.mk x ks) = true) ∧ Hid (Few (.mk x ks)) :=
        ⟨y, ly, (HO3.out.keep HB4.out).up HB4.out.size, HBX4.out, HB3.out.trans (HB4.out.mono HB3.out.size), HRY.out, HFY.out⟩
      clear hk
      go_upto_region 6 with fail
      clear c0 hk' hfb HBX4 HB4 HO3 HRY HFY
      generalize W4 = W5 at *
      have HOUT := Lib.hid (out_right HRX.out); have HAL := Lib.hid (arch_le HRX.out); have HRE := Lib.hid (res_right HO.out HRX.out); have HCT := Lib.hid (right_form HRX.out).2
      have e0 := HBX.out.cell 0; have e1 := HBX.out.cell 1; have e2 := HBX.out.cell 2; have e3 := HBX.out.cell 3; have e4 := HBX.out.cell 4; have e5 := HBX.out.cell 5; have e6 := HBX.out.cell 6
      simp only [cellsOf, List.getElem?_cons_zero, List.getElem?_cons_succ] at e0 e1 e2 e3 e4 e5 e6
      go_wp2_with fail
      refine (write_any x ks W5.heap.size W5 (Nat.le_refl _) HO.out (by have := HCT.out; omega)).mono ?_
      rintro e w6 ⟨⟨A6, c6, rfl, hA6, hN6, -⟩, hb6⟩
      rw [HOUT.out.1] at hA6
      rw [HOUT.out.1, HOUT.out.2]
      have HA6 := Lib.hid hA6; have HN6 := Lib.hid hN6; have HB6 := Lib.hid hb6
      clear hA6 hN6 hb6 e0 e1 e2 e3 e4 e5 e6
      have HBX6 := Lib.hid (HBX.out.below HB6.out HBX.out.lt)
      have HO6 := Lib.hid ((HO.out.keep HB6.out).up HB6.out.size)
      have e0 := HBX6.out.cell 0; have e1 := HBX6.out.cell 1; have e2 := HBX6.out.cell 2; have e3 := HBX6.out.cell 3; have e4 := HBX6.out.cell 4; have e5 := HBX6.out.cell 5; have e6 := HBX6.out.cell 6
      simp only [cellsOf, List.getElem?_cons_zero, List.getElem?_cons_succ] at e0 e1 e2 e3 e4 e5 e6
      go_wp2_with fail
      refine (rwrite_any x ks w6.heap.size w6 (Nat.le_refl _) HO6.out (by have := HCT.out; omega) HFEW.out).mono ?_
      rintro e w7 ⟨⟨A7, c7, rfl, hA7, hN7, -⟩, hb7⟩
      rw [HOUT.out.1] at hA7
      rw [HOUT.out.1, HOUT.out.2]
      have HA7 := Lib.hid hA7; have HN7 := Lib.hid hN7; have HB7 := Lib.hid hb7
      clear hA7 hN7 hb7 e0 e1 e2 e3 e4 e5 e6
      go_wp2_with fail
      have hl8 := HAL.out
      refine (bytes_any A6 A7 c6 c7 (arch (.mk x ks)) (arch (.mk x ks)) (by unfold maxLen; omega) (by unfold maxLen; omega) w7 (HA6.out.below HB7.out) HA7.out).mono ?_
      rintro e w8 ⟨rfl, q, rfl⟩
      have hdec : decide (arch (.mk x ks) = arch (.mk x ks)) = true := decide_eq_true rfl
      rw [hdec]
      have HB8 := Lib.hid (below_drewN (Below.refl w7.heap.size w7) q)
      have HB78 := Lib.hid (HB7.out.trans (HB8.out.mono HB7.out.size))
      generalize w7.drewN q = W8 at *
      clear hdec
      go_wp2_with fail
      refine (read_any A6 c6 (arch (.mk x ks)) (by omega) HN6.out W8 (HA6.out.below HB78.out)).mono ?_
      rintro e w9 hp
      obtain ⟨z, lz, rfl, h1, h2, -, h4⟩ := hp.open
      rw [HRE.out.2] 
      rw [HRE.out.1] at h1
      have hb1 : Below w9.heap.size w9 (w9.alloc (.cells #[vb z.kind, .slice z.na z.names.length z.nc, .slice z.ka lz.length z.kc, .slice z.da z.data.length z.dc, .bool z.run, .float .f64 z.stamp, vs z.target] 27)) := (Below.refl _ _).alloc (Nat.le_refl _) _
      have hB9 := HB78.out.trans ((h4.trans (hb1.mono h4.size)).mono HB78.out.size)
      have HB9 := Lib.hid (HB6.out.trans (hB9.mono HB6.out.size))
      have HE := Lib.hid h1; have HO2 := Lib.hid ((h2.keep hb1).up hb1.size); have HO1 := Lib.hid ((HO.out.keep HB9.out).up HB9.out.size)
      have HX2 := Lib.hid (HBX.out.below HB9.out HBX.out.lt)
      have HY := Lib.hid (Blk.new w9 27 #[vb z.kind, .slice z.na z.names.length z.nc, .slice z.ka lz.length z.kc, .slice z.da z.data.length z.dc, .bool z.run, .float .f64 z.stamp, vs z.target])
      clear h1 h2 h4 hb1 hB9 hp
      go_upto_region 11 with fail
      generalize hW : w9.alloc (.cells #[vb z.kind, .slice z.na z.names.length z.nc, .slice z.ka lz.length z.kc, .slice z.da z.data.length z.dc, .bool z.run, .float .f64 z.stamp, vs z.target] 27) = W10 at *
      clear hW
      have e0 := HX2.out.cell 0; have e1 := HX2.out.cell 1; have e2 := HX2.out.cell 2; have e3 := HX2.out.cell 3; have e4 := HX2.out.cell 4; have e5 := HX2.out.cell 5; have e6 := HX2.out.cell 6
      have k0 := HY.out.cell 0; have k1 := HY.out.cell 1; have k2 := HY.out.cell 2; have k3 := HY.out.cell 3; have k4 := HY.out.cell 4; have k5 := HY.out.cell 5; have k6 := HY.out.cell 6
      simp only [cellsOf, List.getElem?_cons_zero, List.getElem?_cons_succ] at e0 e1 e2 e3 e4 e5 e6 k0 k1 k2 k3 k4 k5 k6
      go_wp2_with fail
      clear e0 e1 e2 e3 e4 e5 e6 k0 k1 k2 k3 k4 k5 k6
      refine (refsame_of W10.heap.size (.mk x ks) (.mk z lz) W10 (Nat.le_refl _) HO1.out HO2.out).mono ?_
      rintro e w11 ⟨rfl, hb11⟩
      rw [same_can_erase HE.out]
      have HB11 := Lib.hid hb11
      clear hb11
      go_wp2_with fail
      go_ret
      exact ⟨rfl, HB5.out.trans ((HB9.out.trans (HB11.out.mono HB9.out.size)).mono HB5.out.size)⟩
end Go.Proofs.Ytlehgacbcacokaa

/- One archive for each tree: two that are right have one archive if they are alike, and else none. No program is named. -/
namespace PackMath
open TreeMath WireMath RealMath

mutual
theorem can_same : ∀ a b : T, same a b = true → canT a = canT b
  | .mk x ks, .mk y ls, h => by
    rw [same, Bool.and_eq_true] at h
    have h1 := h.1
    unfold hdSame at h1
    simp only [Bool.and_eq_true, decide_eq_true_eq] at h1
    rw [canT, canT, can_sameL ks ls h.2]
    simp only [eraseH, h1.1.1.1.1.1, h1.1.1.1.1.2, h1.1.1.1.2, h1.1.1.2, h1.1.2, h1.2]
theorem can_sameL : ∀ a b : List T, sameL a b = true → canL a = canL b
  | [], [], _ => rfl
  | a :: l, b :: m, h => by
    rw [sameL, Bool.and_eq_true] at h
    rw [canL, canL, can_same a b h.1, can_sameL l m h.2]
  | [], _ :: _, h => by simp [sameL] at h
  | _ :: _, [], h => by simp [sameL] at h
end
mutual
theorem lay_can : ∀ t, layB (canT t) = layB t
  | .mk x ks => by
    rw [canT, layB, layB, layL_can _ ks]
    simp only [eraseH, canonB_canonB]
    rfl
theorem layL_can : ∀ (ls : List (List By)) (ks : List T), layL ls (canL ks) = layL ls ks
  | ls, [] => by simp [canL, layL]
  | ls, k :: m => by rw [canL, layL, layL, lay_can k, layL_can _ m]
end
theorem arch_can (t : T) : arch (canT t) = arch t := by unfold arch; rw [lay_can]
mutual
theorem can_erase : ∀ t, canT (erase t) = canT t
  | .mk x ks => by rw [erase, canT, canT, canL_erase ks]; rfl
theorem canL_erase : ∀ l, canL (eraseL l) = canL l
  | [] => rfl
  | k :: l => by rw [eraseL, canL, canL, can_erase k, canL_erase l]
end
mutual
theorem erase_can : ∀ t, erase (canT t) = canT t
  | .mk x ks => by rw [canT, erase, eraseL_can ks]; rfl
theorem eraseL_can : ∀ l, eraseL (canL l) = canL l
  | [] => rfl
  | k :: l => by rw [canL, eraseL, erase_can k, eraseL_can l]
end
mutual
theorem same_of_can : ∀ a b : T, canT a = canT b → same a b = true
  | .mk x ks, .mk y ls, h => by
    rw [canT, canT] at h
    simp only [T.mk.injEq, eraseH, Hd.mk.injEq] at h
    obtain ⟨⟨h1, -, -, h2, -, -, -, -, h3, h4, h5, h6⟩, h7⟩ := h
    rw [same, sameL_of_can ks ls h7]
    unfold hdSame
    rw [h1, h2, h3, h4, h5, h6]; simp
theorem sameL_of_can : ∀ a b : List T, canL a = canL b → sameL a b = true
  | [], [], _ => by rw [sameL]
  | a :: l, b :: m, h => by
    rw [canL, canL] at h
    simp only [List.cons.injEq] at h
    rw [sameL, same_of_can a b h.1, sameL_of_can l m h.2]; rfl
  | [], _ :: _, h => by simp [canL] at h
  | _ :: _, [], h => by simp [canL] at h
end
/-- one archive, one tree -/
theorem arch_same (rb : T → Bool) (a b a2 b2 : T) (ha : readP rb (arch a) = some (canT a)) (hb : readP rb (arch b) = some (canT b)) (h1 : erase a = erase a2) (h2 : erase b = erase b2) : decide (arch a = arch b) = same a2 b2 := by
  have e1 : canT a = canT a2 := by rw [← can_erase a, h1, can_erase]
  have e2 : canT b = canT b2 := by rw [← can_erase b, h2, can_erase]
  cases hs : same a2 b2 with
  | true =>
    have := can_same _ _ hs
    refine decide_eq_true ?_
    rw [← arch_can a, ← arch_can b, e1, e2, this]
  | false =>
    refine decide_eq_false fun h => ?_
    rw [h, hb] at ha
    simp only [Option.some.injEq] at ha
    rw [same_of_can a2 b2 (by rw [← e1, ← e2, ha])] at hs
    cases hs
/-- a file with this stamp alone -/
def oneB (x : Nat) : List By := textB magic ++ [2, 0] ++ wideB x ++ [0, 0]
theorem read_one (rb : T → Bool) (hrb : ∀ x, rb (.mk (fileE [] false x) []) = true) (x : Nat) (hx : x < 18446744073709551616) : readP rb (oneB x) = if ofOk x then some (.mk (fileE [] false x) []) else none := by
  have e : oneB x = textB magic ++ ((2 : By) :: (0 : By) :: (wideB x ++ ([0, 0] : List By))) := by unfold oneB; simp
  obtain ⟨h1, h2⟩ := text_back magic ((2 : By) :: (0 : By) :: (wideB x ++ ([0, 0] : List By))) false (by decide)
  obtain ⟨a1, a2⟩ := numR_cons 2 ((0 : By) :: (wideB x ++ ([0, 0] : List By))) false
  obtain ⟨b1, b2⟩ := numR_cons 0 (wideB x ++ ([0, 0] : List By)) false
  obtain ⟨c1, c2⟩ := wide_back x hx [0, 0] false
  obtain ⟨d1, d2⟩ := text_back [] [] false (by decide)
  have e0 : textB [] ++ ([] : List By) = [0, 0] := by decide
  rw [e0] at d1 d2
  unfold readP
  rw [e, h1, if_pos rfl, h2, nodeP, if_neg (by decide), a1, a2, if_neg (by decide), if_pos (by decide)]
  have hf : filR ⟨(0 : By) :: (wideB x ++ ([0, 0] : List By)), false⟩ = if ofOk x then some (.mk (fileE [] false x) [], ⟨[], false⟩) else none := by
    unfold filR
    rw [b1, b2, c1, c2, d1, d2]
    cases ofOk x <;> simp
  rw [hf]
  cases ofOk x with
  | true => simp [hrb]
  | false => simp
end PackMath
