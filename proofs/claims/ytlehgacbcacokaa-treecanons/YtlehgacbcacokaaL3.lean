/- TreeCanons: the walk. -/
import Derived.Test.YtlehgacbcacokaaV8
import Derived.Test.YtlehgacbcacokaaW14
import Derived.Deep.RegionHeld3
namespace Go.Proofs.Ytlehgacbcacokaa
open Go.RowKit TreeMath RealMath

set_option maxHeartbeats 8000000 in
set_option maxRecDepth 100000 in
theorem canons_walk (A : Option Addr) (c : Nat) (l : List Md) (b : Nat) (w : World) (h1 : Mades w w.heap.size A l) (hm : l.length ≤ maxLen) (hc : l.length ≤ c) (hx : c ≤ maxLen) (hb : b < 18446744073709551616) :
    Calls Try.prog 5 #[.slice A l.length c, .int .u64 b] w fun e w' => e = .returned (.bool true) ∧ Below w.heap.size w w' := by
  have H1 := Lib.hid h1; have HBB := Lib.hid hb
  clear h1 hb
  go_enter Try.func5, Try.ntmps5
  go_wp2_with fail
  refine (leaf_any w).mono ?_
  rintro e w1 ⟨rfl, hb1⟩
  have HB1 := Lib.hid hb1
  clear hb1
  go_wp2_with fail
  refine (small_any A c w.heap.size l hm w1 (H1.out.keep HB1.out)).mono ?_
  rintro e w2 ⟨rfl, rfl⟩
  have HS1 := Lib.hid (small_true (l := l))
  generalize smallB l = s1 at *
  cases s1 with
  | false =>
    go_wp2_with fail
    refine (leaf_any w1).mono ?_
    rintro e w2 ⟨rfl, hb2⟩
    have HB2 : Hid (Below w.heap.size w w2) := HB1.out.trans (hb2.mono HB1.out.size)
    clear hb2
    go_wp2_with fail
    go_ret
    exact ⟨rfl, HB2.out⟩
  | true =>
    obtain ⟨ha1, hd1⟩ := HS1.out rfl
    have HD1 := Lib.hid hd1
    clear hd1 HS1
    go_wp2_with fail
    refine (make_any l A c w.heap.size w1 ha1 hc hx HD1.out (H1.out.keep HB1.out)).mono ?_
    rintro e w3 ⟨y, ly, rfl, hok1, -, hmr1, hb3⟩
    have HO3 := Lib.hid hok1; have HB3 : Hid (Below w.heap.size w w3) := HB1.out.trans (hb3.mono HB1.out.size)
    have HRY := Lib.hid (made_right hmr1); have HFY := Lib.hid (made_few hmr1)
    clear hok1 hmr1 hb3 HB1 HD1 H1
    have hb4 : Below w3.heap.size w3 (w3.alloc (.cells #[vb y.kind, .slice y.na y.names.length y.nc, .slice y.ka ly.length y.kc, .slice y.da y.data.length y.dc, .bool y.run, .float .f64 y.stamp, vs y.target] 27)) := (Below.refl _ _).alloc (Nat.le_refl _) _
    have HB4 := Lib.hid hb4
    have HBX4 := Lib.hid (Blk.new w3 27 #[vb y.kind, .slice y.na y.names.length y.nc, .slice y.ka ly.length y.kc, .slice y.da y.data.length y.dc, .bool y.run, .float .f64 y.stamp, vs y.target])
    clear hb4
    go_upto_region 4 with fail
    generalize hW : w3.alloc (.cells #[vb y.kind, .slice y.na y.names.length y.nc, .slice y.ka ly.length y.kc, .slice y.da y.data.length y.dc, .bool y.run, .float .f64 y.stamp, vs y.target] 27) = W4 at *
    clear hW
    have c0 := HBX4.out.cell 0
    simp only [List.getElem?_cons_zero] at c0
    have hfb := fun W => run_frombits (b : Int) W
    by_cases hk : y.kind = 2
    · have hk' : ((y.kind.toNat : Int) == 2) = true := by rw [hk]; rfl
      have c5 := HBX4.out.cell 5; have f5 := HBX4.out.frozen 5
      simp only [List.getElem?_cons_zero, List.getElem?_cons_succ] at c5
      have hl4 := HBX4.out.lt
      obtain ⟨x, ks, hxk, HO, HBX, HB5, HRX, HFEW⟩ : ∃ (x : Hd) (ks : List T), x = { y with stamp := b } ∧ Hid (Ok (W4.setCell ⟨w3.heap.size, 5, none⟩ (.float .f64 b)) (W4.setCell ⟨w3.heap.size, 5, none⟩ (.float .f64 b)).heap.size (.mk x ks)) ∧ Hid (Blk (W4.setCell ⟨w3.heap.size, 5, none⟩ (.float .f64 b)) w3.heap.size 27 (cellsOf x ks.length)) ∧ Hid (Below w.heap.size w (W4.setCell ⟨w3.heap.size, 5, none⟩ (.float .f64 b))) ∧ Hid (rightB (.mk x ks) = true) ∧ Hid (Few (.mk x ks)) := by
        have hbs : Below w3.heap.size w3 (W4.setCell ⟨w3.heap.size, 5, none⟩ (.float .f64 b)) := HB4.out.setCell (by exact Nat.le_refl _) _
        refine ⟨{ y with stamp := b }, ly, rfl, ok_stamp1 ((HO3.out.keep hbs).up hbs.size) b HBB.out, ?_, HB3.out.trans (hbs.mono HB3.out.size), right_stamp1 HRY.out hk b, few_head HFY.out (HFY.out _ (all_self _))⟩
        have := HBX4.out.set 5 (.float .f64 b); exact this
      clear hk
      go_upto_region 6 with fail
      generalize hW : W4.setCell ⟨w3.heap.size, 5, none⟩ (.float .f64 b) = W5 at *
      clear hW hxk c0 c5 f5 hk' hfb HBX4 HB4 HO3 HRY HFY
      have HCT := Lib.hid (right_count HRX.out); have HSZ := Lib.hid (right_size HRX.out); have HNK := Lib.hid (right_names HRX.out)
      have hgl := HBX.out.lt
      have e0 := HBX.out.cell 0; have e1 := HBX.out.cell 1; have e2 := HBX.out.cell 2; have e3 := HBX.out.cell 3; have e4 := HBX.out.cell 4; have e5 := HBX.out.cell 5; have e6 := HBX.out.cell 6
      simp only [cellsOf, List.getElem?_cons_zero, List.getElem?_cons_succ] at e0 e1 e2 e3 e4 e5 e6
      go_wp2_with fail
      refine (treeCanon_any x ks W5.heap.size W5 (Nat.le_refl _) HO.out (by have := HCT.out; omega) HFEW.out HSZ.out).mono ?_
      rintro e w6 ⟨z, lz, rfl, hok6, -, hal6, hb6, hown6⟩
      have hb7 : Below w6.heap.size w6 (w6.alloc (.cells #[vb z.kind, .slice z.na z.names.length z.nc, .slice z.ka lz.length z.kc, .slice z.da z.data.length z.dc, .bool z.run, .float .f64 z.stamp, vs z.target] 27)) := (Below.refl _ _).alloc (Nat.le_refl _) _
      have HB67 := Lib.hid hb7
      have hB7 := hb6.trans (hb7.mono hb6.size)
      have HB7 := Lib.hid hB7; have HS6 := Lib.hid hb6.size
      have HAL := Lib.hid hal6; have HOWN := Lib.hid hown6
      have HOZ := Lib.hid ((hok6.keep hb7).up hb7.size); have HON := Lib.hid ((HO.out.keep hB7).up hB7.size)
      have HX7 := Lib.hid (HBX.out.below hB7 HBX.out.lt)
      have HY7 := Lib.hid (Blk.new w6 27 #[vb z.kind, .slice z.na z.names.length z.nc, .slice z.ka lz.length z.kc, .slice z.da z.data.length z.dc, .bool z.run, .float .f64 z.stamp, vs z.target])
      clear e0 e1 e2 e3 e4 e5 e6 hok6 hal6 hb6 hown6 hb7 hB7
      go_upto_region 7 with fail
      generalize hW : w6.alloc (.cells #[vb z.kind, .slice z.na z.names.length z.nc, .slice z.ka lz.length z.kc, .slice z.da z.data.length z.dc, .bool z.run, .float .f64 z.stamp, vs z.target] 27) = W7 at *
      clear hW
      have e0 := HX7.out.cell 0; have e1 := HX7.out.cell 1; have e2 := HX7.out.cell 2; have e3 := HX7.out.cell 3; have e4 := HX7.out.cell 4; have e5 := HX7.out.cell 5; have e6 := HX7.out.cell 6
      have k0 := HY7.out.cell 0; have k1 := HY7.out.cell 1; have k2 := HY7.out.cell 2; have k3 := HY7.out.cell 3; have k4 := HY7.out.cell 4; have k5 := HY7.out.cell 5; have k6 := HY7.out.cell 6
      simp only [cellsOf, List.getElem?_cons_zero, List.getElem?_cons_succ] at e0 e1 e2 e3 e4 e5 e6 k0 k1 k2 k3 k4 k5 k6
      go_wp2_with fail
      refine (same_of W7.heap.size (.mk z lz) (.mk x ks) W7 (Nat.le_refl _) HOZ.out HON.out).mono ?_
      rintro e w8 ⟨rfl, hb8⟩
      rw [HAL.out.same.1]
      have HB8 := Lib.hid hb8
      clear e0 e1 e2 e3 e4 e5 e6 k0 k1 k2 k3 k4 k5 k6 hb8
      have HX8 := Lib.hid (HX7.out.below HB8.out HX7.out.lt); have HY8 := Lib.hid (HY7.out.below HB8.out HY7.out.lt)
      have e0 := HX8.out.cell 0; have e1 := HX8.out.cell 1; have e2 := HX8.out.cell 2; have e3 := HX8.out.cell 3; have e4 := HX8.out.cell 4; have e5 := HX8.out.cell 5; have e6 := HX8.out.cell 6
      have k0 := HY8.out.cell 0; have k1 := HY8.out.cell 1; have k2 := HY8.out.cell 2; have k3 := HY8.out.cell 3; have k4 := HY8.out.cell 4; have k5 := HY8.out.cell 5; have k6 := HY8.out.cell 6
      simp only [cellsOf, List.getElem?_cons_zero, List.getElem?_cons_succ] at e0 e1 e2 e3 e4 e5 e6 k0 k1 k2 k3 k4 k5 k6
      go_wp2_with fail
      refine (refsame_of W7.heap.size (.mk z lz) (.mk x ks) w8 HB8.out.size (HOZ.out.keep HB8.out) (HON.out.keep HB8.out)).mono ?_
      rintro e w9 ⟨rfl, hb9⟩
      rw [HAL.out.same.1]
      have HB9 := Lib.hid (HB8.out.trans (hb9.mono HB8.out.size))
      clear e0 e1 e2 e3 e4 e5 e6 k0 k1 k2 k3 k4 k5 k6 hb9 HX8 HY8 HB8
      have HX9 := Lib.hid (HX7.out.below HB9.out HX7.out.lt); have HY9 := Lib.hid (HY7.out.below HB9.out HY7.out.lt)
      have hg9 := HX9.out.lt; have hh9 := HY9.out.lt
      go_upto_region 9 with fail
      have HCELL : Hid (∀ W, Below w9.heap.size w9 W → W.cell? ⟨w3.heap.size, 0, none⟩ = some (vb x.kind) ∧ W.cell? ⟨w3.heap.size, 1, none⟩ = some (.slice x.na x.names.length x.nc) ∧ W.cell? ⟨w3.heap.size, 2, none⟩ = some (.slice x.ka ks.length x.kc) ∧ W.cell? ⟨w3.heap.size, 3, none⟩ = some (.slice x.da x.data.length x.dc) ∧ W.cell? ⟨w3.heap.size, 4, none⟩ = some (.bool x.run) ∧ W.cell? ⟨w3.heap.size, 5, none⟩ = some (.float .f64 x.stamp) ∧ W.cell? ⟨w3.heap.size, 6, none⟩ = some (vs x.target) ∧ W.cell? ⟨w6.heap.size, 0, none⟩ = some (vb z.kind) ∧ W.cell? ⟨w6.heap.size, 1, none⟩ = some (.slice z.na z.names.length z.nc) ∧ W.cell? ⟨w6.heap.size, 2, none⟩ = some (.slice z.ka lz.length z.kc) ∧ W.cell? ⟨w6.heap.size, 3, none⟩ = some (.slice z.da z.data.length z.dc) ∧ W.cell? ⟨w6.heap.size, 4, none⟩ = some (.bool z.run) ∧ W.cell? ⟨w6.heap.size, 5, none⟩ = some (.float .f64 z.stamp) ∧ W.cell? ⟨w6.heap.size, 6, none⟩ = some (vs z.target)) := fun W hW => by
        have h1 := HX9.out.below hW hg9
        have h2 := HY9.out.below hW hh9
        exact ⟨h1.cell 0, h1.cell 1, h1.cell 2, h1.cell 3, h1.cell 4, h1.cell 5, h1.cell 6, h2.cell 0, h2.cell 1, h2.cell 2, h2.cell 3, h2.cell 4, h2.cell 5, h2.cell 6⟩
      have C1 : Hid (∀ W, Below w9.heap.size w9 W → Calls Try.prog 30 #[nv z lz.length] W fun e w' => ∃ A1 c1, e = .returned (.slice A1 (stampsT (.mk x ks)).length c1) ∧ FlIs w' A1 ((stampsT (.mk x ks)).map canonB) ∧ Below w9.heap.size w9 w') := fun W hW => by
        have hW7 := HB9.out.trans (hW.mono HB9.out.size)
        refine (stamps_any z lz W7.heap.size W hW7.size (HOZ.out.keep hW7) (by rw [HAL.out.count]; have := HCT.out; omega)).mono ?_
        rintro e w' ⟨A1, c1, rfl, q1, -, q3⟩
        rw [HAL.out.stamps] at q1 ⊢
        exact ⟨A1, c1, by rw [List.length_map], q1, hW.trans (q3.mono hW.size)⟩
      have C2 : Hid (∀ W, Below w9.heap.size w9 W → Calls Try.prog 31 #[nv x ks.length] W fun e w' => ∃ A2 c2, e = .returned (.slice A2 (stampsT (.mk x ks)).length c2) ∧ FlIs w' A2 (stampsT (.mk x ks)) ∧ Below W.heap.size W w') := fun W hW => by
        have hW7 := HB9.out.trans (hW.mono HB9.out.size)
        refine (rstamps_any x ks W7.heap.size W hW7.size (HON.out.keep hW7) (by have := HCT.out; omega)).mono ?_
        rintro e w' ⟨A2, c2, rfl, q1, -, q3⟩
        exact ⟨A2, c2, rfl, q1, q3⟩
      have HSL : Hid ((stampsT (.mk x ks)).length ≤ 90000) := by
        have h1 : (stampsT (.mk x ks)).length ≤ count (.mk x ks) := stampsL_le _
        have := HCT.out; show _ ≤ _; omega
      generalize stampsT (.mk x ks) = st at *
      have H0 : Hid (Below w9.heap.size w9 w9.drew) := (Below.refl _ _).drew
      have k0 := HCELL.out _ H0.out
      go_region_held3 (fun W => W.cell? ⟨w3.heap.size, 0, none⟩ = some (vb x.kind) ∧ W.cell? ⟨w3.heap.size, 1, none⟩ = some (.slice x.na x.names.length x.nc) ∧ W.cell? ⟨w3.heap.size, 2, none⟩ = some (.slice x.ka ks.length x.kc) ∧ W.cell? ⟨w3.heap.size, 3, none⟩ = some (.slice x.da x.data.length x.dc) ∧ W.cell? ⟨w3.heap.size, 4, none⟩ = some (.bool x.run) ∧ W.cell? ⟨w3.heap.size, 5, none⟩ = some (.float .f64 x.stamp) ∧ W.cell? ⟨w3.heap.size, 6, none⟩ = some (vs x.target) ∧ W.cell? ⟨w6.heap.size, 0, none⟩ = some (vb z.kind) ∧ W.cell? ⟨w6.heap.size, 1, none⟩ = some (.slice z.na z.names.length z.nc) ∧ W.cell? ⟨w6.heap.size, 2, none⟩ = some (.slice z.ka lz.length z.kc) ∧ W.cell? ⟨w6.heap.size, 3, none⟩ = some (.slice z.da z.data.length z.dc) ∧ W.cell? ⟨w6.heap.size, 4, none⟩ = some (.bool z.run) ∧ W.cell? ⟨w6.heap.size, 5, none⟩ = some (.float .f64 z.stamp) ∧ W.cell? ⟨w6.heap.size, 6, none⟩ = some (vs z.target))
        (first | exact k0 | exact k1 | exact k2)
        (first
          | (go_at_call 30
             refine (C1.out _ H0.out).mono ?_
             rintro e w10 ⟨A1, c1, rfl, hf1, hb⟩
             have HF1 := Lib.hid hf1; have HH1 := Lib.hid hb; clear hf1 hb
             have k1 := HCELL.out _ HH1.out)
          | (go_at_call 31
             refine (C2.out _ HH1.out).mono ?_
             rintro e w11 ⟨A2, c2, rfl, hf2, hb⟩
             have HF2 := Lib.hid hf2; have HH2 := Lib.hid (HH1.out.trans (hb.mono HH1.out.size)); have HF1' := Lib.hid (HF1.out.below hb); clear hf2 hb
             have k2 := HCELL.out _ HH2.out))
      clear k0 k1 k2
      go_upto_region 12 with fail
      have HF1 := HF1'
      clear HF1'
      have HB11 := Lib.hid (HB9.out.trans (HH2.out.mono HB9.out.size))
      clear C1 C2 H0 HH1 HH2 HCELL HX9 HY9 HB9 hg9 hh9
      go_wp2_with fail
      go_loopw [9] (fun vi wr => ∃ i : Nat, i ≤ st.length ∧ vi = .int .i64 i ∧ Hid (Below w11.heap.size w11 wr)) (fun vi _ => st.length - (intOf vi).toNat)
      case atStart => exact ⟨0, Nat.zero_le _, rfl, Below.refl _ _⟩
      case round =>
        obtain ⟨i, hi, rfl, HP⟩ := hrel
        rename World => W0
        have hsl := HSL.out
        by_cases hlt : i < st.length
        · obtain ⟨b1, o1, rfl, hc1⟩ := HF1.out (by rw [List.length_map]; omega)
          obtain ⟨b2, o2, rfl, hc2⟩ := HF2.out (by omega)
          have q1 : w11.cell? ⟨b1, o1 + i, none⟩ = some (vf (canonB st[i])) := by
            have := hc1 i (by rw [List.length_map]; exact hlt)
            rw [List.getElem_map] at this; exact this
          have q2 := hc2 i hlt
          have HCE : Hid (∀ W, Below w11.heap.size w11 W → W.cell? ⟨b1, o1 + i, none⟩ = some (vf (canonB st[i])) ∧ W.cell? ⟨b2, o2 + i, none⟩ = some (vf st[i])) := fun W hW => ⟨by rw [hW.cell (p := ⟨b1, o1 + i, none⟩) (block_of_cell q1)]; exact q1, by rw [hW.cell (p := ⟨b2, o2 + i, none⟩) (block_of_cell q2)]; exact q2⟩
          have C3 := Lib.hid (refbits_any st[i])
          clear hc1 hc2 q1 q2
          generalize canonB st[i] = m at *
          generalize st[i] = s at *
          have H0 : Hid (Below w11.heap.size w11 W0.drew) := HP.out.drew
          have k0 := HCE.out _ H0.out
          go_upto_region 15 with fail
          go_region_held3 (fun W => W.cell? ⟨b1, o1 + i, none⟩ = some (vf m) ∧ W.cell? ⟨b2, o2 + i, none⟩ = some (vf s))
            (first | exact k0)
            (first
              | (go_at_call 33
                 refine (C3.out _).mono ?_
                 rintro e w12 ⟨rfl, rfl⟩))
          clear k0
          go_wp2_with fail
          go_roundw
          case rel => exact ⟨i + 1, by omega, by go_num, H0.out⟩
          case measure => simp [intOf]; omega
        · obtain rfl : i = st.length := by omega
          have HBN := Lib.hid (HB11.out.trans (HP.out.mono HB11.out.size))
          have HXN := Lib.hid (HX7.out.below HBN.out HX7.out.lt); have HYN := Lib.hid (HY7.out.below HBN.out HY7.out.lt)
          clear HP HF1 HF2 HB11 HSL hi hlt hsl
          have e0 := HXN.out.cell 0; have e1 := HXN.out.cell 1; have e2 := HXN.out.cell 2; have e3 := HXN.out.cell 3; have e4 := HXN.out.cell 4; have e5 := HXN.out.cell 5; have e6 := HXN.out.cell 6
          simp only [cellsOf, List.getElem?_cons_zero, List.getElem?_cons_succ] at e0 e1 e2 e3 e4 e5 e6
          go_wp2_with fail
          refine (treeCanon_any x ks W7.heap.size W0 HBN.out.size (HON.out.keep HBN.out) (by have := HCT.out; omega) HFEW.out HSZ.out).mono ?_
          rintro e w12 ⟨u, lu, rfl, hok12, hin12, hal12, hb12, -⟩
          have hb13 : Below w12.heap.size w12 (w12.alloc (.cells #[vb u.kind, .slice u.na u.names.length u.nc, .slice u.ka lu.length u.kc, .slice u.da u.data.length u.dc, .bool u.run, .float .f64 u.stamp, vs u.target] 27)) := (Below.refl _ _).alloc (Nat.le_refl _) _
          have HB13 := Lib.hid (hb12.trans (hb13.mono hb12.size))
          have HALU := Lib.hid hal12; have HINU := Lib.hid hin12
          have HOU := Lib.hid ((hok12.keep hb13).up hb13.size)
          have HXU := Lib.hid (HXN.out.below HB13.out HXN.out.lt); have HYU := Lib.hid (HYN.out.below HB13.out HYN.out.lt)
          have HU := Lib.hid (Blk.new w12 27 #[vb u.kind, .slice u.na u.names.length u.nc, .slice u.ka lu.length u.kc, .slice u.da u.data.length u.dc, .bool u.run, .float .f64 u.stamp, vs u.target])
          have HS12 := Lib.hid hb12.size
          clear e0 e1 e2 e3 e4 e5 e6 hok12 hal12 hin12 hb12 hb13
          go_upto_region 18 with fail
          generalize hW : w12.alloc (.cells #[vb u.kind, .slice u.na u.names.length u.nc, .slice u.ka lu.length u.kc, .slice u.da u.data.length u.dc, .bool u.run, .float .f64 u.stamp, vs u.target] 27) = W13 at *
          clear hW
          have HCIN : Hid (Cin W5.heap.size w6.heap.size W13 z lz.length W13) := Cin.start HOWN.out ((HB67.out.trans (HBN.out.mono HB67.out.size)).trans (HB13.out.mono (Nat.le_trans HB67.out.size HBN.out.size))) rfl
          have HDL : Hid (z.data.length ≤ 100000) := by have h1 := HAL.out; cases h1; have h2 := fits_data (right_fits HRX.out _ (all_self _)); show _ ≤ _; simp only [T.hd] at h2; simp only [*]; omega
          have HNL : Hid (z.names.length ≤ 100000) := by have h1 := HAL.out; cases h1; have h2 := HFEW.out _ (all_self _); show _ ≤ _; simp only [T.hd] at h2; simp only [*]
          have HNK2 : Hid (z.names.length ≤ lz.length) := by have h1 := HAL.out; cases h1; have h2 := HNK.out; show _ ≤ _; simp only [*]
          have HLK : Hid (lz.length ≤ 100000) := by have h1 := HAL.out; cases h1; have h2 := kids_le (x := x) (ks := ks); have := HCT.out; show _ ≤ _; simp only [*]; omega
          have HLE : Hid (w6.heap.size ≤ W0.heap.size) := Nat.le_trans HB67.out.size HBN.out.size
          have HBA : Hid (Below W5.heap.size W5 W13) := (HB7.out.trans (HBN.out.mono HB7.out.size)).trans (HB13.out.mono (Nat.le_trans HB7.out.size HBN.out.size))
          clear HYN HXN HBN HB67 HY7 HX7 HON HOZ HOWN HAL
          have HGO : Hid (∀ wr, Cin W5.heap.size w6.heap.size W13 z lz.length wr → Blk wr w6.heap.size 27 (cellsOf z lz.length)) := fun wr h => by
            have h1 := h.high w6.heap.size (Nat.le_refl _)
            unfold Blk at *; rw [h1]; exact HYU.out
          go_wp2_with fail
          go_loopw [11] (fun vi wr => ∃ i : Nat, i ≤ z.data.length ∧ vi = .int .i64 i ∧ Hid (Cin W5.heap.size w6.heap.size W13 z lz.length wr)) (fun vi _ => z.data.length - (intOf vi).toNat)
          case atStart => exact ⟨0, Nat.zero_le _, rfl, HCIN.out⟩
          case round =>
            obtain ⟨i, hi, rfl, HP⟩ := hrel
            rename World => W1
            have hbz := HGO.out _ HP.out
            have k3 := hbz.cell 3; have k1 := hbz.cell 1; have k2 := hbz.cell 2
            simp only [cellsOf, List.getElem?_cons_zero, List.getElem?_cons_succ] at k1 k2 k3
            have hdl : z.data.length ≤ 100000 := HDL.out
            have hnl : z.names.length ≤ 100000 := HNL.out
            clear hbz
            by_cases hlt : i < z.data.length
            · obtain ⟨g, cs, a1, a2, a3, a4, a5, a6⟩ := HP.out.ds (by omega)
              obtain ⟨bb, hbb⟩ := a6 i hlt
              have d1 := a4.cell i; have d2 := a4.frozen i; have d3 := a4.lt
              rw [hbb] at d1
              rw [a1] at k3
              have HA2 := Lib.hid a2; have HA3 := Lib.hid a3
              clear a2 a3 a4 a5 a6 hbb a1
              go_wp2_with fail
              go_roundw
              case rel => exact ⟨i + 1, by omega, by go_num, HP.out.set g i _ HA2.out HA3.out (fun _ _ => ⟨_, vb_inc bb⟩)⟩
              case measure => simp [intOf]; omega
            · obtain rfl : i = z.data.length := by omega
              clear hlt hi
              go_upto_region 22 with fail
              have HPP := HP
              clear HP HCIN
              clear k1 k2 k3
              go_wp2_with fail
              go_loopw [12] (fun vi wr => ∃ i : Nat, i ≤ z.names.length ∧ vi = .int .i64 i ∧ Hid (Cin W5.heap.size w6.heap.size W13 z lz.length wr)) (fun vi _ => z.names.length - (intOf vi).toNat)
              case atStart => exact ⟨0, Nat.zero_le _, rfl, HPP.out⟩
              case round =>
                obtain ⟨i, hi, rfl, HP⟩ := hrel
                rename World => W2
                have hbz := HGO.out _ HP.out
                have k1 := hbz.cell 1; have k2 := hbz.cell 2
                simp only [cellsOf, List.getElem?_cons_zero, List.getElem?_cons_succ] at k1 k2
                have hlz := hbz.lt
                by_cases hlt : i < z.names.length
                · have hlk : i < lz.length := by have := HNK2.out; omega
                  obtain ⟨g, cs, a1, a2, a3, a4, a5⟩ := HP.out.ns (by omega)
                  have d1 := a4.cell i; have d2 := a4.frozen i; have d3 := a4.lt
                  obtain ⟨v0, hv0⟩ : ∃ v0, cs[i]? = some v0 := ⟨_, List.getElem?_eq_getElem (show i < cs.length by omega)⟩
                  rw [hv0] at d1
                  clear hv0
                  rw [a1] at k1
                  have HP1 : Hid (Cin W5.heap.size w6.heap.size W13 z lz.length (W2.setCell ⟨g, i, none⟩ (.string ⟨#[47]⟩))) := HP.out.set g i _ a2 a3 (fun ds hd => by have := blk_type a4 hd; cases this)
                  clear a2 a3 a4 a5 a1 hbz
                  go_upto_region 26 with fail
                  clear k1 k2 d1 d2 d3 hlz HP
                  generalize W2.setCell ⟨g, i, none⟩ (.string ⟨#[47]⟩) = W3 at *
                  have hbz := HGO.out _ HP1.out
                  have k2 := hbz.cell 2
                  simp only [cellsOf, List.getElem?_cons_zero, List.getElem?_cons_succ] at k2
                  have h0 : 0 < lz.length := by omega
                  obtain ⟨gk, ck, a1, a2, a3, a4, a5⟩ := HP1.out.ks h0
                  obtain ⟨v0, hv0⟩ : ∃ v, ck[i * 7]? = some v := ⟨_, List.getElem?_eq_getElem (show i * 7 < ck.length by omega)⟩
                  have d0 := a4.cell (i * 7); have f0 := a4.frozen (i * 7); rw [hv0] at d0; clear hv0
                  obtain ⟨v1, hv1⟩ : ∃ v, ck[i * 7 + 1]? = some v := ⟨_, List.getElem?_eq_getElem (show i * 7 + 1 < ck.length by omega)⟩
                  have d1 := a4.cell (i * 7 + 1); have f1 := a4.frozen (i * 7 + 1); rw [hv1] at d1; clear hv1
                  obtain ⟨v2, hv2⟩ : ∃ v, ck[i * 7 + 2]? = some v := ⟨_, List.getElem?_eq_getElem (show i * 7 + 2 < ck.length by omega)⟩
                  have d2 := a4.cell (i * 7 + 2); have f2 := a4.frozen (i * 7 + 2); rw [hv2] at d2; clear hv2
                  obtain ⟨v3, hv3⟩ : ∃ v, ck[i * 7 + 3]? = some v := ⟨_, List.getElem?_eq_getElem (show i * 7 + 3 < ck.length by omega)⟩
                  have d3 := a4.cell (i * 7 + 3); have f3 := a4.frozen (i * 7 + 3); rw [hv3] at d3; clear hv3
                  obtain ⟨v4, hv4⟩ : ∃ v, ck[i * 7 + 4]? = some v := ⟨_, List.getElem?_eq_getElem (show i * 7 + 4 < ck.length by omega)⟩
                  have d4 := a4.cell (i * 7 + 4); have f4 := a4.frozen (i * 7 + 4); rw [hv4] at d4; clear hv4
                  obtain ⟨v5, hv5⟩ : ∃ v, ck[i * 7 + 5]? = some v := ⟨_, List.getElem?_eq_getElem (show i * 7 + 5 < ck.length by omega)⟩
                  have d5 := a4.cell (i * 7 + 5); have f5 := a4.frozen (i * 7 + 5); rw [hv5] at d5; clear hv5
                  obtain ⟨v6, hv6⟩ : ∃ v, ck[i * 7 + 6]? = some v := ⟨_, List.getElem?_eq_getElem (show i * 7 + 6 < ck.length by omega)⟩
                  have d6 := a4.cell (i * 7 + 6); have f6 := a4.frozen (i * 7 + 6); rw [hv6] at d6; clear hv6
                  have hgk := a4.lt
                  have HP2 : Hid (Cin W5.heap.size w6.heap.size W13 z lz.length (((((((W3.setCell ⟨gk, i * 7, none⟩ (.int .u8 0)).setCell ⟨gk, i * 7 + 1, none⟩ (.slice none 0 0)).setCell ⟨gk, i * 7 + 2, none⟩ (.slice none 0 0)).setCell ⟨gk, i * 7 + 3, none⟩ (.slice none 0 0)).setCell ⟨gk, i * 7 + 4, none⟩ (.bool false)).setCell ⟨gk, i * 7 + 5, none⟩ (.float .f64 0)).setCell ⟨gk, i * 7 + 6, none⟩ (.string ⟨#[]⟩))) := (((((((HP1.out.setK h0 a1 (i * 7) _).setK h0 a1 (i * 7 + 1) _).setK h0 a1 (i * 7 + 2) _).setK h0 a1 (i * 7 + 3) _).setK h0 a1 (i * 7 + 4) _).setK h0 a1 (i * 7 + 5) _).setK h0 a1 (i * 7 + 6) _)
                  rw [a1] at k2
                  have hlkz : lz.length ≤ 100000 := HLK.out
                  clear a2 a3 a4 a5 a1 hbz
                  go_wp2_with fail
                  go_roundw
                  case rel => exact ⟨i + 1, by omega, by go_num, HP2.out⟩
                  case measure => simp [intOf]; omega
                · obtain rfl : i = z.names.length := by omega
                  clear hlt hi k2 hbz
                  have HBE := Lib.hid (HBA.out.trans HP.out.below)
                  have HXE := Lib.hid (HXU.out.below HP.out.below hgl)
                  have HUE : Hid (Blk W2 w12.heap.size 27 (cellsOf u lu.length)) := by
                    have h1 := HP.out.high w12.heap.size (Nat.le_trans HLE.out HS12.out)
                    show Blk _ _ _ _
                    unfold Blk; rw [h1]; exact HU.out
                  have HOX := Lib.hid ((HO.out.keep HBE.out).up HBE.out.size)
                  have HOUE : Hid (Ok W2 W2.heap.size (.mk u lu)) := HOU.out.turn HINU.out (fun c hc _ => HP.out.high c (Nat.le_trans HLE.out hc)) (fun c _ hl => by rw [HP.out.size]; exact hl)
                  clear HP HPP HGO HXU HU HYU HBA
                  go_upto_region 27 with fail
                  clear k1
                  have e0 := HXE.out.cell 0; have e1 := HXE.out.cell 1; have e2 := HXE.out.cell 2; have e3 := HXE.out.cell 3; have e4 := HXE.out.cell 4; have e5 := HXE.out.cell 5; have e6 := HXE.out.cell 6
                  have k0 := HUE.out.cell 0; have k1 := HUE.out.cell 1; have k2 := HUE.out.cell 2; have k3 := HUE.out.cell 3; have k4 := HUE.out.cell 4; have k5 := HUE.out.cell 5; have k6 := HUE.out.cell 6
                  simp only [cellsOf, List.getElem?_cons_zero, List.getElem?_cons_succ] at e0 e1 e2 e3 e4 e5 e6 k0 k1 k2 k3 k4 k5 k6
                  go_wp2_with fail
                  refine (same_of W2.heap.size (.mk x ks) (.mk u lu) W2 (Nat.le_refl _) HOX.out HOUE.out).mono ?_
                  rintro e w20 ⟨rfl, hb20⟩
                  rw [HALU.out.same.2]
                  have HB20 := Lib.hid hb20
                  clear e0 e1 e2 e3 e4 e5 e6 k0 k1 k2 k3 k4 k5 k6 hb20
                  go_wp2_with fail
                  go_ret
                  exact ⟨rfl, HB5.out.trans ((HBE.out.trans (HB20.out.mono HBE.out.size)).mono HB5.out.size)⟩
    · have hk' : ((y.kind.toNat : Int) == 2) = false := by rw [show (2 : Int) = ((2 : By).toNat : Int) from rfl, vb_eq]; exact decide_eq_false hk
      obtain ⟨x, ks, HO, HBX, HB5, HRX, HFEW⟩ : ∃ (x : Hd) (ks : List T), Hid (Ok W4 W4.heap.size (.mk x ks)) ∧ Hid (Blk W4 w3.heap.size 27 (cellsOf x ks.length)) ∧ Hid (Below w.heap.size w W4) ∧ Hid (rightB (.mk x ks) = true) ∧ Hid (Few (.mk x ks)) :=
        ⟨y, ly, (HO3.out.keep HB4.out).up HB4.out.size, HBX4.out, HB3.out.trans (HB4.out.mono HB3.out.size), HRY.out, HFY.out⟩
      clear hk
      go_upto_region 6 with fail
      clear c0 hk' hfb HBX4 HB4 HO3 HRY HFY
      generalize W4 = W5 at *
      have HCT := Lib.hid (right_count HRX.out); have HSZ := Lib.hid (right_size HRX.out); have HNK := Lib.hid (right_names HRX.out)
      have hgl := HBX.out.lt
      have e0 := HBX.out.cell 0; have e1 := HBX.out.cell 1; have e2 := HBX.out.cell 2; have e3 := HBX.out.cell 3; have e4 := HBX.out.cell 4; have e5 := HBX.out.cell 5; have e6 := HBX.out.cell 6
      simp only [cellsOf, List.getElem?_cons_zero, List.getElem?_cons_succ] at e0 e1 e2 e3 e4 e5 e6
      go_wp2_with fail
      refine (treeCanon_any x ks W5.heap.size W5 (Nat.le_refl _) HO.out (by have := HCT.out; omega) HFEW.out HSZ.out).mono ?_
      rintro e w6 ⟨z, lz, rfl, hok6, -, hal6, hb6, hown6⟩
      have hb7 : Below w6.heap.size w6 (w6.alloc (.cells #[vb z.kind, .slice z.na z.names.length z.nc, .slice z.ka lz.length z.kc, .slice z.da z.data.length z.dc, .bool z.run, .float .f64 z.stamp, vs z.target] 27)) := (Below.refl _ _).alloc (Nat.le_refl _) _
      have HB67 := Lib.hid hb7
      have hB7 := hb6.trans (hb7.mono hb6.size)
      have HB7 := Lib.hid hB7; have HS6 := Lib.hid hb6.size
      have HAL := Lib.hid hal6; have HOWN := Lib.hid hown6
      have HOZ := Lib.hid ((hok6.keep hb7).up hb7.size); have HON := Lib.hid ((HO.out.keep hB7).up hB7.size)
      have HX7 := Lib.hid (HBX.out.below hB7 HBX.out.lt)
      have HY7 := Lib.hid (Blk.new w6 27 #[vb z.kind, .slice z.na z.names.length z.nc, .slice z.ka lz.length z.kc, .slice z.da z.data.length z.dc, .bool z.run, .float .f64 z.stamp, vs z.target])
      clear e0 e1 e2 e3 e4 e5 e6 hok6 hal6 hb6 hown6 hb7 hB7
      go_upto_region 7 with fail
      generalize hW : w6.alloc (.cells #[vb z.kind, .slice z.na z.names.length z.nc, .slice z.ka lz.length z.kc, .slice z.da z.data.length z.dc, .bool z.run, .float .f64 z.stamp, vs z.target] 27) = W7 at *
      clear hW
      have e0 := HX7.out.cell 0; have e1 := HX7.out.cell 1; have e2 := HX7.out.cell 2; have e3 := HX7.out.cell 3; have e4 := HX7.out.cell 4; have e5 := HX7.out.cell 5; have e6 := HX7.out.cell 6
      have k0 := HY7.out.cell 0; have k1 := HY7.out.cell 1; have k2 := HY7.out.cell 2; have k3 := HY7.out.cell 3; have k4 := HY7.out.cell 4; have k5 := HY7.out.cell 5; have k6 := HY7.out.cell 6
      simp only [cellsOf, List.getElem?_cons_zero, List.getElem?_cons_succ] at e0 e1 e2 e3 e4 e5 e6 k0 k1 k2 k3 k4 k5 k6
      go_wp2_with fail
      refine (same_of W7.heap.size (.mk z lz) (.mk x ks) W7 (Nat.le_refl _) HOZ.out HON.out).mono ?_
      rintro e w8 ⟨rfl, hb8⟩
      rw [HAL.out.same.1]
      have HB8 := Lib.hid hb8
      clear e0 e1 e2 e3 e4 e5 e6 k0 k1 k2 k3 k4 k5 k6 hb8
      have HX8 := Lib.hid (HX7.out.below HB8.out HX7.out.lt); have HY8 := Lib.hid (HY7.out.below HB8.out HY7.out.lt)
      have e0 := HX8.out.cell 0; have e1 := HX8.out.cell 1; have e2 := HX8.out.cell 2; have e3 := HX8.out.cell 3; have e4 := HX8.out.cell 4; have e5 := HX8.out.cell 5; have e6 := HX8.out.cell 6
      have k0 := HY8.out.cell 0; have k1 := HY8.out.cell 1; have k2 := HY8.out.cell 2; have k3 := HY8.out.cell 3; have k4 := HY8.out.cell 4; have k5 := HY8.out.cell 5; have k6 := HY8.out.cell 6
      simp only [cellsOf, List.getElem?_cons_zero, List.getElem?_cons_succ] at e0 e1 e2 e3 e4 e5 e6 k0 k1 k2 k3 k4 k5 k6
      go_wp2_with fail
      refine (refsame_of W7.heap.size (.mk z lz) (.mk x ks) w8 HB8.out.size (HOZ.out.keep HB8.out) (HON.out.keep HB8.out)).mono ?_
      rintro e w9 ⟨rfl, hb9⟩
      rw [HAL.out.same.1]
      have HB9 := Lib.hid (HB8.out.trans (hb9.mono HB8.out.size))
      clear e0 e1 e2 e3 e4 e5 e6 k0 k1 k2 k3 k4 k5 k6 hb9 HX8 HY8 HB8
      have HX9 := Lib.hid (HX7.out.below HB9.out HX7.out.lt); have HY9 := Lib.hid (HY7.out.below HB9.out HY7.out.lt)
      have hg9 := HX9.out.lt; have hh9 := HY9.out.lt
      go_upto_region 9 with fail
      have HCELL : Hid (∀ W, Below w9.heap.size w9 W → W.cell? ⟨w3.heap.size, 0, none⟩ = some (vb x.kind) ∧ W.cell? ⟨w3.heap.size, 1, none⟩ = some (.slice x.na x.names.length x.nc) ∧ W.cell? ⟨w3.heap.size, 2, none⟩ = some (.slice x.ka ks.length x.kc) ∧ W.cell? ⟨w3.heap.size, 3, none⟩ = some (.slice x.da x.data.length x.dc) ∧ W.cell? ⟨w3.heap.size, 4, none⟩ = some (.bool x.run) ∧ W.cell? ⟨w3.heap.size, 5, none⟩ = some (.float .f64 x.stamp) ∧ W.cell? ⟨w3.heap.size, 6, none⟩ = some (vs x.target) ∧ W.cell? ⟨w6.heap.size, 0, none⟩ = some (vb z.kind) ∧ W.cell? ⟨w6.heap.size, 1, none⟩ = some (.slice z.na z.names.length z.nc) ∧ W.cell? ⟨w6.heap.size, 2, none⟩ = some (.slice z.ka lz.length z.kc) ∧ W.cell? ⟨w6.heap.size, 3, none⟩ = some (.slice z.da z.data.length z.dc) ∧ W.cell? ⟨w6.heap.size, 4, none⟩ = some (.bool z.run) ∧ W.cell? ⟨w6.heap.size, 5, none⟩ = some (.float .f64 z.stamp) ∧ W.cell? ⟨w6.heap.size, 6, none⟩ = some (vs z.target)) := fun W hW => by
        have h1 := HX9.out.below hW hg9
        have h2 := HY9.out.below hW hh9
        exact ⟨h1.cell 0, h1.cell 1, h1.cell 2, h1.cell 3, h1.cell 4, h1.cell 5, h1.cell 6, h2.cell 0, h2.cell 1, h2.cell 2, h2.cell 3, h2.cell 4, h2.cell 5, h2.cell 6⟩
      have C1 : Hid (∀ W, Below w9.heap.size w9 W → Calls Try.prog 30 #[nv z lz.length] W fun e w' => ∃ A1 c1, e = .returned (.slice A1 (stampsT (.mk x ks)).length c1) ∧ FlIs w' A1 ((stampsT (.mk x ks)).map canonB) ∧ Below w9.heap.size w9 w') := fun W hW => by
        have hW7 := HB9.out.trans (hW.mono HB9.out.size)
        refine (stamps_any z lz W7.heap.size W hW7.size (HOZ.out.keep hW7) (by rw [HAL.out.count]; have := HCT.out; omega)).mono ?_
        rintro e w' ⟨A1, c1, rfl, q1, -, q3⟩
        rw [HAL.out.stamps] at q1 ⊢
        exact ⟨A1, c1, by rw [List.length_map], q1, hW.trans (q3.mono hW.size)⟩
      have C2 : Hid (∀ W, Below w9.heap.size w9 W → Calls Try.prog 31 #[nv x ks.length] W fun e w' => ∃ A2 c2, e = .returned (.slice A2 (stampsT (.mk x ks)).length c2) ∧ FlIs w' A2 (stampsT (.mk x ks)) ∧ Below W.heap.size W w') := fun W hW => by
        have hW7 := HB9.out.trans (hW.mono HB9.out.size)
        refine (rstamps_any x ks W7.heap.size W hW7.size (HON.out.keep hW7) (by have := HCT.out; omega)).mono ?_
        rintro e w' ⟨A2, c2, rfl, q1, -, q3⟩
        exact ⟨A2, c2, rfl, q1, q3⟩
      have HSL : Hid ((stampsT (.mk x ks)).length ≤ 90000) := by
        have h1 : (stampsT (.mk x ks)).length ≤ count (.mk x ks) := stampsL_le _
        have := HCT.out; show _ ≤ _; omega
      generalize stampsT (.mk x ks) = st at *
      have H0 : Hid (Below w9.heap.size w9 w9.drew) := (Below.refl _ _).drew
      have k0 := HCELL.out _ H0.out
      go_region_held3 (fun W => W.cell? ⟨w3.heap.size, 0, none⟩ = some (vb x.kind) ∧ W.cell? ⟨w3.heap.size, 1, none⟩ = some (.slice x.na x.names.length x.nc) ∧ W.cell? ⟨w3.heap.size, 2, none⟩ = some (.slice x.ka ks.length x.kc) ∧ W.cell? ⟨w3.heap.size, 3, none⟩ = some (.slice x.da x.data.length x.dc) ∧ W.cell? ⟨w3.heap.size, 4, none⟩ = some (.bool x.run) ∧ W.cell? ⟨w3.heap.size, 5, none⟩ = some (.float .f64 x.stamp) ∧ W.cell? ⟨w3.heap.size, 6, none⟩ = some (vs x.target) ∧ W.cell? ⟨w6.heap.size, 0, none⟩ = some (vb z.kind) ∧ W.cell? ⟨w6.heap.size, 1, none⟩ = some (.slice z.na z.names.length z.nc) ∧ W.cell? ⟨w6.heap.size, 2, none⟩ = some (.slice z.ka lz.length z.kc) ∧ W.cell? ⟨w6.heap.size, 3, none⟩ = some (.slice z.da z.data.length z.dc) ∧ W.cell? ⟨w6.heap.size, 4, none⟩ = some (.bool z.run) ∧ W.cell? ⟨w6.heap.size, 5, none⟩ = some (.float .f64 z.stamp) ∧ W.cell? ⟨w6.heap.size, 6, none⟩ = some (vs z.target))
        (first | exact k0 | exact k1 | exact k2)
        (first
          | (go_at_call 30
             refine (C1.out _ H0.out).mono ?_
             rintro e w10 ⟨A1, c1, rfl, hf1, hb⟩
             have HF1 := Lib.hid hf1; have HH1 := Lib.hid hb; clear hf1 hb
             have k1 := HCELL.out _ HH1.out)
          | (go_at_call 31
             refine (C2.out _ HH1.out).mono ?_
             rintro e w11 ⟨A2, c2, rfl, hf2, hb⟩
             have HF2 := Lib.hid hf2; have HH2 := Lib.hid (HH1.out.trans (hb.mono HH1.out.size)); have HF1' := Lib.hid (HF1.out.below hb); clear hf2 hb
             have k2 := HCELL.out _ HH2.out))
      clear k0 k1 k2
      go_upto_region 12 with fail
      have HF1 := HF1'
      clear HF1'
      have HB11 := Lib.hid (HB9.out.trans (HH2.out.mono HB9.out.size))
      clear C1 C2 H0 HH1 HH2 HCELL HX9 HY9 HB9 hg9 hh9
      go_wp2_with fail
      go_loopw [9] (fun vi wr => ∃ i : Nat, i ≤ st.length ∧ vi = .int .i64 i ∧ Hid (Below w11.heap.size w11 wr)) (fun vi _ => st.length - (intOf vi).toNat)
      case atStart => exact ⟨0, Nat.zero_le _, rfl, Below.refl _ _⟩
      case round =>
        obtain ⟨i, hi, rfl, HP⟩ := hrel
        rename World => W0
        have hsl := HSL.out
        by_cases hlt : i < st.length
        · obtain ⟨b1, o1, rfl, hc1⟩ := HF1.out (by rw [List.length_map]; omega)
          obtain ⟨b2, o2, rfl, hc2⟩ := HF2.out (by omega)
          have q1 : w11.cell? ⟨b1, o1 + i, none⟩ = some (vf (canonB st[i])) := by
            have := hc1 i (by rw [List.length_map]; exact hlt)
            rw [List.getElem_map] at this; exact this
          have q2 := hc2 i hlt
          have HCE : Hid (∀ W, Below w11.heap.size w11 W → W.cell? ⟨b1, o1 + i, none⟩ = some (vf (canonB st[i])) ∧ W.cell? ⟨b2, o2 + i, none⟩ = some (vf st[i])) := fun W hW => ⟨by rw [hW.cell (p := ⟨b1, o1 + i, none⟩) (block_of_cell q1)]; exact q1, by rw [hW.cell (p := ⟨b2, o2 + i, none⟩) (block_of_cell q2)]; exact q2⟩
          have C3 := Lib.hid (refbits_any st[i])
          clear hc1 hc2 q1 q2
          generalize canonB st[i] = m at *
          generalize st[i] = s at *
          have H0 : Hid (Below w11.heap.size w11 W0.drew) := HP.out.drew
          have k0 := HCE.out _ H0.out
          go_upto_region 15 with fail
          go_region_held3 (fun W => W.cell? ⟨b1, o1 + i, none⟩ = some (vf m) ∧ W.cell? ⟨b2, o2 + i, none⟩ = some (vf s))
            (first | exact k0)
            (first
              | (go_at_call 33
                 refine (C3.out _).mono ?_
                 rintro e w12 ⟨rfl, rfl⟩))
          clear k0
          go_wp2_with fail
          go_roundw
          case rel => exact ⟨i + 1, by omega, by go_num, H0.out⟩
          case measure => simp [intOf]; omega
        · obtain rfl : i = st.length := by omega
          have HBN := Lib.hid (HB11.out.trans (HP.out.mono HB11.out.size))
          have HXN := Lib.hid (HX7.out.below HBN.out HX7.out.lt); have HYN := Lib.hid (HY7.out.below HBN.out HY7.out.lt)
          clear HP HF1 HF2 HB11 HSL hi hlt hsl
          have e0 := HXN.out.cell 0; have e1 := HXN.out.cell 1; have e2 := HXN.out.cell 2; have e3 := HXN.out.cell 3; have e4 := HXN.out.cell 4; have e5 := HXN.out.cell 5; have e6 := HXN.out.cell 6
          simp only [cellsOf, List.getElem?_cons_zero, List.getElem?_cons_succ] at e0 e1 e2 e3 e4 e5 e6
          go_wp2_with fail
          refine (treeCanon_any x ks W7.heap.size W0 HBN.out.size (HON.out.keep HBN.out) (by have := HCT.out; omega) HFEW.out HSZ.out).mono ?_
          rintro e w12 ⟨u, lu, rfl, hok12, hin12, hal12, hb12, -⟩
          have hb13 : Below w12.heap.size w12 (w12.alloc (.cells #[vb u.kind, .slice u.na u.names.length u.nc, .slice u.ka lu.length u.kc, .slice u.da u.data.length u.dc, .bool u.run, .float .f64 u.stamp, vs u.target] 27)) := (Below.refl _ _).alloc (Nat.le_refl _) _
          have HB13 := Lib.hid (hb12.trans (hb13.mono hb12.size))
          have HALU := Lib.hid hal12; have HINU := Lib.hid hin12
          have HOU := Lib.hid ((hok12.keep hb13).up hb13.size)
          have HXU := Lib.hid (HXN.out.below HB13.out HXN.out.lt); have HYU := Lib.hid (HYN.out.below HB13.out HYN.out.lt)
          have HU := Lib.hid (Blk.new w12 27 #[vb u.kind, .slice u.na u.names.length u.nc, .slice u.ka lu.length u.kc, .slice u.da u.data.length u.dc, .bool u.run, .float .f64 u.stamp, vs u.target])
          have HS12 := Lib.hid hb12.size
          clear e0 e1 e2 e3 e4 e5 e6 hok12 hal12 hin12 hb12 hb13
          go_upto_region 18 with fail
          generalize hW : w12.alloc (.cells #[vb u.kind, .slice u.na u.names.length u.nc, .slice u.ka lu.length u.kc, .slice u.da u.data.length u.dc, .bool u.run, .float .f64 u.stamp, vs u.target] 27) = W13 at *
          clear hW
          have HCIN : Hid (Cin W5.heap.size w6.heap.size W13 z lz.length W13) := Cin.start HOWN.out ((HB67.out.trans (HBN.out.mono HB67.out.size)).trans (HB13.out.mono (Nat.le_trans HB67.out.size HBN.out.size))) rfl
          have HDL : Hid (z.data.length ≤ 100000) := by have h1 := HAL.out; cases h1; have h2 := fits_data (right_fits HRX.out _ (all_self _)); show _ ≤ _; simp only [T.hd] at h2; simp only [*]; omega
          have HNL : Hid (z.names.length ≤ 100000) := by have h1 := HAL.out; cases h1; have h2 := HFEW.out _ (all_self _); show _ ≤ _; simp only [T.hd] at h2; simp only [*]
          have HNK2 : Hid (z.names.length ≤ lz.length) := by have h1 := HAL.out; cases h1; have h2 := HNK.out; show _ ≤ _; simp only [*]
          have HLK : Hid (lz.length ≤ 100000) := by have h1 := HAL.out; cases h1; have h2 := kids_le (x := x) (ks := ks); have := HCT.out; show _ ≤ _; simp only [*]; omega
          have HLE : Hid (w6.heap.size ≤ W0.heap.size) := Nat.le_trans HB67.out.size HBN.out.size
          have HBA : Hid (Below W5.heap.size W5 W13) := (HB7.out.trans (HBN.out.mono HB7.out.size)).trans (HB13.out.mono (Nat.le_trans HB7.out.size HBN.out.size))
          clear HYN HXN HBN HB67 HY7 HX7 HON HOZ HOWN HAL
          have HGO : Hid (∀ wr, Cin W5.heap.size w6.heap.size W13 z lz.length wr → Blk wr w6.heap.size 27 (cellsOf z lz.length)) := fun wr h => by
            have h1 := h.high w6.heap.size (Nat.le_refl _)
            unfold Blk at *; rw [h1]; exact HYU.out
          go_wp2_with fail
          go_loopw [11] (fun vi wr => ∃ i : Nat, i ≤ z.data.length ∧ vi = .int .i64 i ∧ Hid (Cin W5.heap.size w6.heap.size W13 z lz.length wr)) (fun vi _ => z.data.length - (intOf vi).toNat)
          case atStart => exact ⟨0, Nat.zero_le _, rfl, HCIN.out⟩
          case round =>
            obtain ⟨i, hi, rfl, HP⟩ := hrel
            rename World => W1
            have hbz := HGO.out _ HP.out
            have k3 := hbz.cell 3; have k1 := hbz.cell 1; have k2 := hbz.cell 2
            simp only [cellsOf, List.getElem?_cons_zero, List.getElem?_cons_succ] at k1 k2 k3
            have hdl : z.data.length ≤ 100000 := HDL.out
            have hnl : z.names.length ≤ 100000 := HNL.out
            clear hbz
            by_cases hlt : i < z.data.length
            · obtain ⟨g, cs, a1, a2, a3, a4, a5, a6⟩ := HP.out.ds (by omega)
              obtain ⟨bb, hbb⟩ := a6 i hlt
              have d1 := a4.cell i; have d2 := a4.frozen i; have d3 := a4.lt
              rw [hbb] at d1
              rw [a1] at k3
              have HA2 := Lib.hid a2; have HA3 := Lib.hid a3
              clear a2 a3 a4 a5 a6 hbb a1
              go_wp2_with fail
              go_roundw
              case rel => exact ⟨i + 1, by omega, by go_num, HP.out.set g i _ HA2.out HA3.out (fun _ _ => ⟨_, vb_inc bb⟩)⟩
              case measure => simp [intOf]; omega
            · obtain rfl : i = z.data.length := by omega
              clear hlt hi
              go_upto_region 22 with fail
              have HPP := HP
              clear HP HCIN
              clear k1 k2 k3
              go_wp2_with fail
              go_loopw [12] (fun vi wr => ∃ i : Nat, i ≤ z.names.length ∧ vi = .int .i64 i ∧ Hid (Cin W5.heap.size w6.heap.size W13 z lz.length wr)) (fun vi _ => z.names.length - (intOf vi).toNat)
              case atStart => exact ⟨0, Nat.zero_le _, rfl, HPP.out⟩
              case round =>
                obtain ⟨i, hi, rfl, HP⟩ := hrel
                rename World => W2
                have hbz := HGO.out _ HP.out
                have k1 := hbz.cell 1; have k2 := hbz.cell 2
                simp only [cellsOf, List.getElem?_cons_zero, List.getElem?_cons_succ] at k1 k2
                have hlz := hbz.lt
                by_cases hlt : i < z.names.length
                · have hlk : i < lz.length := by have := HNK2.out; omega
                  obtain ⟨g, cs, a1, a2, a3, a4, a5⟩ := HP.out.ns (by omega)
                  have d1 := a4.cell i; have d2 := a4.frozen i; have d3 := a4.lt
                  obtain ⟨v0, hv0⟩ : ∃ v0, cs[i]? = some v0 := ⟨_, List.getElem?_eq_getElem (show i < cs.length by omega)⟩
                  rw [hv0] at d1
                  clear hv0
                  rw [a1] at k1
                  have HP1 : Hid (Cin W5.heap.size w6.heap.size W13 z lz.length (W2.setCell ⟨g, i, none⟩ (.string ⟨#[47]⟩))) := HP.out.set g i _ a2 a3 (fun ds hd => by have := blk_type a4 hd; cases this)
                  clear a2 a3 a4 a5 a1 hbz
                  go_upto_region 26 with fail
                  clear k1 k2 d1 d2 d3 hlz HP
                  generalize W2.setCell ⟨g, i, none⟩ (.string ⟨#[47]⟩) = W3 at *
                  have hbz := HGO.out _ HP1.out
                  have k2 := hbz.cell 2
                  simp only [cellsOf, List.getElem?_cons_zero, List.getElem?_cons_succ] at k2
                  have h0 : 0 < lz.length := by omega
                  obtain ⟨gk, ck, a1, a2, a3, a4, a5⟩ := HP1.out.ks h0
                  obtain ⟨v0, hv0⟩ : ∃ v, ck[i * 7]? = some v := ⟨_, List.getElem?_eq_getElem (show i * 7 < ck.length by omega)⟩
                  have d0 := a4.cell (i * 7); have f0 := a4.frozen (i * 7); rw [hv0] at d0; clear hv0
                  obtain ⟨v1, hv1⟩ : ∃ v, ck[i * 7 + 1]? = some v := ⟨_, List.getElem?_eq_getElem (show i * 7 + 1 < ck.length by omega)⟩
                  have d1 := a4.cell (i * 7 + 1); have f1 := a4.frozen (i * 7 + 1); rw [hv1] at d1; clear hv1
                  obtain ⟨v2, hv2⟩ : ∃ v, ck[i * 7 + 2]? = some v := ⟨_, List.getElem?_eq_getElem (show i * 7 + 2 < ck.length by omega)⟩
                  have d2 := a4.cell (i * 7 + 2); have f2 := a4.frozen (i * 7 + 2); rw [hv2] at d2; clear hv2
                  obtain ⟨v3, hv3⟩ : ∃ v, ck[i * 7 + 3]? = some v := ⟨_, List.getElem?_eq_getElem (show i * 7 + 3 < ck.length by omega)⟩
                  have d3 := a4.cell (i * 7 + 3); have f3 := a4.frozen (i * 7 + 3); rw [hv3] at d3; clear hv3
                  obtain ⟨v4, hv4⟩ : ∃ v, ck[i * 7 + 4]? = some v := ⟨_, List.getElem?_eq_getElem (show i * 7 + 4 < ck.length by omega)⟩
                  have d4 := a4.cell (i * 7 + 4); have f4 := a4.frozen (i * 7 + 4); rw [hv4] at d4; clear hv4
                  obtain ⟨v5, hv5⟩ : ∃ v, ck[i * 7 + 5]? = some v := ⟨_, List.getElem?_eq_getElem (show i * 7 + 5 < ck.length by omega)⟩
                  have d5 := a4.cell (i * 7 + 5); have f5 := a4.frozen (i * 7 + 5); rw [hv5] at d5; clear hv5
                  obtain ⟨v6, hv6⟩ : ∃ v, ck[i * 7 + 6]? = some v := ⟨_, List.getElem?_eq_getElem (show i * 7 + 6 < ck.length by omega)⟩
                  have d6 := a4.cell (i * 7 + 6); have f6 := a4.frozen (i * 7 + 6); rw [hv6] at d6; clear hv6
                  have hgk := a4.lt
                  have HP2 : Hid (Cin W5.heap.size w6.heap.size W13 z lz.length (((((((W3.setCell ⟨gk, i * 7, none⟩ (.int .u8 0)).setCell ⟨gk, i * 7 + 1, none⟩ (.slice none 0 0)).setCell ⟨gk, i * 7 + 2, none⟩ (.slice none 0 0)).setCell ⟨gk, i * 7 + 3, none⟩ (.slice none 0 0)).setCell ⟨gk, i * 7 + 4, none⟩ (.bool false)).setCell ⟨gk, i * 7 + 5, none⟩ (.float .f64 0)).setCell ⟨gk, i * 7 + 6, none⟩ (.string ⟨#[]⟩))) := (((((((HP1.out.setK h0 a1 (i * 7) _).setK h0 a1 (i * 7 + 1) _).setK h0 a1 (i * 7 + 2) _).setK h0 a1 (i * 7 + 3) _).setK h0 a1 (i * 7 + 4) _).setK h0 a1 (i * 7 + 5) _).setK h0 a1 (i * 7 + 6) _)
                  rw [a1] at k2
                  have hlkz : lz.length ≤ 100000 := HLK.out
                  clear a2 a3 a4 a5 a1 hbz
                  go_wp2_with fail
                  go_roundw
                  case rel => exact ⟨i + 1, by omega, by go_num, HP2.out⟩
                  case measure => simp [intOf]; omega
                · obtain rfl : i = z.names.length := by omega
                  clear hlt hi k2 hbz
                  have HBE := Lib.hid (HBA.out.trans HP.out.below)
                  have HXE := Lib.hid (HXU.out.below HP.out.below hgl)
                  have HUE : Hid (Blk W2 w12.heap.size 27 (cellsOf u lu.length)) := by
                    have h1 := HP.out.high w12.heap.size (Nat.le_trans HLE.out HS12.out)
                    show Blk _ _ _ _
                    unfold Blk; rw [h1]; exact HU.out
                  have HOX := Lib.hid ((HO.out.keep HBE.out).up HBE.out.size)
                  have HOUE : Hid (Ok W2 W2.heap.size (.mk u lu)) := HOU.out.turn HINU.out (fun c hc _ => HP.out.high c (Nat.le_trans HLE.out hc)) (fun c _ hl => by rw [HP.out.size]; exact hl)
                  clear HP HPP HGO HXU HU HYU HBA
                  go_upto_region 27 with fail
                  clear k1
                  have e0 := HXE.out.cell 0; have e1 := HXE.out.cell 1; have e2 := HXE.out.cell 2; have e3 := HXE.out.cell 3; have e4 := HXE.out.cell 4; have e5 := HXE.out.cell 5; have e6 := HXE.out.cell 6
                  have k0 := HUE.out.cell 0; have k1 := HUE.out.cell 1; have k2 := HUE.out.cell 2; have k3 := HUE.out.cell 3; have k4 := HUE.out.cell 4; have k5 := HUE.out.cell 5; have k6 := HUE.out.cell 6
                  simp only [cellsOf, List.getElem?_cons_zero, List.getElem?_cons_succ] at e0 e1 e2 e3 e4 e5 e6 k0 k1 k2 k3 k4 k5 k6
                  go_wp2_with fail
                  refine (same_of W2.heap.size (.mk x ks) (.mk u lu) W2 (Nat.le_refl _) HOX.out HOUE.out).mono ?_
                  rintro e w20 ⟨rfl, hb20⟩
                  rw [HALU.out.same.2]
                  have HB20 := Lib.hid hb20
                  clear e0 e1 e2 e3 e4 e5 e6 k0 k1 k2 k3 k4 k5 k6 hb20
                  go_wp2_with fail
                  go_ret
                  exact ⟨rfl, HB5.out.trans ((HBE.out.trans (HB20.out.mono HBE.out.size)).mono HB5.out.size)⟩

end Go.Proofs.Ytlehgacbcacokaa
