/- The walk of RowsPlays. -/
import Derived.Test.YtkmjknehbaofcaaR21
namespace Go.Proofs.Ytkmjknehbaofcaa
open Go.RowKit Go.Maps Go.WideShapes Go.MapKept Go.WideMaps Go.ChangeMaps BaseMath WireMath NameMath ScanMath
set_option maxHeartbeats 8000000 in
set_option maxRecDepth 100000 in
theorem plays_walk (B : Option Addr) (cb : Nat) (acts : List Ac) (near : Bool) (w : World) (hm : acts.length ≤ maxLen) (hB : AcsIs w B acts) :
    Calls Try.prog 3 #[.slice B acts.length cb, .bool near] w fun e w' => e = .returned (.bool true) ∧ Below w.heap.size w w' := by
  unfold maxLen at hm
  have HBm := Lib.hid hB; clear hB
  by_cases h40 : acts.length ≤ 100
  · have h40' : ¬ (100 : Int) < acts.length := by omega
    have h40'' : decide ((100 : Int) < acts.length) = false := decide_eq_false h40'
    go_enter Try.func3, Try.ntmps3
    go_wp2_with fail
    refine (undone_once w w (Below.refl _ _)).mono ?_
    rintro e w1 ⟨rfl, hb1⟩
    have HB1 := Lib.hid hb1; clear hb1
    go_wp2_with fail
    refine (new_any w1).mono ?_
    rintro e w2 ⟨tb, rfl, h2, hb2⟩
    have hbase : w.heap.size ≤ w1.heap.size := HB1.out.size
    have hal : Below w2.heap.size w2 (w2.alloc (.cells #[ns, ns] 29)) := (Below.refl _ _).alloc (Nat.le_refl _) _
    obtain ⟨bm, hbmE⟩ : ∃ bm, w2.heap.size = bm := ⟨_, rfl⟩
    have hbm : w1.heap.size ≤ bm := by rw [← hbmE]; exact hb2.size
    have HX0 : Hid (PR w1 bm tb 0 (w2.alloc (.cells #[ns, ns] 29))) := ⟨_, [], 0, [], [], none, 0, none, 0, Says.start, h2.below hal, Nat.le_refl _, Nat.le_refl _, (fun x hx => by cases hx), Nat.le_refl _, by rw [← hbmE]; exact Blk.new w2 29 _, RT.nil _, hb2.trans (hal.mono hb2.size)⟩
    clear h2 hb2 hal
    go_upto_region 5 with fail
    try rw [hbmE]
    clear hbmE
    generalize w2.alloc (.cells #[ns, ns] 29) = w2' at *
    go_wp2_with fail
    go_loopw [7] (fun vi wr => ∃ i : Nat, i ≤ acts.length ∧ vi = .int .i64 i ∧ Hid (PR w1 bm tb i wr)) (fun vi _ => acts.length - (intOf vi).toNat)
    case atStart => exact ⟨0, Nat.zero_le _, rfl, HX0.out⟩
    case round =>
      clear HX0
      obtain ⟨i, hi, rfl, HR⟩ := hrel
      rename World => W0
      have HBW : Hid (Below w.heap.size w W0) := by obtain ⟨D, J, n, l, was, A, c, WA, wc, -, -, -, -, -, -, -, -, h9⟩ := HR.out; exact HB1.out.trans (h9.mono hbase)
      by_cases hlt : i < acts.length
      · have hlt' : (i : Int) < (acts.length : Int) := by omega
        have hi0 : (0 : Int) ≤ (i : Int) := by omega
        obtain ⟨b, o, hBe, hc⟩ := HBm.out (by omega)
        have hc0 := hc i hlt 0 _ rfl
        have HCX : Hid (∀ W, Below w.heap.size w W → W.cell? ⟨b, o + i * 3, none⟩ = some (vb acts[i].d) ∧ W.cell? ⟨b, o + i * 3 + 1, none⟩ = some (vs acts[i].k) ∧ W.cell? ⟨b, o + i * 3 + 2, none⟩ = some (.int .i64 acts[i].v)) := fun W hW => by
          have hl : b < w.heap.size := block_of_cell hc0
          have hh : ∀ q, W.cell? ⟨b, q, none⟩ = w.cell? ⟨b, q, none⟩ := fun q => hW.cell (p := ⟨b, q, none⟩) hl
          rw [hh, hh, hh]
          exact ⟨hc i hlt 0 _ rfl, hc i hlt 1 _ rfl, hc i hlt 2 _ rfl⟩
        have HKF := Lib.hid acts[i].hk; have HVF := Lib.hid acts[i].hv
        generalize acts[i].d = ad at *
        generalize acts[i].k = ak at *
        generalize acts[i].v = av at *
        subst hBe
        clear hc hc0
        obtain ⟨x0, x1, x2⟩ := HCX.out W0 HBW.out
        go_wp2_with fail
        clear x0 x1 x2
        refine (key_all ad ak av near W0 HKF.out).mono ?_
        rintro e w3 ⟨⟨s, hs, rfl⟩, hb3⟩
        have HSL := Lib.hid hs
        have HP3 := Lib.hid (HR.out.below hb3)
        have HBW3 : Hid (Below w.heap.size w w3) := HBW.out.trans (hb3.mono HBW.out.size)
        clear hb3 HR hs HBW
        obtain ⟨x0, x1, x2⟩ := HCX.out w3 HBW3.out
        have hd8 : (ad.toNat : Int) % 8 = 0 ∨ (ad.toNat : Int) % 8 = 1 ∨ (ad.toNat : Int) % 8 = 2 ∨ (ad.toNat : Int) % 8 = 3 ∨ (ad.toNat : Int) % 8 = 4 ∨ (ad.toNat : Int) % 8 = 5 ∨ (ad.toNat : Int) % 8 = 6 ∨ (ad.toNat : Int) % 8 = 7 := by omega
        go_upto_block 2 with (fail)
        go_cut [9, 10, 11] from 25 to 141 (fun _ _ _ wx => Hid (PR w1 bm tb (i + 1) wx))
        case first =>
          obtain ⟨D, J, n, l, was, A, c, WA, wc, hS, hT, hJ, hl, hwl, hn, hbx, hrt, hBe⟩ := HP3.out
          have hwn : was.length ≤ i := by rw [hS.len]; exact hJ
          have HSA := Lib.hid hS; have HT := Lib.hid hT; have HWL := Lib.hid hwl; have HBX := Lib.hid hbx; have HRT := Lib.hid hrt; have HBE := Lib.hid hBe; have HLL := Lib.hid hl
          have r0 := hbx.cell 0; have r1 := hbx.cell 1
          simp only [List.getElem?_cons_zero, List.getElem?_cons_succ] at r0 r1
          clear hS hT hwl hbx hrt hBe HP3
          rcases hd8 with hd | hd | hd | hd | hd | hd | hd | hd
          · have HSET := Lib.hid (set_any HT.out s HSL.out av HVF.out (by omega) (by omega))
            have HSY := Lib.hid (HSA.out.set s HSL.out av HVF.out)
            go_wp2_with fail
            refine HSET.out.mono ?_
            rintro e w4 ⟨rfl, hT4, hs4⟩
            have hbx4 := blk_step HBX.out hs4
            have hrt4 := HRT.out.kept (Kept2.of_step hs4)
            have hB4 : Below w1.heap.size w1 w4 := HBE.out.trans hs4.below
            have HT4 : Hid (Tab w1.heap.size w4.drew tb (D.put (kl s) (.lit (.int .i64 av))) (J ++ [⟨s, numD D s, hasD D s, HSL.out, numD_wf D s⟩]) (n + 1)) := hT4.below ((Below.refl _ _).drew)
            have HBX4 : Hid (Blk w4.drew bm 29 [.slice A l.length c, .slice WA was.length wc]) := hbx4
            have HRT4 : Hid (RT w4.drew (.agg #[.slice A l.length c, .slice WA was.length wc]) l was) := hrt4.kept (Kept2.of_below ((Below.refl _ _).drew))
            have HB4 : Hid (Below w1.heap.size w1 w4.drew) := hB4.drew
            have q0 : w4.drew.cell? ⟨bm, 0, none⟩ = some (.slice A l.length c) ∧ w4.drew.cell? ⟨bm, 1, none⟩ = some (.slice WA was.length wc) ∧ w4.drew.cell? ⟨b, o + i * 3 + 2, none⟩ = some (.int .i64 av) := ⟨HBX4.out.cell 0, HBX4.out.cell 1, (HCX.out w4.drew (HB1.out.trans (HB4.out.mono hbase))).2.2⟩
            have z2 := (HCX.out w4 (HB1.out.trans (hB4.mono hbase))).2.2
            have z0 : w4.cell? ⟨bm, 0, none⟩ = some (.slice A l.length c) := hbx4.cell 0
            clear hT4 hs4 hbx4 hrt4 hB4 HSET
            go_upto_region 17 with fail
            clear z2 z0
            refine Late.region_X (fun W' => W'.cell? ⟨bm, 0, none⟩ = some (.slice A l.length c) ∧ W'.cell? ⟨bm, 1, none⟩ = some (.slice WA was.length wc) ∧ W'.cell? ⟨b, o + i * 3 + 2, none⟩ = some (.int .i64 av)) [8] (by kernel_rfl) ?_
            generalize w4.drew = W5 at *
            refine Late.take_X (f := 15) (i := 0) (v := ?_) rfl (by kernel_rfl) (by kernel_rfl) (by kernel_rfl) (by kernel_rfl) (by kernel_rfl) (fun _ _ _ h => h) (by rfl) ?_ q0 ?_
            rotate_left
            · intro w hw
              obtain ⟨s1, s2, s3⟩ := hw
              go_simp
              with_reducible rfl
            refine Late.take_X (f := 15) (i := 1) (v := ?_) rfl (by kernel_rfl) (by kernel_rfl) (by kernel_rfl) (by kernel_rfl) (by kernel_rfl) (fun _ _ _ h => h) (by rfl) ?_ q0 ?_
            rotate_left
            · intro w hw
              obtain ⟨s1, s2, s3⟩ := hw
              go_simp
              with_reducible rfl
            refine Late.take_X (f := 15) (i := 2) (v := ?_) rfl (by kernel_rfl) (by kernel_rfl) (by kernel_rfl) (by kernel_rfl) (by kernel_rfl) (fun _ _ _ h => h) (by rfl) ?_ q0 ?_
            rotate_left
            · intro w hw
              obtain ⟨s1, s2, s3⟩ := hw
              go_simp
              with_reducible rfl
            refine Late.take_X (f := 15) (i := 3) (v := ?_) rfl (by kernel_rfl) (by kernel_rfl) (by kernel_rfl) (by kernel_rfl) (by kernel_rfl) (fun _ _ _ h => h) (by rfl) ?_ q0 ?_
            rotate_left
            · intro w hw
              obtain ⟨s1, s2, s3⟩ := hw
              go_simp
              with_reducible rfl
            refine Late.take_X (f := 15) (i := 4) (v := ?_) rfl (by kernel_rfl) (by kernel_rfl) (by kernel_rfl) (by kernel_rfl) (by kernel_rfl) (fun _ _ _ h => h) (by rfl) ?_ q0 ?_
            rotate_left
            · intro w hw
              obtain ⟨s1, s2, s3⟩ := hw
              go_simp
              with_reducible rfl
            refine Late.take_X (f := 15) (i := 5) (v := ?_) rfl (by kernel_rfl) (by kernel_rfl) (by kernel_rfl) (by kernel_rfl) (by kernel_rfl) (fun _ _ _ h => h) (by rfl) ?_ q0 ?_
            rotate_left
            · intro w hw
              obtain ⟨s1, s2, s3⟩ := hw
              go_simp
              with_reducible rfl
            refine Late.take_X (f := 15) (i := 6) (v := ?_) rfl (by kernel_rfl) (by kernel_rfl) (by kernel_rfl) (by kernel_rfl) (by kernel_rfl) (fun _ _ _ h => h) (by rfl) ?_ q0 ?_
            rotate_left
            · intro w hw
              obtain ⟨s1, s2, s3⟩ := hw
              go_simp
              with_reducible rfl
            refine Late.ready_X (rs := [7]) (by kernel_rfl) (by simp) ?_
            refine Late.AllX.cons rfl (fun K' hK => ?_) Late.AllX.nil
            go_simp
            refine (rset_any _ l was s av W5 HRT4.out (by omega) (by omega)).mono ?_
            rintro e w6 ⟨⟨v6, rfl, hrt6⟩, hb6⟩
            obtain ⟨A6, c6, WA6, wc6, rfl, hi6, hw6⟩ := hrt6
            have HT6 := Lib.hid (HT4.out.below hb6)
            have HBX6 := Lib.hid (HBX4.out.below hb6 (Blk.lt HBX4.out))
            have HB6 : Hid (Below w1.heap.size w1 w6) := HB4.out.trans (hb6.mono HB4.out.size)
            have q6 : w6.cell? ⟨bm, 0, none⟩ = some (.slice A l.length c) ∧ w6.cell? ⟨bm, 1, none⟩ = some (.slice WA was.length wc) ∧ w6.cell? ⟨b, o + i * 3 + 2, none⟩ = some (.int .i64 av) := ⟨HBX6.out.cell 0, HBX6.out.cell 1, (HCX.out w6 (HB1.out.trans (HB6.out.mono hbase))).2.2⟩
            have HFI : Hid (PR w1 bm tb (i + 1) ((w6.setCell ⟨bm, 0, none⟩ (.slice A6 (withoutR l s ++ [(s, av)]).length c6)).setCell ⟨bm, 1, none⟩ (.slice WA6 (was ++ [l]).length wc6))) :=
              PR.put hbm HSY.out HT6.out (by simp; omega) (by have := without_len l s; simp; omega) (was_more HWL.out (by omega)) (by omega) HBX6.out hi6 hw6.1 hw6.2 HB6.out
            rw [show (was ++ [l]).length = was.length + 1 by simp, show (withoutR l s ++ [(s, av)]).length = (withoutR l s).length + 1 by simp] at HFI
            have g0 := HBX6.out.frozen 0; have g1 := HBX6.out.frozen 1
            have r0 := q6.1; have r1 := q6.2.1
            clear hb6 hi6 hw6 q0 HT4 HBX4 HRT4 HB4
            go_simp
            refine hK.out _ _ (fun _ => q6) ?_
            refine Late.ready_X (rs := [8]) (by kernel_rfl) (by simp) ?_
            refine Late.AllX.cons rfl (fun K' hK => ?_) Late.AllX.nil
            go_simp
            refine hK.out _ _ (fun h => absurd (by simp) h) ?_
            refine Late.done_X (by kernel_rfl) ?_ _
            try (simp only [])
            clear q6 g0 g1 r0 r1
            go_wp2_with fail
            go_meet
            exact HFI.out
          · have HSET := Lib.hid (set_any HT.out s HSL.out av HVF.out (by omega) (by omega))
            have HSY := Lib.hid (HSA.out.set s HSL.out av HVF.out)
            go_wp2_with fail
            refine HSET.out.mono ?_
            rintro e w4 ⟨rfl, hT4, hs4⟩
            have hbx4 := blk_step HBX.out hs4
            have hrt4 := HRT.out.kept (Kept2.of_step hs4)
            have hB4 : Below w1.heap.size w1 w4 := HBE.out.trans hs4.below
            have HT4 : Hid (Tab w1.heap.size w4.drew tb (D.put (kl s) (.lit (.int .i64 av))) (J ++ [⟨s, numD D s, hasD D s, HSL.out, numD_wf D s⟩]) (n + 1)) := hT4.below ((Below.refl _ _).drew)
            have HBX4 : Hid (Blk w4.drew bm 29 [.slice A l.length c, .slice WA was.length wc]) := hbx4
            have HRT4 : Hid (RT w4.drew (.agg #[.slice A l.length c, .slice WA was.length wc]) l was) := hrt4.kept (Kept2.of_below ((Below.refl _ _).drew))
            have HB4 : Hid (Below w1.heap.size w1 w4.drew) := hB4.drew
            have q0 : w4.drew.cell? ⟨bm, 0, none⟩ = some (.slice A l.length c) ∧ w4.drew.cell? ⟨bm, 1, none⟩ = some (.slice WA was.length wc) ∧ w4.drew.cell? ⟨b, o + i * 3 + 2, none⟩ = some (.int .i64 av) := ⟨HBX4.out.cell 0, HBX4.out.cell 1, (HCX.out w4.drew (HB1.out.trans (HB4.out.mono hbase))).2.2⟩
            have z2 := (HCX.out w4 (HB1.out.trans (hB4.mono hbase))).2.2
            have z0 : w4.cell? ⟨bm, 0, none⟩ = some (.slice A l.length c) := hbx4.cell 0
            clear hT4 hs4 hbx4 hrt4 hB4 HSET
            go_upto_region 17 with fail
            clear z2 z0
            refine Late.region_X (fun W' => W'.cell? ⟨bm, 0, none⟩ = some (.slice A l.length c) ∧ W'.cell? ⟨bm, 1, none⟩ = some (.slice WA was.length wc) ∧ W'.cell? ⟨b, o + i * 3 + 2, none⟩ = some (.int .i64 av)) [8] (by kernel_rfl) ?_
            generalize w4.drew = W5 at *
            refine Late.take_X (f := 15) (i := 0) (v := ?_) rfl (by kernel_rfl) (by kernel_rfl) (by kernel_rfl) (by kernel_rfl) (by kernel_rfl) (fun _ _ _ h => h) (by rfl) ?_ q0 ?_
            rotate_left
            · intro w hw
              obtain ⟨s1, s2, s3⟩ := hw
              go_simp
              with_reducible rfl
            refine Late.take_X (f := 15) (i := 1) (v := ?_) rfl (by kernel_rfl) (by kernel_rfl) (by kernel_rfl) (by kernel_rfl) (by kernel_rfl) (fun _ _ _ h => h) (by rfl) ?_ q0 ?_
            rotate_left
            · intro w hw
              obtain ⟨s1, s2, s3⟩ := hw
              go_simp
              with_reducible rfl
            refine Late.take_X (f := 15) (i := 2) (v := ?_) rfl (by kernel_rfl) (by kernel_rfl) (by kernel_rfl) (by kernel_rfl) (by kernel_rfl) (fun _ _ _ h => h) (by rfl) ?_ q0 ?_
            rotate_left
            · intro w hw
              obtain ⟨s1, s2, s3⟩ := hw
              go_simp
              with_reducible rfl
            refine Late.take_X (f := 15) (i := 3) (v := ?_) rfl (by kernel_rfl) (by kernel_rfl) (by kernel_rfl) (by kernel_rfl) (by kernel_rfl) (fun _ _ _ h => h) (by rfl) ?_ q0 ?_
            rotate_left
            · intro w hw
              obtain ⟨s1, s2, s3⟩ := hw
              go_simp
              with_reducible rfl
            refine Late.take_X (f := 15) (i := 4) (v := ?_) rfl (by kernel_rfl) (by kernel_rfl) (by kernel_rfl) (by kernel_rfl) (by kernel_rfl) (fun _ _ _ h => h) (by rfl) ?_ q0 ?_
            rotate_left
            · intro w hw
              obtain ⟨s1, s2, s3⟩ := hw
              go_simp
              with_reducible rfl
            refine Late.take_X (f := 15) (i := 5) (v := ?_) rfl (by kernel_rfl) (by kernel_rfl) (by kernel_rfl) (by kernel_rfl) (by kernel_rfl) (fun _ _ _ h => h) (by rfl) ?_ q0 ?_
            rotate_left
            · intro w hw
              obtain ⟨s1, s2, s3⟩ := hw
              go_simp
              with_reducible rfl
            refine Late.take_X (f := 15) (i := 6) (v := ?_) rfl (by kernel_rfl) (by kernel_rfl) (by kernel_rfl) (by kernel_rfl) (by kernel_rfl) (fun _ _ _ h => h) (by rfl) ?_ q0 ?_
            rotate_left
            · intro w hw
              obtain ⟨s1, s2, s3⟩ := hw
              go_simp
              with_reducible rfl
            refine Late.ready_X (rs := [7]) (by kernel_rfl) (by simp) ?_
            refine Late.AllX.cons rfl (fun K' hK => ?_) Late.AllX.nil
            go_simp
            refine (rset_any _ l was s av W5 HRT4.out (by omega) (by omega)).mono ?_
            rintro e w6 ⟨⟨v6, rfl, hrt6⟩, hb6⟩
            obtain ⟨A6, c6, WA6, wc6, rfl, hi6, hw6⟩ := hrt6
            have HT6 := Lib.hid (HT4.out.below hb6)
            have HBX6 := Lib.hid (HBX4.out.below hb6 (Blk.lt HBX4.out))
            have HB6 : Hid (Below w1.heap.size w1 w6) := HB4.out.trans (hb6.mono HB4.out.size)
            have q6 : w6.cell? ⟨bm, 0, none⟩ = some (.slice A l.length c) ∧ w6.cell? ⟨bm, 1, none⟩ = some (.slice WA was.length wc) ∧ w6.cell? ⟨b, o + i * 3 + 2, none⟩ = some (.int .i64 av) := ⟨HBX6.out.cell 0, HBX6.out.cell 1, (HCX.out w6 (HB1.out.trans (HB6.out.mono hbase))).2.2⟩
            have HFI : Hid (PR w1 bm tb (i + 1) ((w6.setCell ⟨bm, 0, none⟩ (.slice A6 (withoutR l s ++ [(s, av)]).length c6)).setCell ⟨bm, 1, none⟩ (.slice WA6 (was ++ [l]).length wc6))) :=
              PR.put hbm HSY.out HT6.out (by simp; omega) (by have := without_len l s; simp; omega) (was_more HWL.out (by omega)) (by omega) HBX6.out hi6 hw6.1 hw6.2 HB6.out
            rw [show (was ++ [l]).length = was.length + 1 by simp, show (withoutR l s ++ [(s, av)]).length = (withoutR l s).length + 1 by simp] at HFI
            have g0 := HBX6.out.frozen 0; have g1 := HBX6.out.frozen 1
            have r0 := q6.1; have r1 := q6.2.1
            clear hb6 hi6 hw6 q0 HT4 HBX4 HRT4 HB4
            go_simp
            refine hK.out _ _ (fun _ => q6) ?_
            refine Late.ready_X (rs := [8]) (by kernel_rfl) (by simp) ?_
            refine Late.AllX.cons rfl (fun K' hK => ?_) Late.AllX.nil
            go_simp
            refine hK.out _ _ (fun h => absurd (by simp) h) ?_
            refine Late.done_X (by kernel_rfl) ?_ _
            try (simp only [])
            clear q6 g0 g1 r0 r1
            go_wp2_with fail
            go_meet
            exact HFI.out
          · have HSET := Lib.hid (set_any HT.out s HSL.out av HVF.out (by omega) (by omega))
            have HSY := Lib.hid (HSA.out.set s HSL.out av HVF.out)
            go_wp2_with fail
            refine HSET.out.mono ?_
            rintro e w4 ⟨rfl, hT4, hs4⟩
            have hbx4 := blk_step HBX.out hs4
            have hrt4 := HRT.out.kept (Kept2.of_step hs4)
            have hB4 : Below w1.heap.size w1 w4 := HBE.out.trans hs4.below
            have HT4 : Hid (Tab w1.heap.size w4.drew tb (D.put (kl s) (.lit (.int .i64 av))) (J ++ [⟨s, numD D s, hasD D s, HSL.out, numD_wf D s⟩]) (n + 1)) := hT4.below ((Below.refl _ _).drew)
            have HBX4 : Hid (Blk w4.drew bm 29 [.slice A l.length c, .slice WA was.length wc]) := hbx4
            have HRT4 : Hid (RT w4.drew (.agg #[.slice A l.length c, .slice WA was.length wc]) l was) := hrt4.kept (Kept2.of_below ((Below.refl _ _).drew))
            have HB4 : Hid (Below w1.heap.size w1 w4.drew) := hB4.drew
            have q0 : w4.drew.cell? ⟨bm, 0, none⟩ = some (.slice A l.length c) ∧ w4.drew.cell? ⟨bm, 1, none⟩ = some (.slice WA was.length wc) ∧ w4.drew.cell? ⟨b, o + i * 3 + 2, none⟩ = some (.int .i64 av) := ⟨HBX4.out.cell 0, HBX4.out.cell 1, (HCX.out w4.drew (HB1.out.trans (HB4.out.mono hbase))).2.2⟩
            have z2 := (HCX.out w4 (HB1.out.trans (hB4.mono hbase))).2.2
            have z0 : w4.cell? ⟨bm, 0, none⟩ = some (.slice A l.length c) := hbx4.cell 0
            clear hT4 hs4 hbx4 hrt4 hB4 HSET
            go_upto_region 17 with fail
            clear z2 z0
            refine Late.region_X (fun W' => W'.cell? ⟨bm, 0, none⟩ = some (.slice A l.length c) ∧ W'.cell? ⟨bm, 1, none⟩ = some (.slice WA was.length wc) ∧ W'.cell? ⟨b, o + i * 3 + 2, none⟩ = some (.int .i64 av)) [8] (by kernel_rfl) ?_
            generalize w4.drew = W5 at *
            refine Late.take_X (f := 15) (i := 0) (v := ?_) rfl (by kernel_rfl) (by kernel_rfl) (by kernel_rfl) (by kernel_rfl) (by kernel_rfl) (fun _ _ _ h => h) (by rfl) ?_ q0 ?_
            rotate_left
            · intro w hw
              obtain ⟨s1, s2, s3⟩ := hw
              go_simp
              with_reducible rfl
            refine Late.take_X (f := 15) (i := 1) (v := ?_) rfl (by kernel_rfl) (by kernel_rfl) (by kernel_rfl) (by kernel_rfl) (by kernel_rfl) (fun _ _ _ h => h) (by rfl) ?_ q0 ?_
            rotate_left
            · intro w hw
              obtain ⟨s1, s2, s3⟩ := hw
              go_simp
              with_reducible rfl
            refine Late.take_X (f := 15) (i := 2) (v := ?_) rfl (by kernel_rfl) (by kernel_rfl) (by kernel_rfl) (by kernel_rfl) (by kernel_rfl) (fun _ _ _ h => h) (by rfl) ?_ q0 ?_
            rotate_left
            · intro w hw
              obtain ⟨s1, s2, s3⟩ := hw
              go_simp
              with_reducible rfl
            refine Late.take_X (f := 15) (i := 3) (v := ?_) rfl (by kernel_rfl) (by kernel_rfl) (by kernel_rfl) (by kernel_rfl) (by kernel_rfl) (fun _ _ _ h => h) (by rfl) ?_ q0 ?_
            rotate_left
            · intro w hw
              obtain ⟨s1, s2, s3⟩ := hw
              go_simp
              with_reducible rfl
            refine Late.take_X (f := 15) (i := 4) (v := ?_) rfl (by kernel_rfl) (by kernel_rfl) (by kernel_rfl) (by kernel_rfl) (by kernel_rfl) (fun _ _ _ h => h) (by rfl) ?_ q0 ?_
            rotate_left
            · intro w hw
              obtain ⟨s1, s2, s3⟩ := hw
              go_simp
              with_reducible rfl
            refine Late.take_X (f := 15) (i := 5) (v := ?_) rfl (by kernel_rfl) (by kernel_rfl) (by kernel_rfl) (by kernel_rfl) (by kernel_rfl) (fun _ _ _ h => h) (by rfl) ?_ q0 ?_
            rotate_left
            · intro w hw
              obtain ⟨s1, s2, s3⟩ := hw
              go_simp
              with_reducible rfl
            refine Late.take_X (f := 15) (i := 6) (v := ?_) rfl (by kernel_rfl) (by kernel_rfl) (by kernel_rfl) (by kernel_rfl) (by kernel_rfl) (fun _ _ _ h => h) (by rfl) ?_ q0 ?_
            rotate_left
            · intro w hw
              obtain ⟨s1, s2, s3⟩ := hw
              go_simp
              with_reducible rfl
            refine Late.ready_X (rs := [7]) (by kernel_rfl) (by simp) ?_
            refine Late.AllX.cons rfl (fun K' hK => ?_) Late.AllX.nil
            go_simp
            refine (rset_any _ l was s av W5 HRT4.out (by omega) (by omega)).mono ?_
            rintro e w6 ⟨⟨v6, rfl, hrt6⟩, hb6⟩
            obtain ⟨A6, c6, WA6, wc6, rfl, hi6, hw6⟩ := hrt6
            have HT6 := Lib.hid (HT4.out.below hb6)
            have HBX6 := Lib.hid (HBX4.out.below hb6 (Blk.lt HBX4.out))
            have HB6 : Hid (Below w1.heap.size w1 w6) := HB4.out.trans (hb6.mono HB4.out.size)
            have q6 : w6.cell? ⟨bm, 0, none⟩ = some (.slice A l.length c) ∧ w6.cell? ⟨bm, 1, none⟩ = some (.slice WA was.length wc) ∧ w6.cell? ⟨b, o + i * 3 + 2, none⟩ = some (.int .i64 av) := ⟨HBX6.out.cell 0, HBX6.out.cell 1, (HCX.out w6 (HB1.out.trans (HB6.out.mono hbase))).2.2⟩
            have HFI : Hid (PR w1 bm tb (i + 1) ((w6.setCell ⟨bm, 0, none⟩ (.slice A6 (withoutR l s ++ [(s, av)]).length c6)).setCell ⟨bm, 1, none⟩ (.slice WA6 (was ++ [l]).length wc6))) :=
              PR.put hbm HSY.out HT6.out (by simp; omega) (by have := without_len l s; simp; omega) (was_more HWL.out (by omega)) (by omega) HBX6.out hi6 hw6.1 hw6.2 HB6.out
            rw [show (was ++ [l]).length = was.length + 1 by simp, show (withoutR l s ++ [(s, av)]).length = (withoutR l s).length + 1 by simp] at HFI
            have g0 := HBX6.out.frozen 0; have g1 := HBX6.out.frozen 1
            have r0 := q6.1; have r1 := q6.2.1
            clear hb6 hi6 hw6 q0 HT4 HBX4 HRT4 HB4
            go_simp
            refine hK.out _ _ (fun _ => q6) ?_
            refine Late.ready_X (rs := [8]) (by kernel_rfl) (by simp) ?_
            refine Late.AllX.cons rfl (fun K' hK => ?_) Late.AllX.nil
            go_simp
            refine hK.out _ _ (fun h => absurd (by simp) h) ?_
            refine Late.done_X (by kernel_rfl) ?_ _
            try (simp only [])
            clear q6 g0 g1 r0 r1
            go_wp2_with fail
            go_meet
            exact HFI.out
          · have HSET := Lib.hid (set_any HT.out s HSL.out av HVF.out (by omega) (by omega))
            have HSY := Lib.hid (HSA.out.set s HSL.out av HVF.out)
            go_wp2_with fail
            refine HSET.out.mono ?_
            rintro e w4 ⟨rfl, hT4, hs4⟩
            have hbx4 := blk_step HBX.out hs4
            have hrt4 := HRT.out.kept (Kept2.of_step hs4)
            have hB4 : Below w1.heap.size w1 w4 := HBE.out.trans hs4.below
            have HT4 : Hid (Tab w1.heap.size w4.drew tb (D.put (kl s) (.lit (.int .i64 av))) (J ++ [⟨s, numD D s, hasD D s, HSL.out, numD_wf D s⟩]) (n + 1)) := hT4.below ((Below.refl _ _).drew)
            have HBX4 : Hid (Blk w4.drew bm 29 [.slice A l.length c, .slice WA was.length wc]) := hbx4
            have HRT4 : Hid (RT w4.drew (.agg #[.slice A l.length c, .slice WA was.length wc]) l was) := hrt4.kept (Kept2.of_below ((Below.refl _ _).drew))
            have HB4 : Hid (Below w1.heap.size w1 w4.drew) := hB4.drew
            have q0 : w4.drew.cell? ⟨bm, 0, none⟩ = some (.slice A l.length c) ∧ w4.drew.cell? ⟨bm, 1, none⟩ = some (.slice WA was.length wc) ∧ w4.drew.cell? ⟨b, o + i * 3 + 2, none⟩ = some (.int .i64 av) := ⟨HBX4.out.cell 0, HBX4.out.cell 1, (HCX.out w4.drew (HB1.out.trans (HB4.out.mono hbase))).2.2⟩
            have z2 := (HCX.out w4 (HB1.out.trans (hB4.mono hbase))).2.2
            have z0 : w4.cell? ⟨bm, 0, none⟩ = some (.slice A l.length c) := hbx4.cell 0
            clear hT4 hs4 hbx4 hrt4 hB4 HSET
            go_upto_region 17 with fail
            clear z2 z0
            refine Late.region_X (fun W' => W'.cell? ⟨bm, 0, none⟩ = some (.slice A l.length c) ∧ W'.cell? ⟨bm, 1, none⟩ = some (.slice WA was.length wc) ∧ W'.cell? ⟨b, o + i * 3 + 2, none⟩ = some (.int .i64 av)) [8] (by kernel_rfl) ?_
            generalize w4.drew = W5 at *
            refine Late.take_X (f := 15) (i := 0) (v := ?_) rfl (by kernel_rfl) (by kernel_rfl) (by kernel_rfl) (by kernel_rfl) (by kernel_rfl) (fun _ _ _ h => h) (by rfl) ?_ q0 ?_
            rotate_left
            · intro w hw
              obtain ⟨s1, s2, s3⟩ := hw
              go_simp
              with_reducible rfl
            refine Late.take_X (f := 15) (i := 1) (v := ?_) rfl (by kernel_rfl) (by kernel_rfl) (by kernel_rfl) (by kernel_rfl) (by kernel_rfl) (fun _ _ _ h => h) (by rfl) ?_ q0 ?_
            rotate_left
            · intro w hw
              obtain ⟨s1, s2, s3⟩ := hw
              go_simp
              with_reducible rfl
            refine Late.take_X (f := 15) (i := 2) (v := ?_) rfl (by kernel_rfl) (by kernel_rfl) (by kernel_rfl) (by kernel_rfl) (by kernel_rfl) (fun _ _ _ h => h) (by rfl) ?_ q0 ?_
            rotate_left
            · intro w hw
              obtain ⟨s1, s2, s3⟩ := hw
              go_simp
              with_reducible rfl
            refine Late.take_X (f := 15) (i := 3) (v := ?_) rfl (by kernel_rfl) (by kernel_rfl) (by kernel_rfl) (by kernel_rfl) (by kernel_rfl) (fun _ _ _ h => h) (by rfl) ?_ q0 ?_
            rotate_left
            · intro w hw
              obtain ⟨s1, s2, s3⟩ := hw
              go_simp
              with_reducible rfl
            refine Late.take_X (f := 15) (i := 4) (v := ?_) rfl (by kernel_rfl) (by kernel_rfl) (by kernel_rfl) (by kernel_rfl) (by kernel_rfl) (fun _ _ _ h => h) (by rfl) ?_ q0 ?_
            rotate_left
            · intro w hw
              obtain ⟨s1, s2, s3⟩ := hw
              go_simp
              with_reducible rfl
            refine Late.take_X (f := 15) (i := 5) (v := ?_) rfl (by kernel_rfl) (by kernel_rfl) (by kernel_rfl) (by kernel_rfl) (by kernel_rfl) (fun _ _ _ h => h) (by rfl) ?_ q0 ?_
            rotate_left
            · intro w hw
              obtain ⟨s1, s2, s3⟩ := hw
              go_simp
              with_reducible rfl
            refine Late.take_X (f := 15) (i := 6) (v := ?_) rfl (by kernel_rfl) (by kernel_rfl) (by kernel_rfl) (by kernel_rfl) (by kernel_rfl) (fun _ _ _ h => h) (by rfl) ?_ q0 ?_
            rotate_left
            · intro w hw
              obtain ⟨s1, s2, s3⟩ := hw
              go_simp
              with_reducible rfl
            refine Late.ready_X (rs := [7]) (by kernel_rfl) (by simp) ?_
            refine Late.AllX.cons rfl (fun K' hK => ?_) Late.AllX.nil
            go_simp
            refine (rset_any _ l was s av W5 HRT4.out (by omega) (by omega)).mono ?_
            rintro e w6 ⟨⟨v6, rfl, hrt6⟩, hb6⟩
            obtain ⟨A6, c6, WA6, wc6, rfl, hi6, hw6⟩ := hrt6
            have HT6 := Lib.hid (HT4.out.below hb6)
            have HBX6 := Lib.hid (HBX4.out.below hb6 (Blk.lt HBX4.out))
            have HB6 : Hid (Below w1.heap.size w1 w6) := HB4.out.trans (hb6.mono HB4.out.size)
            have q6 : w6.cell? ⟨bm, 0, none⟩ = some (.slice A l.length c) ∧ w6.cell? ⟨bm, 1, none⟩ = some (.slice WA was.length wc) ∧ w6.cell? ⟨b, o + i * 3 + 2, none⟩ = some (.int .i64 av) := ⟨HBX6.out.cell 0, HBX6.out.cell 1, (HCX.out w6 (HB1.out.trans (HB6.out.mono hbase))).2.2⟩
            have HFI : Hid (PR w1 bm tb (i + 1) ((w6.setCell ⟨bm, 0, none⟩ (.slice A6 (withoutR l s ++ [(s, av)]).length c6)).setCell ⟨bm, 1, none⟩ (.slice WA6 (was ++ [l]).length wc6))) :=
              PR.put hbm HSY.out HT6.out (by simp; omega) (by have := without_len l s; simp; omega) (was_more HWL.out (by omega)) (by omega) HBX6.out hi6 hw6.1 hw6.2 HB6.out
            rw [show (was ++ [l]).length = was.length + 1 by simp, show (withoutR l s ++ [(s, av)]).length = (withoutR l s).length + 1 by simp] at HFI
            have g0 := HBX6.out.frozen 0; have g1 := HBX6.out.frozen 1
            have r0 := q6.1; have r1 := q6.2.1
            clear hb6 hi6 hw6 q0 HT4 HBX4 HRT4 HB4
            go_simp
            refine hK.out _ _ (fun _ => q6) ?_
            refine Late.ready_X (rs := [8]) (by kernel_rfl) (by simp) ?_
            refine Late.AllX.cons rfl (fun K' hK => ?_) Late.AllX.nil
            go_simp
            refine hK.out _ _ (fun h => absurd (by simp) h) ?_
            refine Late.done_X (by kernel_rfl) ?_ _
            try (simp only [])
            clear q6 g0 g1 r0 r1
            go_wp2_with fail
            go_meet
            exact HFI.out
          · have HFE : Hid ((findR l s).2 = hasD D s) := by show _ = _; rw [HSA.out.now]; rfl
            cases hh : hasD D s with
            | true =>
              have HHH := Lib.hid hh
              clear hh
              have HDR := Lib.hid (rdrop_yes _ l was s w3 HRT.out (by omega) (by omega) (HFE.out.trans HHH.out))
              have HSY := Lib.hid (HSA.out.drop s HSL.out HHH.out)
              go_wp2_with fail
              refine HDR.out.mono ?_
              rintro e w4 ⟨⟨v4, rfl, hrt4⟩, hb4⟩
              obtain ⟨A4, c4, WA4, wc4, rfl, hi4, hw4⟩ := hrt4
              have hbx4 := HBX.out.below hb4 (Blk.lt HBX.out)
              have g0 := hbx4.frozen 0; have g1 := hbx4.frozen 1
              have s0 := hbx4.cell 0; have s1 := hbx4.cell 1
              simp only [List.getElem?_cons_zero, List.getElem?_cons_succ] at s0 s1
              have hbl4 : bm < w4.heap.size := hbx4.lt
              have hbxa := hbx4.alloc (.cells #[.slice A4 (withoutR l s).length c4, .slice WA4 (was.length + 1) wc4] 29)
              have ga0 := hbxa.frozen 0; have ga1 := hbxa.frozen 1
              have sa0 := hbxa.cell 0; have sa1 := hbxa.cell 1
              simp only [List.getElem?_cons_zero, List.getElem?_cons_succ] at sa0 sa1
              have hB4 : Below w1.heap.size w1 w4 := HBE.out.trans (hb4.mono HBE.out.size)
              have hp5 : Tab w1.heap.size ((w4.setCell ⟨bm, 0, none⟩ (.slice A4 (withoutR l s).length c4)).setCell ⟨bm, 1, none⟩ (.slice WA4 (was.length + 1) wc4)) tb D J n := by
                have hb1 : Blk (w4.setCell ⟨bm, 0, none⟩ (.slice A4 (withoutR l s).length c4)) bm 29 [.slice A4 (withoutR l s).length c4, .slice WA was.length wc] := by have := hbx4.set 0 (.slice A4 (withoutR l s).length c4); simpa using this
                exact tab_box (tab_box (HT.out.below hb4) hbx4 _) hb1 _
              have hbx5 : Blk ((w4.setCell ⟨bm, 0, none⟩ (.slice A4 (withoutR l s).length c4)).setCell ⟨bm, 1, none⟩ (.slice WA4 (was.length + 1) wc4)) bm 29 [.slice A4 (withoutR l s).length c4, .slice WA4 (was.length + 1) wc4] := by have := (hbx4.set 0 (.slice A4 (withoutR l s).length c4)).set 1 (.slice WA4 (was.length + 1) wc4); simpa using this
              have hk5 : Kept2 w4 ((w4.setCell ⟨bm, 0, none⟩ (.slice A4 (withoutR l s).length c4)).setCell ⟨bm, 1, none⟩ (.slice WA4 (was.length + 1) wc4)) := kept_two hbx4
              have hB5 : Below w1.heap.size w1 ((w4.setCell ⟨bm, 0, none⟩ (.slice A4 (withoutR l s).length c4)).setCell ⟨bm, 1, none⟩ (.slice WA4 (was.length + 1) wc4)) := (hB4.setCell hbm _).setCell hbm _
              have hi5 := hi4.kept hk5
              have hw5 := hw4.1.kept hk5
              have hal : Below ((w4.setCell ⟨bm, 0, none⟩ (.slice A4 (withoutR l s).length c4)).setCell ⟨bm, 1, none⟩ (.slice WA4 (was.length + 1) wc4)).heap.size ((w4.setCell ⟨bm, 0, none⟩ (.slice A4 (withoutR l s).length c4)).setCell ⟨bm, 1, none⟩ (.slice WA4 (was.length + 1) wc4)) (((w4.setCell ⟨bm, 0, none⟩ (.slice A4 (withoutR l s).length c4)).setCell ⟨bm, 1, none⟩ (.slice WA4 (was.length + 1) wc4)).alloc (.cells #[.slice A4 (withoutR l s).length c4, .slice WA4 (was.length + 1) wc4] 29)) := (Below.refl _ _).alloc (Nat.le_refl _) _
              have HT6 := Lib.hid (hp5.below hal); have HBX6 := Lib.hid (hbx5.below hal hbx5.lt); have HI6 := Lib.hid (hi5.kept (Kept2.of_below hal)); have HW6 := Lib.hid (hw5.kept (Kept2.of_below hal)); have HB6 := Lib.hid (hB5.trans (hal.mono hB5.size)); have HW7 := Lib.hid hw4.2
              clear hbxa hp5 hbx5 hk5 hB5 hi5 hw5 hal hi4 hw4 hb4 hB4 hbx4 HT HBX HRT HBE r0 r1 HDR
              go_upto_region 22 with fail
              clear g0 g1 s0 s1 ga0 ga1 sa0 sa1 hbl4
              generalize ((w4.setCell ⟨bm, 0, none⟩ (.slice A4 (withoutR l s).length c4)).setCell ⟨bm, 1, none⟩ (.slice WA4 (was.length + 1) wc4)).alloc (.cells #[.slice A4 (withoutR l s).length c4, .slice WA4 (was.length + 1) wc4] 29) = W6 at *
              have HDP := Lib.hid (drop_any HT6.out s HSL.out (by omega))
              rw [HHH.out] at HDP
              go_wp2_with fail
              refine HDP.out.mono ?_
              rintro e w7 ⟨rfl, hT7, hs7⟩
              have HFI : Hid (PR w1 bm tb (i + 1) w7) := by
                have hbx7 := blk_step HBX6.out hs7
                have hk7 : Kept2 W6 w7 := Kept2.of_step hs7
                have hJl : (dropJ D J s HSL.out).length ≤ J.length + 1 := by unfold dropJ; split <;> simp
                refine ⟨D.del (kl s), dropJ D J s HSL.out, n, withoutR l s, was ++ [l], A4, c4, WA4, wc4, HSY.out, hT7, by omega, by have := without_len l s; omega, (was_more HWL.out (by omega)), by omega, by first | exact hbx7 | simpa using hbx7, ⟨A4, c4, WA4, wc4, by first | rfl | simp, HI6.out.kept hk7, HW6.out.kept hk7, HW7.out⟩, HB6.out.trans hs7.below⟩
              clear hT7 hs7 HDP
              go_wp2_with fail
              go_meet
              exact HFI.out
            | false =>
              have HHH := Lib.hid hh
              clear hh
              have HDR := Lib.hid (rdrop_no _ l was s w3 HRT.out (by omega) (HFE.out.trans HHH.out))
              have HSY : Hid (Says (D.del (kl s)) (dropJ D J s HSL.out) l was) := by
                have hd : dropJ D J s HSL.out = J := by unfold dropJ; rw [if_neg (by rw [HHH.out]; decide)]
                have hv : vw (D.del (kl s)) = vw D := by
                  funext q
                  rw [vw_del]
                  by_cases e : q = s
                  · rw [if_pos e, e]; unfold vw; rw [HHH.out, numD_none HHH.out]
                  · rw [if_neg e]
                show Says _ _ _ _
                rw [hd]
                exact ⟨HSA.out.map.del _, HSA.out.len, fun q => by rw [hv]; exact HSA.out.now q, fun i h q => by rw [hv]; exact HSA.out.ahead i h q, HSA.out.once, HSA.out.onces⟩
              go_wp2_with fail
              refine HDR.out.mono ?_
              rintro e w4 ⟨⟨v4, rfl, hrt4⟩, hb4⟩
              obtain ⟨A4, c4, WA4, wc4, rfl, hi4, hw4⟩ := hrt4
              have hbx4 := HBX.out.below hb4 (Blk.lt HBX.out)
              have g0 := hbx4.frozen 0; have g1 := hbx4.frozen 1
              have s0 := hbx4.cell 0; have s1 := hbx4.cell 1
              simp only [List.getElem?_cons_zero, List.getElem?_cons_succ] at s0 s1
              have hbl4 : bm < w4.heap.size := hbx4.lt
              have hbxa := hbx4.alloc (.cells #[.slice A4 l.length c4, .slice WA4 was.length wc4] 29)
              have ga0 := hbxa.frozen 0; have ga1 := hbxa.frozen 1
              have sa0 := hbxa.cell 0; have sa1 := hbxa.cell 1
              simp only [List.getElem?_cons_zero, List.getElem?_cons_succ] at sa0 sa1
              have hB4 : Below w1.heap.size w1 w4 := HBE.out.trans (hb4.mono HBE.out.size)
              have hp5 : Tab w1.heap.size ((w4.setCell ⟨bm, 0, none⟩ (.slice A4 l.length c4)).setCell ⟨bm, 1, none⟩ (.slice WA4 was.length wc4)) tb D J n := by
                have hb1 : Blk (w4.setCell ⟨bm, 0, none⟩ (.slice A4 l.length c4)) bm 29 [.slice A4 l.length c4, .slice WA was.length wc] := by have := hbx4.set 0 (.slice A4 l.length c4); simpa using this
                exact tab_box (tab_box (HT.out.below hb4) hbx4 _) hb1 _
              have hbx5 : Blk ((w4.setCell ⟨bm, 0, none⟩ (.slice A4 l.length c4)).setCell ⟨bm, 1, none⟩ (.slice WA4 was.length wc4)) bm 29 [.slice A4 l.length c4, .slice WA4 was.length wc4] := by have := (hbx4.set 0 (.slice A4 l.length c4)).set 1 (.slice WA4 was.length wc4); simpa using this
              have hk5 : Kept2 w4 ((w4.setCell ⟨bm, 0, none⟩ (.slice A4 l.length c4)).setCell ⟨bm, 1, none⟩ (.slice WA4 was.length wc4)) := kept_two hbx4
              have hB5 : Below w1.heap.size w1 ((w4.setCell ⟨bm, 0, none⟩ (.slice A4 l.length c4)).setCell ⟨bm, 1, none⟩ (.slice WA4 was.length wc4)) := (hB4.setCell hbm _).setCell hbm _
              have hi5 := hi4.kept hk5
              have hw5 := hw4.1.kept hk5
              have hal : Below ((w4.setCell ⟨bm, 0, none⟩ (.slice A4 l.length c4)).setCell ⟨bm, 1, none⟩ (.slice WA4 was.length wc4)).heap.size ((w4.setCell ⟨bm, 0, none⟩ (.slice A4 l.length c4)).setCell ⟨bm, 1, none⟩ (.slice WA4 was.length wc4)) (((w4.setCell ⟨bm, 0, none⟩ (.slice A4 l.length c4)).setCell ⟨bm, 1, none⟩ (.slice WA4 was.length wc4)).alloc (.cells #[.slice A4 l.length c4, .slice WA4 was.length wc4] 29)) := (Below.refl _ _).alloc (Nat.le_refl _) _
              have HT6 := Lib.hid (hp5.below hal); have HBX6 := Lib.hid (hbx5.below hal hbx5.lt); have HI6 := Lib.hid (hi5.kept (Kept2.of_below hal)); have HW6 := Lib.hid (hw5.kept (Kept2.of_below hal)); have HB6 := Lib.hid (hB5.trans (hal.mono hB5.size)); have HW7 := Lib.hid hw4.2
              clear hbxa hp5 hbx5 hk5 hB5 hi5 hw5 hal hi4 hw4 hb4 hB4 hbx4 HT HBX HRT HBE r0 r1 HDR
              go_upto_region 22 with fail
              clear g0 g1 s0 s1 ga0 ga1 sa0 sa1 hbl4
              generalize ((w4.setCell ⟨bm, 0, none⟩ (.slice A4 l.length c4)).setCell ⟨bm, 1, none⟩ (.slice WA4 was.length wc4)).alloc (.cells #[.slice A4 l.length c4, .slice WA4 was.length wc4] 29) = W6 at *
              have HDP := Lib.hid (drop_any HT6.out s HSL.out (by omega))
              rw [HHH.out] at HDP
              go_wp2_with fail
              refine HDP.out.mono ?_
              rintro e w7 ⟨rfl, hT7, hs7⟩
              have HFI : Hid (PR w1 bm tb (i + 1) w7) := by
                have hbx7 := blk_step HBX6.out hs7
                have hk7 : Kept2 W6 w7 := Kept2.of_step hs7
                have hJl : (dropJ D J s HSL.out).length ≤ J.length + 1 := by unfold dropJ; split <;> simp
                refine ⟨D.del (kl s), dropJ D J s HSL.out, n, l, was, A4, c4, WA4, wc4, HSY.out, hT7, by omega, by omega, (fun x hx => by have := HWL.out x hx; omega), by omega, by first | exact hbx7 | simpa using hbx7, ⟨A4, c4, WA4, wc4, by first | rfl | simp, HI6.out.kept hk7, HW6.out.kept hk7, HW7.out⟩, HB6.out.trans hs7.below⟩
              clear hT7 hs7 HDP
              go_wp2_with fail
              go_meet
              exact HFI.out
          · have HFE : Hid ((findR l s).2 = hasD D s) := by show _ = _; rw [HSA.out.now]; rfl
            cases hh : hasD D s with
            | true =>
              have HHH := Lib.hid hh
              clear hh
              have HDR := Lib.hid (rdrop_yes _ l was s w3 HRT.out (by omega) (by omega) (HFE.out.trans HHH.out))
              have HSY := Lib.hid (HSA.out.drop s HSL.out HHH.out)
              go_wp2_with fail
              refine HDR.out.mono ?_
              rintro e w4 ⟨⟨v4, rfl, hrt4⟩, hb4⟩
              obtain ⟨A4, c4, WA4, wc4, rfl, hi4, hw4⟩ := hrt4
              have hbx4 := HBX.out.below hb4 (Blk.lt HBX.out)
              have g0 := hbx4.frozen 0; have g1 := hbx4.frozen 1
              have s0 := hbx4.cell 0; have s1 := hbx4.cell 1
              simp only [List.getElem?_cons_zero, List.getElem?_cons_succ] at s0 s1
              have hbl4 : bm < w4.heap.size := hbx4.lt
              have hbxa := hbx4.alloc (.cells #[.slice A4 (withoutR l s).length c4, .slice WA4 (was.length + 1) wc4] 29)
              have ga0 := hbxa.frozen 0; have ga1 := hbxa.frozen 1
              have sa0 := hbxa.cell 0; have sa1 := hbxa.cell 1
              simp only [List.getElem?_cons_zero, List.getElem?_cons_succ] at sa0 sa1
              have hB4 : Below w1.heap.size w1 w4 := HBE.out.trans (hb4.mono HBE.out.size)
              have hp5 : Tab w1.heap.size ((w4.setCell ⟨bm, 0, none⟩ (.slice A4 (withoutR l s).length c4)).setCell ⟨bm, 1, none⟩ (.slice WA4 (was.length + 1) wc4)) tb D J n := by
                have hb1 : Blk (w4.setCell ⟨bm, 0, none⟩ (.slice A4 (withoutR l s).length c4)) bm 29 [.slice A4 (withoutR l s).length c4, .slice WA was.length wc] := by have := hbx4.set 0 (.slice A4 (withoutR l s).length c4); simpa using this
                exact tab_box (tab_box (HT.out.below hb4) hbx4 _) hb1 _
              have hbx5 : Blk ((w4.setCell ⟨bm, 0, none⟩ (.slice A4 (withoutR l s).length c4)).setCell ⟨bm, 1, none⟩ (.slice WA4 (was.length + 1) wc4)) bm 29 [.slice A4 (withoutR l s).length c4, .slice WA4 (was.length + 1) wc4] := by have := (hbx4.set 0 (.slice A4 (withoutR l s).length c4)).set 1 (.slice WA4 (was.length + 1) wc4); simpa using this
              have hk5 : Kept2 w4 ((w4.setCell ⟨bm, 0, none⟩ (.slice A4 (withoutR l s).length c4)).setCell ⟨bm, 1, none⟩ (.slice WA4 (was.length + 1) wc4)) := kept_two hbx4
              have hB5 : Below w1.heap.size w1 ((w4.setCell ⟨bm, 0, none⟩ (.slice A4 (withoutR l s).length c4)).setCell ⟨bm, 1, none⟩ (.slice WA4 (was.length + 1) wc4)) := (hB4.setCell hbm _).setCell hbm _
              have hi5 := hi4.kept hk5
              have hw5 := hw4.1.kept hk5
              have hal : Below ((w4.setCell ⟨bm, 0, none⟩ (.slice A4 (withoutR l s).length c4)).setCell ⟨bm, 1, none⟩ (.slice WA4 (was.length + 1) wc4)).heap.size ((w4.setCell ⟨bm, 0, none⟩ (.slice A4 (withoutR l s).length c4)).setCell ⟨bm, 1, none⟩ (.slice WA4 (was.length + 1) wc4)) (((w4.setCell ⟨bm, 0, none⟩ (.slice A4 (withoutR l s).length c4)).setCell ⟨bm, 1, none⟩ (.slice WA4 (was.length + 1) wc4)).alloc (.cells #[.slice A4 (withoutR l s).length c4, .slice WA4 (was.length + 1) wc4] 29)) := (Below.refl _ _).alloc (Nat.le_refl _) _
              have HT6 := Lib.hid (hp5.below hal); have HBX6 := Lib.hid (hbx5.below hal hbx5.lt); have HI6 := Lib.hid (hi5.kept (Kept2.of_below hal)); have HW6 := Lib.hid (hw5.kept (Kept2.of_below hal)); have HB6 := Lib.hid (hB5.trans (hal.mono hB5.size)); have HW7 := Lib.hid hw4.2
              clear hbxa hp5 hbx5 hk5 hB5 hi5 hw5 hal hi4 hw4 hb4 hB4 hbx4 HT HBX HRT HBE r0 r1 HDR
              go_upto_region 22 with fail
              clear g0 g1 s0 s1 ga0 ga1 sa0 sa1 hbl4
              generalize ((w4.setCell ⟨bm, 0, none⟩ (.slice A4 (withoutR l s).length c4)).setCell ⟨bm, 1, none⟩ (.slice WA4 (was.length + 1) wc4)).alloc (.cells #[.slice A4 (withoutR l s).length c4, .slice WA4 (was.length + 1) wc4] 29) = W6 at *
              have HDP := Lib.hid (drop_any HT6.out s HSL.out (by omega))
              rw [HHH.out] at HDP
              go_wp2_with fail
              refine HDP.out.mono ?_
              rintro e w7 ⟨rfl, hT7, hs7⟩
              have HFI : Hid (PR w1 bm tb (i + 1) w7) := by
                have hbx7 := blk_step HBX6.out hs7
                have hk7 : Kept2 W6 w7 := Kept2.of_step hs7
                have hJl : (dropJ D J s HSL.out).length ≤ J.length + 1 := by unfold dropJ; split <;> simp
                refine ⟨D.del (kl s), dropJ D J s HSL.out, n, withoutR l s, was ++ [l], A4, c4, WA4, wc4, HSY.out, hT7, by omega, by have := without_len l s; omega, (was_more HWL.out (by omega)), by omega, by first | exact hbx7 | simpa using hbx7, ⟨A4, c4, WA4, wc4, by first | rfl | simp, HI6.out.kept hk7, HW6.out.kept hk7, HW7.out⟩, HB6.out.trans hs7.below⟩
              clear hT7 hs7 HDP
              go_wp2_with fail
              go_meet
              exact HFI.out
            | false =>
              have HHH := Lib.hid hh
              clear hh
              have HDR := Lib.hid (rdrop_no _ l was s w3 HRT.out (by omega) (HFE.out.trans HHH.out))
              have HSY : Hid (Says (D.del (kl s)) (dropJ D J s HSL.out) l was) := by
                have hd : dropJ D J s HSL.out = J := by unfold dropJ; rw [if_neg (by rw [HHH.out]; decide)]
                have hv : vw (D.del (kl s)) = vw D := by
                  funext q
                  rw [vw_del]
                  by_cases e : q = s
                  · rw [if_pos e, e]; unfold vw; rw [HHH.out, numD_none HHH.out]
                  · rw [if_neg e]
                show Says _ _ _ _
                rw [hd]
                exact ⟨HSA.out.map.del _, HSA.out.len, fun q => by rw [hv]; exact HSA.out.now q, fun i h q => by rw [hv]; exact HSA.out.ahead i h q, HSA.out.once, HSA.out.onces⟩
              go_wp2_with fail
              refine HDR.out.mono ?_
              rintro e w4 ⟨⟨v4, rfl, hrt4⟩, hb4⟩
              obtain ⟨A4, c4, WA4, wc4, rfl, hi4, hw4⟩ := hrt4
              have hbx4 := HBX.out.below hb4 (Blk.lt HBX.out)
              have g0 := hbx4.frozen 0; have g1 := hbx4.frozen 1
              have s0 := hbx4.cell 0; have s1 := hbx4.cell 1
              simp only [List.getElem?_cons_zero, List.getElem?_cons_succ] at s0 s1
              have hbl4 : bm < w4.heap.size := hbx4.lt
              have hbxa := hbx4.alloc (.cells #[.slice A4 l.length c4, .slice WA4 was.length wc4] 29)
              have ga0 := hbxa.frozen 0; have ga1 := hbxa.frozen 1
              have sa0 := hbxa.cell 0; have sa1 := hbxa.cell 1
              simp only [List.getElem?_cons_zero, List.getElem?_cons_succ] at sa0 sa1
              have hB4 : Below w1.heap.size w1 w4 := HBE.out.trans (hb4.mono HBE.out.size)
              have hp5 : Tab w1.heap.size ((w4.setCell ⟨bm, 0, none⟩ (.slice A4 l.length c4)).setCell ⟨bm, 1, none⟩ (.slice WA4 was.length wc4)) tb D J n := by
                have hb1 : Blk (w4.setCell ⟨bm, 0, none⟩ (.slice A4 l.length c4)) bm 29 [.slice A4 l.length c4, .slice WA was.length wc] := by have := hbx4.set 0 (.slice A4 l.length c4); simpa using this
                exact tab_box (tab_box (HT.out.below hb4) hbx4 _) hb1 _
              have hbx5 : Blk ((w4.setCell ⟨bm, 0, none⟩ (.slice A4 l.length c4)).setCell ⟨bm, 1, none⟩ (.slice WA4 was.length wc4)) bm 29 [.slice A4 l.length c4, .slice WA4 was.length wc4] := by have := (hbx4.set 0 (.slice A4 l.length c4)).set 1 (.slice WA4 was.length wc4); simpa using this
              have hk5 : Kept2 w4 ((w4.setCell ⟨bm, 0, none⟩ (.slice A4 l.length c4)).setCell ⟨bm, 1, none⟩ (.slice WA4 was.length wc4)) := kept_two hbx4
              have hB5 : Below w1.heap.size w1 ((w4.setCell ⟨bm, 0, none⟩ (.slice A4 l.length c4)).setCell ⟨bm, 1, none⟩ (.slice WA4 was.length wc4)) := (hB4.setCell hbm _).setCell hbm _
              have hi5 := hi4.kept hk5
              have hw5 := hw4.1.kept hk5
              have hal : Below ((w4.setCell ⟨bm, 0, none⟩ (.slice A4 l.length c4)).setCell ⟨bm, 1, none⟩ (.slice WA4 was.length wc4)).heap.size ((w4.setCell ⟨bm, 0, none⟩ (.slice A4 l.length c4)).setCell ⟨bm, 1, none⟩ (.slice WA4 was.length wc4)) (((w4.setCell ⟨bm, 0, none⟩ (.slice A4 l.length c4)).setCell ⟨bm, 1, none⟩ (.slice WA4 was.length wc4)).alloc (.cells #[.slice A4 l.length c4, .slice WA4 was.length wc4] 29)) := (Below.refl _ _).alloc (Nat.le_refl _) _
              have HT6 := Lib.hid (hp5.below hal); have HBX6 := Lib.hid (hbx5.below hal hbx5.lt); have HI6 := Lib.hid (hi5.kept (Kept2.of_below hal)); have HW6 := Lib.hid (hw5.kept (Kept2.of_below hal)); have HB6 := Lib.hid (hB5.trans (hal.mono hB5.size)); have HW7 := Lib.hid hw4.2
              clear hbxa hp5 hbx5 hk5 hB5 hi5 hw5 hal hi4 hw4 hb4 hB4 hbx4 HT HBX HRT HBE r0 r1 HDR
              go_upto_region 22 with fail
              clear g0 g1 s0 s1 ga0 ga1 sa0 sa1 hbl4
              generalize ((w4.setCell ⟨bm, 0, none⟩ (.slice A4 l.length c4)).setCell ⟨bm, 1, none⟩ (.slice WA4 was.length wc4)).alloc (.cells #[.slice A4 l.length c4, .slice WA4 was.length wc4] 29) = W6 at *
              have HDP := Lib.hid (drop_any HT6.out s HSL.out (by omega))
              rw [HHH.out] at HDP
              go_wp2_with fail
              refine HDP.out.mono ?_
              rintro e w7 ⟨rfl, hT7, hs7⟩
              have HFI : Hid (PR w1 bm tb (i + 1) w7) := by
                have hbx7 := blk_step HBX6.out hs7
                have hk7 : Kept2 W6 w7 := Kept2.of_step hs7
                have hJl : (dropJ D J s HSL.out).length ≤ J.length + 1 := by unfold dropJ; split <;> simp
                refine ⟨D.del (kl s), dropJ D J s HSL.out, n, l, was, A4, c4, WA4, wc4, HSY.out, hT7, by omega, by omega, (fun x hx => by have := HWL.out x hx; omega), by omega, by first | exact hbx7 | simpa using hbx7, ⟨A4, c4, WA4, wc4, by first | rfl | simp, HI6.out.kept hk7, HW6.out.kept hk7, HW7.out⟩, HB6.out.trans hs7.below⟩
              clear hT7 hs7 HDP
              go_wp2_with fail
              go_meet
              exact HFI.out
          · cases near with
            | true =>
              obtain ⟨m, hm⟩ : ∃ m, Int.tmod av 8 = m := ⟨_, rfl⟩
              have hmb := tmod8 av
              rw [hm] at hmb
              have hmw : IntKind.i64.wrap m = m := by simp [IntKind.wrap, IntKind.signed, IntKind.bits]; omega
              have HUN := Lib.hid (undo_every HT.out m (by omega) (by omega))
              go_wp2_with fail
              try clear hm hmw
              refine HUN.out.mono ?_
              rintro e w4 ⟨rfl, hT4, hs4⟩
              have hbx4 := blk_step HBX.out hs4
              have HT4 := Lib.hid hT4; have HBX4 := Lib.hid hbx4; have HRT4 := Lib.hid (HRT.out.kept (Kept2.of_step hs4)); have HB4 : Hid (Below w1.heap.size w1 w4) := HBE.out.trans hs4.below
              clear r0 r1
              have r0 := hbx4.cell 0; have r1 := hbx4.cell 1
              simp only [List.getElem?_cons_zero, List.getElem?_cons_succ] at r0 r1
              clear hT4 hs4 hbx4 HT HBX HRT HBE HUN
              go_wp2_with fail
              refine (rundo_any _ l was m w4 HRT4.out (by omega)).mono ?_
              rintro e w5 ⟨⟨v5, l5, was5, rfl, hrt5, hcase⟩, hb5⟩
              obtain ⟨A5, c5, WA5, wc5, rfl, hi5, hw5⟩ := hrt5
              have hbx5 := HBX4.out.below hb5 (Blk.lt HBX4.out)
              have hB5 : Below w1.heap.size w1 w5 := HB4.out.trans (hb5.mono HB4.out.size)
              have HSY : Hid (Says (undoD D (J.drop m.toNat)) (J.take m.toNat) l5 was5 ∧ l5.length ≤ i ∧ ∀ x ∈ was5, x.length ≤ i) := by
                rcases hcase with ⟨h1, rfl, rfl⟩ | ⟨h1, rfl, rfl⟩
                · exact ⟨HSA.out.idle _ h1, HLL.out, HWL.out⟩
                · exact ⟨HSA.out.undo _ h1, HWL.out _ (List.getElem_mem _), fun x hx => HWL.out x (List.mem_of_mem_take hx)⟩
              have HFI : Hid (PR w1 bm tb (i + 1) ((w5.setCell ⟨bm, 0, none⟩ (.slice A5 l5.length c5)).setCell ⟨bm, 1, none⟩ (.slice WA5 was5.length wc5))) :=
                PR.put hbm HSY.out.1 (HT4.out.below hb5) (by simp; omega) (by have := HSY.out.2.1; omega) (fun x hx => by have := HSY.out.2.2 x hx; omega) (by omega) hbx5 hi5 hw5.1 hw5.2 hB5
              clear r0 r1
              have r0 := hbx5.cell 0; have r1 := hbx5.cell 1
              simp only [List.getElem?_cons_zero, List.getElem?_cons_succ] at r0 r1
              have g0 := hbx5.frozen 0; have g1 := hbx5.frozen 1
              clear hbx5 hB5 hi5 hw5 hb5 hcase HSY HT4 HBX4 HRT4 HB4
              go_wp2_with fail
              go_meet
              exact HFI.out
            | false =>
              obtain ⟨m, hm⟩ : ∃ m, m = av := ⟨_, rfl⟩
              subst hm
              have HUN := Lib.hid (undo_every HT.out m (by omega) (by omega))
              go_wp2_with fail
              try clear hm hmw
              refine HUN.out.mono ?_
              rintro e w4 ⟨rfl, hT4, hs4⟩
              have hbx4 := blk_step HBX.out hs4
              have HT4 := Lib.hid hT4; have HBX4 := Lib.hid hbx4; have HRT4 := Lib.hid (HRT.out.kept (Kept2.of_step hs4)); have HB4 : Hid (Below w1.heap.size w1 w4) := HBE.out.trans hs4.below
              clear r0 r1
              have r0 := hbx4.cell 0; have r1 := hbx4.cell 1
              simp only [List.getElem?_cons_zero, List.getElem?_cons_succ] at r0 r1
              clear hT4 hs4 hbx4 HT HBX HRT HBE HUN
              go_wp2_with fail
              refine (rundo_any _ l was m w4 HRT4.out (by omega)).mono ?_
              rintro e w5 ⟨⟨v5, l5, was5, rfl, hrt5, hcase⟩, hb5⟩
              obtain ⟨A5, c5, WA5, wc5, rfl, hi5, hw5⟩ := hrt5
              have hbx5 := HBX4.out.below hb5 (Blk.lt HBX4.out)
              have hB5 : Below w1.heap.size w1 w5 := HB4.out.trans (hb5.mono HB4.out.size)
              have HSY : Hid (Says (undoD D (J.drop m.toNat)) (J.take m.toNat) l5 was5 ∧ l5.length ≤ i ∧ ∀ x ∈ was5, x.length ≤ i) := by
                rcases hcase with ⟨h1, rfl, rfl⟩ | ⟨h1, rfl, rfl⟩
                · exact ⟨HSA.out.idle _ h1, HLL.out, HWL.out⟩
                · exact ⟨HSA.out.undo _ h1, HWL.out _ (List.getElem_mem _), fun x hx => HWL.out x (List.mem_of_mem_take hx)⟩
              have HFI : Hid (PR w1 bm tb (i + 1) ((w5.setCell ⟨bm, 0, none⟩ (.slice A5 l5.length c5)).setCell ⟨bm, 1, none⟩ (.slice WA5 was5.length wc5))) :=
                PR.put hbm HSY.out.1 (HT4.out.below hb5) (by simp; omega) (by have := HSY.out.2.1; omega) (fun x hx => by have := HSY.out.2.2 x hx; omega) (by omega) hbx5 hi5 hw5.1 hw5.2 hB5
              clear r0 r1
              have r0 := hbx5.cell 0; have r1 := hbx5.cell 1
              simp only [List.getElem?_cons_zero, List.getElem?_cons_succ] at r0 r1
              have g0 := hbx5.frozen 0; have g1 := hbx5.frozen 1
              clear hbx5 hB5 hi5 hw5 hb5 hcase HSY HT4 HBX4 HRT4 HB4
              go_wp2_with fail
              go_meet
              exact HFI.out
          · go_wp2_with fail
            refine (done_any HT.out).mono ?_
            rintro e w4 ⟨rfl, hT4, hs4⟩
            have hbx4 := blk_step HBX.out hs4
            obtain ⟨A9, c9, WA9, wc9, e9, hi9, hw9⟩ := HRT.out
            have he9 : A9 = A := by injection e9 with e9; injection e9 with e9; injection e9 with e9 _; injection e9 with e9; exact e9.symm
            subst he9
            have HFI : Hid (PR w1 bm tb (i + 1) (w4.setCell ⟨bm, 1, none⟩ ns)) := PR.empty hbm HSA.out.done hT4 (by have := HLL.out; omega) (by omega) hbx4 (hi9.kept (Kept2.of_step hs4)) (HBE.out.trans hs4.below)
            have g1 := hbx4.frozen 1
            clear r0 r1
            have r1 := hbx4.cell 1
            simp only [List.getElem?_cons_zero, List.getElem?_cons_succ] at r1
            clear hT4 hs4 hbx4 e9 hi9 hw9 HT HBX HRT HBE
            go_wp2_with fail
            go_meet
            exact HFI.out
        rename World => W4
        have HCUT := hcut
        obtain ⟨D, J, n, l, was, A, c, WA, wcap, hS, hT, hJ, hl, hwl, hn, hbx, hrt, hBe⟩ := hcut.out
        obtain ⟨hke, hsz⟩ := hS.keys hT
        have hwj := hS.len
        have HGT := Lib.hid (get_any hT s HSL.out)
        have HBW4 : Hid (Below w.heap.size w W4) := HB1.out.trans (hBe.mono hbase)
        obtain ⟨A9, c9, WA9, wc9, e9, hi9, hw9⟩ := hrt
        have he9 : A9 = A := by injection e9 with e9; injection e9 with e9; injection e9 with e9 _; injection e9 with e9; exact e9.symm
        subst he9
        have HRG : Hid (Calls Try.prog 20 #[.agg #[.slice A9 l.length c, .slice WA was.length wcap], vs s] W4 fun e w' => e = .returned (.tuple #[.int .i64 (numD D s), .bool (hasD D s)]) ∧ Below W4.heap.size W4 w') := by
          have := rget_any A9 c l (.slice WA was.length wcap) s W4 hi9.its (by omega)
          rw [hS.now s] at this
          exact this
        have HTT := Lib.hid hT; have HBX4 := Lib.hid hbx
        have HRT4 : Hid (RT W4 (.agg #[.slice A9 l.length c, .slice WA was.length wcap]) l was) := by rw [e9]; exact ⟨A9, c9, WA9, wc9, rfl, hi9, hw9⟩
        have r0 := hbx.cell 0; have r1 := hbx.cell 1
        simp only [List.getElem?_cons_zero, List.getElem?_cons_succ] at r0 r1
        have HKE := Lib.hid hke; have HSZ := Lib.hid hsz; have HWJ := Lib.hid hwj
        clear hcut hS hT hbx hi9 hw9 e9 hke hsz hwj hwl hBe x0 x1 x2 HP3 HBW3 hd8
        go_wp2_with fail
        refine HGT.out.mono ?_
        rintro e W5 ⟨rfl, rfl⟩
        go_wp2_with fail
        refine HRG.out.mono ?_
        rintro e w6 ⟨rfl, hb6⟩
        have HT6 := Lib.hid (HTT.out.below hb6)
        have hbx6 := HBX4.out.below hb6 (Blk.lt HBX4.out)
        have HBX6 := Lib.hid hbx6
        have HRT6 := Lib.hid (HRT4.out.kept (Kept2.of_below hb6))
        have HPR := Lib.hid (HCUT.out.below hb6)
        have HBW6 : Hid (Below w.heap.size w w6) := HBW4.out.trans (hb6.mono HBW4.out.size)
        clear hb6 HTT HBX4 HRT4 HCUT HGT HRG r0 r1 HBW4 hbx6
        have HS : Hid (∀ W, Below w6.heap.size w6 W → W.cell? ⟨bm, 0, none⟩ = some (.slice A9 l.length c) ∧ W.cell? ⟨bm, 1, none⟩ = some (.slice WA was.length wcap)) := fun W hW =>
          have hb := HBX6.out.below hW (Blk.lt HBX6.out)
          ⟨hb.cell 0, hb.cell 1⟩
        have HLEN : Hid (∀ W, Below w6.heap.size w6 W → Calls Try.prog 21 #[.pointer (some ⟨tb, 0, none⟩)] W fun e w' => e = .returned (.int .i64 (l.length : Int)) ∧ W = w') := fun W hW => by
          have := len_any (HT6.out.below hW)
          rw [HSZ.out] at this; exact this
        have HMRK : Hid (∀ W, Below w6.heap.size w6 W → Calls Try.prog 22 #[.pointer (some ⟨tb, 0, none⟩)] W fun e w' => e = .returned (.int .i64 (was.length : Int)) ∧ W = w') := fun W hW => by
          have := mark_any (HT6.out.below hW)
          rw [← HWJ.out] at this; exact this
        have HKEY : Hid (∀ W, Below w6.heap.size w6 W → Calls Try.prog 24 #[.pointer (some ⟨tb, 0, none⟩)] W fun e w' => ∃ A c, e = .returned (.slice A (rise (keysR l)).length c) ∧ StrsIs w' A (rise (keysR l)) ∧ Below W.heap.size W w') := fun W hW => by
          have := keys_any (HT6.out.below hW) (by omega)
          rw [HKE.out] at this
          exact this.mono fun e w' ⟨A, c, h1, h2, _, _, h3⟩ => ⟨A, c, h1, h2, h3⟩
        have HRK : Hid (∀ W, Below w6.heap.size w6 W → Calls Try.prog 25 #[.agg #[.slice A9 l.length c, .slice WA was.length wcap]] W fun e w' => ∃ v, e = .returned v ∧ RiseRel W (rise (keysR l)) v w') := fun W hW => rkeys_any _ l was W (HRT6.out.kept (Kept2.of_below hW)) (by omega)
        have HTL : Hid ((rise (keysR l)).length ≤ 100000) := by have h1 := rise_len (keysR l); have h2 : (keysR l).length = l.length := by simp [keysR]
                                                                show _ ≤ _; omega
        generalize rise (keysR l) = T at *
        generalize numD D s = gx at *
        generalize hasD D s = gb at *
        have hg1 : (gx != gx) = false := by simp
        have hg2 : (gb != gb) = false := by simp
        have hg3 : ((l.length : Int) != (l.length : Int)) = false := by simp
        have hg4 : ((was.length : Int) != (was.length : Int)) = false := by simp
        go_upto_region 32 with fail
        have hbd : Below w6.heap.size w6 w6.drew := (Below.refl _ _).drew
        have HBD := Lib.hid hbd
        have k1 := HS.out _ hbd
        clear hbd
        go_region_held3 (fun W => W.cell? ⟨bm, 0, none⟩ = some (.slice A9 l.length c) ∧ W.cell? ⟨bm, 1, none⟩ = some (.slice WA was.length wcap))
          (first | with_reducible exact k1 | with_reducible exact k2 | with_reducible exact k3 | with_reducible exact k4)
          (first
            | (go_at_call 21
               with_reducible refine (HLEN.out _ HBD.out).mono ?_
               rintro e w7 ⟨rfl, rfl⟩)
            | (go_at_call 22
               with_reducible refine (HMRK.out _ HBD.out).mono ?_
               rintro e w7 ⟨rfl, rfl⟩)
            | (go_at_call 24
               with_reducible refine (HKEY.out _ HBD.out).mono ?_
               rintro e w7 ⟨A7, c7, rfl, hs7, hb7⟩
               have HB7 : Hid (Below w6.heap.size w6 w7) := HBD.out.trans (hb7.mono HBD.out.size)
               have HS7 := Lib.hid hs7
               have k2 := HS.out w7 HB7.out
               clear hs7 hb7)
            | (go_at_call 25
               with_reducible refine (HRK.out _ HB7.out).mono ?_
               rintro e w8 ⟨v8, rfl, hb8, A8, c8, rfl, hs8, -⟩
               have HB8 : Hid (Below w6.heap.size w6 w8) := HB7.out.trans (hb8.mono HB7.out.size)
               have HTX := Lib.hid (texts_below A7 A8 c7 c8 T HTL.out w8 (HS7.out.below hb8 HS7.out.lt) hs8)
               have k3 := HS.out w8 HB8.out
               clear hs8 hb8)
            | (go_at_call 25
               with_reducible refine (HRK.out _ HBD.out).mono ?_
               rintro e w7 ⟨v7, rfl, hb7, A7, c7, rfl, hs7, -⟩
               have HB7 : Hid (Below w6.heap.size w6 w7) := HBD.out.trans (hb7.mono HBD.out.size)
               have HS7 := Lib.hid hs7
               have k2 := HS.out w7 HB7.out
               clear hs7 hb7)
            | (go_at_call 24
               with_reducible refine (HKEY.out _ HB7.out).mono ?_
               rintro e w8 ⟨A8, c8, rfl, hs8, hb8⟩
               have HB8 : Hid (Below w6.heap.size w6 w8) := HB7.out.trans (hb8.mono HB7.out.size)
               have HTX := Lib.hid (texts_below A8 A7 c8 c7 T HTL.out w8 hs8 (HS7.out.below hb8 HS7.out.lt))
               have k3 := HS.out w8 HB8.out
               clear hs8 hb8)
            | (go_at_call 23
               with_reducible refine HTX.out.mono ?_
               rintro e w9 ⟨rfl, hb9⟩
               have HB9 : Hid (Below w6.heap.size w6 w9) := HB8.out.trans (hb9.mono HB8.out.size)
               have k4 := HS.out w9 HB9.out
               have HPR9 := Lib.hid (HPR.out.below HB9.out)
               clear hb9)
            | fail)
        all_goals
          go_wp2_with fail
          go_roundw
          case rel => first | exact ⟨i + 1, by omega, by go_num, HPR9.out⟩ | ((repeat apply Exists.intro); exact ⟨⟨i + 1, by omega, by go_num, HPR9.out⟩, rfl⟩)
          case measure => simp [intOf]; omega
      · obtain rfl : i = acts.length := by omega
        go_wp2_with fail
        go_ret
        exact ⟨rfl, HBW.out⟩
  · have h40' : (100 : Int) < acts.length := by omega
    have h40'' : decide ((100 : Int) < acts.length) = true := decide_eq_true h40'
    go_enter Try.func3, Try.ntmps3
    go_wp2_with fail
    refine (undone_once w w (Below.refl _ _)).mono ?_
    rintro e w1 ⟨rfl, hb1⟩
    have HB1 := Lib.hid hb1; clear hb1
    go_wp2_with fail
    refine (undone_once w w1 HB1.out).mono ?_
    rintro e w2 ⟨rfl, hb2⟩
    have HB2 := Lib.hid hb2; clear hb2
    go_wp2_with fail
    go_ret
    exact ⟨rfl, HB2.out⟩
end Go.Proofs.Ytkmjknehbaofcaa
