/- TreeMade: the walk. -/
import Derived.Test.YtkehfploodobmaaK9
import Derived.Deep.CutBlock
namespace Go.Proofs.Ytkehfploodobmaa
open Go.RowKit TreeMath RealMath

set_option maxHeartbeats 8000000 in
set_option maxRecDepth 100000 in
theorem made_walk (A : Option Addr) (c : Nat) (l : List Md) (at_ what : By) (s : List By) (w : World) (h1 : Mades w w.heap.size A l) (hm1 : l.length ≤ maxLen) (hc1 : l.length ≤ c) (hx1 : c ≤ maxLen) (hs : s.length ≤ maxLen) :
    Calls Try.prog 4 #[.slice A l.length c, vb at_, vb what, vs s] w fun e w' => e = .returned (.bool true) ∧ Below w.heap.size w w' := by
  have H1 := Lib.hid h1
  clear h1
  unfold maxLen at hs
  go_enter Try.func4, Try.ntmps4
  go_wp2_with fail
  refine (leaf_any w).mono ?_
  rintro e w1 ⟨rfl, hb1⟩
  have HB1 := Lib.hid hb1
  clear hb1
  go_wp2_with fail
  refine (small_any A c w.heap.size l hm1 w1 (H1.out.keep HB1.out)).mono ?_
  rintro e w2 ⟨rfl, rfl⟩
  have HS1 := Lib.hid (small_true (l := l))
  generalize smallB l = s1 at *
  cases s1 with
  | false =>
    go_wp2_with fail
    refine (leaf_any w1).mono ?_
    rintro e w2 ⟨rfl, hb2⟩
    have HB2 : Hid (Below w.heap.size w w2) := HB1.out.trans (hb2.mono HB1.out.size)
    clear hb2
    go_wp2_with fail
    go_ret
    exact ⟨rfl, HB2.out⟩
  | true =>
    obtain ⟨ha1, hd1⟩ := HS1.out rfl
    have HD1 := Lib.hid hd1
    clear hd1 HS1
    by_cases hs2 : s.length ≤ 2000
    · have hs2' : decide ((2000 : Int) < s.length) = false := decide_eq_false (by omega)
      go_wp2_with fail
      refine (make_any l A c w.heap.size w1 ha1 hc1 hx1 HD1.out (H1.out.keep HB1.out)).mono ?_
      rintro e w3 ⟨y, ly, rfl, hok, -, hmr, hb3⟩
      have HB3 : Hid (Below w.heap.size w w3) := HB1.out.trans (hb3.mono HB1.out.size)
      have HO := Lib.hid hok; have HMR := Lib.hid hmr
      have hcn := hmr.count
      clear hok hmr hb3 HD1 H1
      go_wp2_with fail
      have hB4 : Below w3.heap.size w3 (w3.alloc (.cells #[vb y.kind, .slice y.na y.names.length y.nc, .slice y.ka ly.length y.kc, .slice y.da y.data.length y.dc, .bool y.run, .float .f64 y.stamp, vs y.target] 27)) := (Below.refl _ _).alloc (Nat.le_refl _) _
      have HG9 : Hid (Blk (w3.alloc (.cells #[vb y.kind, .slice y.na y.names.length y.nc, .slice y.ka ly.length y.kc, .slice y.da y.data.length y.dc, .bool y.run, .float .f64 y.stamp, vs y.target] 27)) w3.heap.size 27 (cellsT (.mk y ly))) := Blk.new w3 27 _
      refine (right_any y ly w3.heap.size _ hB4.size (HO.out.keep hB4) (by omega)).mono ?_
      rintro e w4 ⟨he, hb4⟩
      obtain rfl : e = .returned (.bool true) := by rw [he, made_right HMR.out]
      have HB34 : Hid (Below w3.heap.size w3 w4) := hB4.trans (hb4.mono hB4.size)
      have HG9' : Hid (Blk w4 w3.heap.size 27 (cellsT (.mk y ly))) := HG9.out.below hb4 HG9.out.lt
      have c0 := HG9'.out.cell 0; have c1 := HG9'.out.cell 1; have c2 := HG9'.out.cell 2; have c3 := HG9'.out.cell 3; have c4 := HG9'.out.cell 4; have c5 := HG9'.out.cell 5; have c6 := HG9'.out.cell 6
      simp only [cellsT, cellsOf, List.getElem?_cons_zero, List.getElem?_cons_succ] at c0 c1 c2 c3 c4 c5 c6
      have hl34 := HG9'.out.lt
      clear he hb4 hB4 HG9
      go_upto_region 8 with fail
      have HBX : Hid (Blk (w4.alloc (.cells #[vb y.kind, .slice y.na y.names.length y.nc, .slice y.ka ly.length y.kc, .slice y.da y.data.length y.dc, .bool y.run, .float .f64 y.stamp, vs y.target] 27)) w4.heap.size 27 (cellsT (.mk y ly))) := Blk.new w4 27 _
      have hB45 : Below w4.heap.size w4 (w4.alloc (.cells #[vb y.kind, .slice y.na y.names.length y.nc, .slice y.ka ly.length y.kc, .slice y.da y.data.length y.dc, .bool y.run, .float .f64 y.stamp, vs y.target] 27)) := (Below.refl _ _).alloc (Nat.le_refl _) _
      have HG95 : Hid (Blk (w4.alloc (.cells #[vb y.kind, .slice y.na y.names.length y.nc, .slice y.ka ly.length y.kc, .slice y.da y.data.length y.dc, .bool y.run, .float .f64 y.stamp, vs y.target] 27)) w3.heap.size 27 (cellsT (.mk y ly))) := HG9'.out.below hB45 hl34
      have HO5 : Hid (Ok (w4.alloc (.cells #[vb y.kind, .slice y.na y.names.length y.nc, .slice y.ka ly.length y.kc, .slice y.da y.data.length y.dc, .bool y.run, .float .f64 y.stamp, vs y.target] 27)) w3.heap.size (.mk y ly)) := HO.out.keep (HB34.out.trans (hB45.mono (by omega)))
      have HW5 : Hid (Below w.heap.size w (w4.alloc (.cells #[vb y.kind, .slice y.na y.names.length y.nc, .slice y.ka ly.length y.kc, .slice y.da y.data.length y.dc, .bool y.run, .float .f64 y.stamp, vs y.target] 27))) := HB3.out.trans ((HB34.out.trans (hB45.mono (by omega))).mono HB3.out.size)
      have hs5 : (w4.alloc (.cells #[vb y.kind, .slice y.na y.names.length y.nc, .slice y.ka ly.length y.kc, .slice y.da y.data.length y.dc, .bool y.run, .float .f64 y.stamp, vs y.target] 27)).heap.size = w4.heap.size + 1 := by simp
      have HS5 := Lib.hid hs5
      change Code.wp _ _ _ _ (w4.alloc (.cells #[vb y.kind, .slice y.na y.names.length y.nc, .slice y.ka ly.length y.kc, .slice y.da y.data.length y.dc, .bool y.run, .float .f64 y.stamp, vs y.target] 27))
      clear hB45 hs5
      generalize w4.alloc (.cells #[vb y.kind, .slice y.na y.names.length y.nc, .slice y.ka ly.length y.kc, .slice y.da y.data.length y.dc, .bool y.run, .float .f64 y.stamp, vs y.target] 27) = W5 at *
      have d0 := HBX.out.cell 0; have d1 := HBX.out.cell 1; have d2 := HBX.out.cell 2; have d3 := HBX.out.cell 3; have d4 := HBX.out.cell 4; have d5 := HBX.out.cell 5; have d6 := HBX.out.cell 6
      simp only [cellsT, cellsOf, List.getElem?_cons_zero, List.getElem?_cons_succ] at d0 d1 d2 d3 d4 d5 d6
      have f0 := HBX.out.frozen 0; have f1 := HBX.out.frozen 1; have f2 := HBX.out.frozen 2; have f3 := HBX.out.frozen 3; have f4 := HBX.out.frozen 4; have f5 := HBX.out.frozen 5; have f6 := HBX.out.frozen 6
      have hl5 := HBX.out.lt
      clear c0 c1 c2 c3 c4 c5 c6
      have c0 := HG95.out.cell 0; have c1 := HG95.out.cell 1; have c2 := HG95.out.cell 2; have c3 := HG95.out.cell 3; have c4 := HG95.out.cell 4; have c5 := HG95.out.cell 5; have c6 := HG95.out.cell 6
      simp only [cellsT, cellsOf, List.getElem?_cons_zero, List.getElem?_cons_succ] at c0 c1 c2 c3 c4 c5 c6
      have HSW : Hid (Sw w w3.heap.size w4.heap.size y ly W5) := ⟨HG95.out, HBX.out, hl34, HB3.out.size, HO5.out, HMR.out, HW5.out⟩
      clear HG95 HO5 HMR HW5 HB34 HG9' HO HB3 HB1 HS5
      have hrm : what.toNat % 7 < 7 := Nat.mod_lt _ (by decide)
      by_cases r0 : what.toNat % 7 = 0
      · have hr : ((what.toNat : Int) % 7) = 0 := by omega
        clear r0 hrm
        go_upto_region 31 with fail
        have HR : Hid (Ready w w3.heap.size w4.heap.size y { y with kind := at_ } ly ly (W5.setCell ⟨w4.heap.size, 0, none⟩ (.int .u8 (at_.toNat : Int)))) := sw_set HSW.out 0 (.int .u8 (at_.toNat : Int)) rfl rfl rfl (fun hb => ⟨(HSW.out.head hb).nsrc, (HSW.out.head hb).nlt, (HSW.out.head hb).nnil, (HSW.out.head hb).ncap, (HSW.out.head hb).nlen, (HSW.out.head hb).neach, (HSW.out.head hb).dsrc, (HSW.out.head hb).dlt, (HSW.out.head hb).dnil, (HSW.out.head hb).dcap, (HSW.out.head hb).dlen, (HSW.out.head hb).stamp, (HSW.out.head hb).tlen, (HSW.out.head hb).knil⟩) HSW.out.names
        refine reg31 w3.heap.size w4.heap.size y _ ly _ _ _ HR.out.b9 HR.out.b10 HR.out.oky HR.out.okz HR.out.cn HR.out.few ?_
        intros
        rename Below _ _ _ => hfb
        have HFB : Hid (Below w.heap.size w _) := HR.out.below.trans (hfb.mono HR.out.below.size)
        clear hfb HR HSW HBX
        go_wp2_with fail
        go_ret
        exact ⟨rfl, HFB.out⟩
      by_cases r1 : what.toNat % 7 = 1
      · have hr : ((what.toNat : Int) % 7) = 1 := by omega
        clear r0 r1 hrm
        go_upto_region 31 with fail
        have HR : Hid (Ready w w3.heap.size w4.heap.size y { y with target := s } ly ly (W5.setCell ⟨w4.heap.size, 6, none⟩ (.string ⟨s.toArray⟩))) := sw_set HSW.out 6 (.string ⟨s.toArray⟩) rfl rfl rfl (fun hb => ⟨(HSW.out.head hb).nsrc, (HSW.out.head hb).nlt, (HSW.out.head hb).nnil, (HSW.out.head hb).ncap, (HSW.out.head hb).nlen, (HSW.out.head hb).neach, (HSW.out.head hb).dsrc, (HSW.out.head hb).dlt, (HSW.out.head hb).dnil, (HSW.out.head hb).dcap, (HSW.out.head hb).dlen, (HSW.out.head hb).stamp, (by show s.length ≤ _; unfold maxLen; omega), (HSW.out.head hb).knil⟩) HSW.out.names
        refine reg31 w3.heap.size w4.heap.size y _ ly _ _ _ HR.out.b9 HR.out.b10 HR.out.oky HR.out.okz HR.out.cn HR.out.few ?_
        intros
        rename Below _ _ _ => hfb
        have HFB : Hid (Below w.heap.size w _) := HR.out.below.trans (hfb.mono HR.out.below.size)
        clear hfb HR HSW HBX
        go_wp2_with fail
        go_ret
        exact ⟨rfl, HFB.out⟩
      by_cases r2 : what.toNat % 7 = 2
      · have hr : ((what.toNat : Int) % 7) = 2 := by omega
        clear r0 r1 r2 hrm
        obtain ⟨W6, cap, hcv, hb6, hs6, hby, hcap⟩ := conv_bytes s W5
        have HS6 := Lib.hid (HSW.out.keep hb6)
        have HBY := Lib.hid hby
        have hb10 := HS6.out.b10
        have d3' := hb10.cell 3; have f3' := hb10.frozen 3; have hl6 := hb10.lt
        simp only [cellsT, cellsOf, List.getElem?_cons_zero, List.getElem?_cons_succ] at d3'
        have hw56 := hb6.size
        have hw5l := HSW.out.b9.lt
        clear hb6 hby hb10
        go_upto_region 31 with fail
        have HR : Hid (Ready w w3.heap.size w4.heap.size y { y with da := some ⟨W5.heap.size, 0, none⟩, dc := cap, data := s } ly ly (W6.setCell ⟨w4.heap.size, 3, none⟩ (.slice (some ⟨W5.heap.size, 0, none⟩) s.length cap))) := by
          refine sw_set HS6.out 3 (.slice (some ⟨W5.heap.size, 0, none⟩) s.length cap) rfl rfl rfl (fun hb => ?_) HSW.out.names
          have hh := HS6.out.head hb
          refine ⟨hh.nsrc, hh.nlt, hh.nnil, hh.ncap, hh.nlen, hh.neach, fun _ => ⟨W5.heap.size, 0, rfl, fun k hk => ?_⟩, fun _ a ha => ?_, (fun h => by cases h), hcap, by show s.length ≤ _; unfold maxLen; omega, hh.stamp, hh.tlen, hh.knil⟩
          · rw [World.cell?_of_block (w := W6) (a := ⟨W5.heap.size, 0 + k, none⟩) (Below.heap_setCell W6 ⟨w4.heap.size, 3, none⟩ _ W5.heap.size (fun e => by simp only at e; omega))]; exact HBY.out k hk
          · cases ha; rw [World.size_setCell]; show W5.heap.size < _; omega
        refine reg31 w3.heap.size w4.heap.size y _ ly _ _ _ HR.out.b9 HR.out.b10 HR.out.oky HR.out.okz HR.out.cn HR.out.few ?_
        intros
        rename Below _ _ _ => hfb
        have HFB : Hid (Below w.heap.size w _) := HR.out.below.trans (hfb.mono HR.out.below.size)
        clear hfb HR HSW HBX
        go_wp2_with fail
        go_ret
        exact ⟨rfl, HFB.out⟩
      by_cases r3 : what.toNat % 7 = 3
      · have hr : ((what.toNat : Int) % 7) = 3 := by omega
        clear r0 r1 r2 r3 hrm
        have HNS : Hid (StrsIs W5 y.na y.names) := HSW.out.ok.hd.nsrc
        have HNN : Hid (y.na = none → y.nc = 0) := HSW.out.ok.hd.nnil
        have HNE : Hid (∀ t ∈ y.names ++ [s], t.length ≤ maxLen) := fun t ht => by
          rcases List.mem_append.1 ht with e | e
          · exact HSW.out.ok.hd.neach t e
          · obtain rfl : t = s := by simpa using e
            unfold maxLen; omega
        have hnl : y.names.length ≤ 40 := by
          have h1 := fits_names (List.all_eq_true.1 HSW.out.made.fits (.mk y ly) (all_self _))
          have h2 := kids_le (x := y) (ks := ly)
          omega
        have hkl : ly.length ≤ 40 := by have h2 := kids_le (x := y) (ks := ly); omega
        go_wp2_with (refine wpList_append_strs_any rfl (.const (.slice none 0 0)) (.tmp 74) rfl W5.heap.size (.slice none 0 0) [] rfl (strs_nil _ _) y.na y.nc y.names rfl HNN.out HNS.out (by simp; omega) (Nat.le_refl _) ?_)
        intro v1 x1 hn1 hg1
        replace hn1 : Strs x1 W5.heap.size v1 y.names := hn1
        have hb1 : Below W5.heap.size W5 x1 := (Below.refl _ _).grown hg1 (Nat.le_refl _) (by simp [Value.ownBlock])
        have HN1 : Hid (Strs (x1.alloc (.cells #[vs s] 9)) W5.heap.size v1 y.names) := hn1.alloc _
        have HB1' : Hid (Below W5.heap.size W5 (x1.alloc (.cells #[vs s] 9))) := hb1.alloc hb1.size _
        have hx1s := hb1.size
        have HCE : Hid (∀ k u, ([s].map vs)[k]? = some u → (x1.alloc (.cells #[vs s] 9)).cell? ((⟨x1.heap.size, 0, none⟩ : Addr).add k) = some u) := fun k u hk => by
          rw [Addr.add_mid, Nat.zero_add, (Blk.new x1 9 #[vs s]).cell]; exact hk
        clear hn1 hg1 hb1 HNS HNN
        go_wp2_with (refine wpList_append_strs rfl (.tmp 75) (.tmp 77) rfl W5.heap.size v1 y.names rfl HN1.out ⟨x1.heap.size, 0, none⟩ 1 1 [s] rfl rfl HCE.out (by omega) (by simp; omega) ?_)
        intro v2 x2 hn2 hg2
        have hb2 : Below W5.heap.size W5 x2 := HB1'.out.grown hg2 (by simp; omega) (fun k hk => (HN1.out.lt k hk).1)
        obtain ⟨A2, q2, hv2, -, -, -, -⟩ := Strs.src hn2
        subst hv2
        have HH := Lib.hid (half_of HSW.out hb2 hn2)
        have hs2 := HSW.out.keep hb2
        have e1 := hs2.b10.cell 1; have e2 := hs2.b10.cell 2; have e9 := hs2.b9.cell 2
        have g1 := hs2.b10.frozen 1; have g2 := hs2.b10.frozen 2; have hx2l := hs2.b10.lt; have hx2m := hs2.b9.lt
        simp only [cellsT, cellsOf, List.getElem?_cons_zero, List.getElem?_cons_succ] at e1 e2 e9
        have hx2s := hb2.size
        generalize (y.names ++ [s]).length = n2 at *
        have HKS : Hid (KidsAt (x2.setCell ⟨w4.heap.size, 1, none⟩ (.slice A2 n2 q2)) w3.heap.size y.ka ly) := HH.out.ok.at
        have HKN : Hid (y.ka = none → y.kc = 0) := HH.out.ok.hd.knil
        clear hn2 hg2 hb2 hs2 HN1 HB1' HCE
        go_wp2_with (refine wpList_append_nodes_any rfl (.const (.slice none 0 0)) (.tmp 81) rfl W5.heap.size (.slice none 0 0) [] rfl (nodes_nil _ _) y.ka y.kc w3.heap.size ly rfl HKN.out HKS.out (by simp; omega) (by rw [World.size_setCell]; omega) ?_)
        intro v3 x3 hn3 hg3
        replace hn3 : Nodes x3 W5.heap.size v3 ly := hn3
        have hb3 : Below W5.heap.size (x2.setCell ⟨w4.heap.size, 1, none⟩ (.slice A2 n2 q2)) x3 := (Below.refl _ _).grown hg3 (by rw [World.size_setCell]; omega) (by simp [Value.ownBlock])
        have HH3 := Lib.hid (HH.out.keep hb3 (HH.out.names.kept (nodes_nil _ W5.heap.size) hg3))
        have hx3s := hb3.size
        rw [World.size_setCell] at hx3s
        have HN3 : Hid (Nodes (x3.alloc (.cells #[.int .u8 2, .slice none 0 0, .slice none 0 0, .slice none 0 0, .bool false, .float .f64 0, .string ⟨#[]⟩] 27)) W5.heap.size v3 ly) := hn3.alloc _
        have HS3 : Hid (Strs (x3.alloc (.cells #[.int .u8 2, .slice none 0 0, .slice none 0 0, .slice none 0 0, .bool false, .float .f64 0, .string ⟨#[]⟩] 27)) W5.heap.size (.slice A2 n2 q2) (y.names ++ [s])) := HH3.out.names.alloc _
        have HCE : Hid (∀ k u, ([fileN].flatMap cellsT)[k]? = some u → (x3.alloc (.cells #[.int .u8 2, .slice none 0 0, .slice none 0 0, .slice none 0 0, .bool false, .float .f64 0, .string ⟨#[]⟩] 27)).cell? ((⟨x3.heap.size, 0, none⟩ : Addr).add k) = some u) := fun k u hk => by
          rw [Addr.add_mid, Nat.zero_add, (Blk.new x3 27 #[.int .u8 2, .slice none 0 0, .slice none 0 0, .slice none 0 0, .bool false, .float .f64 0, .string ⟨#[]⟩]).cell]; exact hk
        clear hn3 hg3 hb3 HH HKS HKN e1 e2 e9 g1 g2
        go_wp2_with (refine wpList_append_nodes rfl (.tmp 82) (.tmp 84) rfl W5.heap.size v3 ly rfl HN3.out ⟨x3.heap.size, 0, none⟩ 1 1 [fileN] rfl rfl HCE.out (by omega) (by simp; omega) ?_)
        intro v4 x4 hn4 hg4
        have hb4 : Below W5.heap.size x3 x4 := ((Below.refl W5.heap.size x3).alloc (by omega) _).grown hg4 (by simp; omega) (fun k hk => (HN3.out.lt k hk).1)
        have HH4 := Lib.hid (HH3.out.keep hb4 (HS3.out.kept HN3.out hg4))
        obtain ⟨A4, q4, hv4, -, -, -, -⟩ := Nodes.src hn4
        subst hv4
        obtain ⟨z, -, hrd⟩ := half_ready HH4.out hn4 (by simp; omega) HNE.out
        have HR := Lib.hid hrd
        have e2 := HH4.out.b10.cell 2; have g2 := HH4.out.b10.frozen 2; have hx4l := HH4.out.b10.lt
        simp only [List.getElem?_cons_zero, List.getElem?_cons_succ] at e2
        generalize (ly ++ [fileN]).length = n4 at *
        clear hn4 hg4 hb4 HH3 HN3 HS3 HCE HH4 hrd HNE
        go_upto_region 31 with fail
        refine reg31 w3.heap.size w4.heap.size y _ ly _ _ _ HR.out.b9 HR.out.b10 HR.out.oky HR.out.okz HR.out.cn HR.out.few ?_
        intros
        rename Below _ _ _ => hfb
        have HFB : Hid (Below w.heap.size w _) := HR.out.below.trans (hfb.mono HR.out.below.size)
        clear hfb HR HSW HBX
        go_wp2_with fail
        go_ret
        exact ⟨rfl, HFB.out⟩
      by_cases r4 : what.toNat % 7 = 4
      · have hr : ((what.toNat : Int) % 7) = 4 := by omega
        clear r0 r1 r2 r3 r4 hrm
        go_upto_region 31 with fail
        have HR : Hid (Ready w w3.heap.size w4.heap.size y { y with run := !y.run } ly ly (W5.setCell ⟨w4.heap.size, 4, none⟩ (.bool !y.run))) := sw_set HSW.out 4 (.bool !y.run) rfl rfl rfl (fun hb => ⟨(HSW.out.head hb).nsrc, (HSW.out.head hb).nlt, (HSW.out.head hb).nnil, (HSW.out.head hb).ncap, (HSW.out.head hb).nlen, (HSW.out.head hb).neach, (HSW.out.head hb).dsrc, (HSW.out.head hb).dlt, (HSW.out.head hb).dnil, (HSW.out.head hb).dcap, (HSW.out.head hb).dlen, (HSW.out.head hb).stamp, (HSW.out.head hb).tlen, (HSW.out.head hb).knil⟩) HSW.out.names
        refine reg31 w3.heap.size w4.heap.size y _ ly _ _ _ HR.out.b9 HR.out.b10 HR.out.oky HR.out.okz HR.out.cn HR.out.few ?_
        intros
        rename Below _ _ _ => hfb
        have HFB : Hid (Below w.heap.size w _) := HR.out.below.trans (hfb.mono HR.out.below.size)
        clear hfb HR HSW HBX
        go_wp2_with fail
        go_ret
        exact ⟨rfl, HFB.out⟩
      by_cases r5 : what.toNat % 7 = 5
      · have hr : ((what.toNat : Int) % 7) = 5 := by omega
        clear r0 r1 r2 r3 r4 r5 hrm
        have HN0 := Lib.hid (nest_start HSW.out)
        obtain ⟨an, han⟩ : ∃ an : Nat, ((at_.toNat : Int) % 12) = (an : Int) := ⟨at_.toNat % 12, by omega⟩
        have han2 : an < 12 := by omega
        clear d0 d1 d2 d3 d4 d5 d6 f0 f1 f2 f3 f4 f5 f6 c0 c1 c2 c3 c4 c5 c6
        go_wp2_with fail
        go_loopw [11] (fun vi wr => ∃ i : Nat, i ≤ an ∧ vi = .int .i64 i ∧ Hid (∃ z lz, NestRel w w3.heap.size w4.heap.size y ly i z lz wr)) (fun vi _ => an - (intOf vi).toNat)
        case atStart => exact ⟨0, by omega, rfl, _, _, HN0.out⟩
        case round =>
          obtain ⟨i, hi, rfl, HP⟩ := hrel
          rename World => W0
          obtain ⟨z, lz, hn⟩ := HP.out
          have HN := Lib.hid hn
          have d0 := hn.b10.cell 0; have d1 := hn.b10.cell 1; have d2 := hn.b10.cell 2; have d3 := hn.b10.cell 3; have d4 := hn.b10.cell 4; have d5 := hn.b10.cell 5; have d6 := hn.b10.cell 6
          simp only [cellsT, cellsOf, List.getElem?_cons_zero, List.getElem?_cons_succ] at d0 d1 d2 d3 d4 d5 d6
          have f0 := hn.b10.frozen 0; have f1 := hn.b10.frozen 1; have f2 := hn.b10.frozen 2; have f3 := hn.b10.frozen 3; have f4 := hn.b10.frozen 4; have f5 := hn.b10.frozen 5; have f6 := hn.b10.frozen 6
          have hl0 := hn.b10.lt
          clear hn HP HN0
          by_cases hlt : i < an
          · go_wp2_with fail
            go_roundw
            case rel => exact ⟨i + 1, by omega, by go_num, _, _, nest_step HN.out⟩
            case measure => simp [intOf]; omega
          · obtain rfl : i = an := by omega
            clear d0 d1 d2 d3 d4 d5 d6 f0 f1 f2 f3 f4 f5 f6
            have HR := Lib.hid (HN.out.ready (by omega))
            go_upto_region 31 with fail
            refine reg31 w3.heap.size w4.heap.size y _ ly _ _ _ HR.out.b9 HR.out.b10 HR.out.oky HR.out.okz HR.out.cn HR.out.few ?_
            intros
            rename Below _ _ _ => hfb
            have HFB : Hid (Below w.heap.size w _) := HR.out.below.trans (hfb.mono HR.out.below.size)
            clear hfb HR HSW HBX
            go_wp2_with fail
            go_ret
            exact ⟨rfl, HFB.out⟩
      · have hr : ((what.toNat : Int) % 7) = 6 := by omega
        clear r0 r1 r2 r3 r4 r5 hrm
        have HNS : Hid (StrsIs W5 y.na y.names) := HSW.out.ok.hd.nsrc
        have HNN : Hid (y.na = none → y.nc = 0) := HSW.out.ok.hd.nnil
        have HNE : Hid (∀ t ∈ y.names, t.length ≤ maxLen) := HSW.out.ok.hd.neach
        have HSL : Hid (s.length ≤ maxLen) := by show s.length ≤ _; unfold maxLen; omega
        have hnl : y.names.length ≤ 40 := by
          have h1 := fits_names (List.all_eq_true.1 HSW.out.made.fits (.mk y ly) (all_self _))
          have h2 := kids_le (x := y) (ks := ly)
          omega
        go_wp2_with (refine wpList_append_strs_any rfl (.const (.slice none 0 0)) (.tmp 35) rfl W5.heap.size (.slice none 0 0) [] rfl (strs_nil _ _) y.na y.nc y.names rfl HNN.out HNS.out (by simp; omega) (Nat.le_refl _) ?_)
        intro v1 x1 hn1 hg1
        replace hn1 : Strs x1 W5.heap.size v1 y.names := hn1
        have hb1 : Below W5.heap.size W5 x1 := (Below.refl _ _).grown hg1 (Nat.le_refl _) (by simp [Value.ownBlock])
        obtain ⟨A1, q1, hv1, -, hA1n, -, -⟩ := Strs.src hn1
        subst hv1
        have HH := Lib.hid (half_of HSW.out hb1 hn1)
        have hs1 := HSW.out.keep hb1
        have e1 := hs1.b10.cell 1; have g1 := hs1.b10.frozen 1; have hx1l := hs1.b10.lt
        simp only [cellsT, cellsOf, List.getElem?_cons_zero, List.getElem?_cons_succ] at e1
        have HLN : Hid (∃ nn, y.names.length = nn ∧ nn ≤ 40) := ⟨_, rfl, hnl⟩
        clear hn1 hg1 hb1 hs1 HNS HNN d0 d1 d2 d3 d4 d5 d6 f0 f1 f2 f3 f4 f5 f6 c0 c1 c2 c3 c4 c5 c6
        go_upto_region 10 with fail
        generalize x1.setCell ⟨w4.heap.size, 1, none⟩ (.slice A1 y.names.length q1) = W7 at *
        clear e1 g1 hx1l
        have HI0 : Hid (∃ ls, Half w w3.heap.size w4.heap.size W5.heap.size y ly (.slice A1 y.names.length q1) ls W7 ∧ ls.length = y.names.length ∧ ∀ t ∈ ls, t.length ≤ maxLen) := ⟨_, HH.out, rfl, HNE.out⟩
        clear HH HNE HLN
        generalize y.names.length = nn at *
        have hau := at_.toNat_lt
        go_wp2_with fail
        go_loopw [12] (fun vi wr => ∃ i : Nat, i ≤ nn ∧ vi = .int .i64 i ∧ Hid (∃ ls, Half w w3.heap.size w4.heap.size W5.heap.size y ly (.slice A1 nn q1) ls wr ∧ ls.length = nn ∧ ∀ t ∈ ls, t.length ≤ maxLen)) (fun vi _ => nn - (intOf vi).toNat)
        case atStart => exact ⟨0, by omega, rfl, HI0.out⟩
        case round =>
          obtain ⟨i, hi, rfl, HP⟩ := hrel
          rename World => W0
          obtain ⟨ls, hh, hll, hle⟩ := HP.out
          have HH := Lib.hid hh; have HLL := Lib.hid hll; have HLE := Lib.hid hle
          have e1 := hh.b10.cell 1; have g1 := hh.b10.frozen 1; have hx0 := hh.b10.lt
          simp only [List.getElem?_cons_zero, List.getElem?_cons_succ] at e1
          clear hh hll hle HP HI0
          by_cases hlt : i < nn
          · obtain ⟨pm, hpm⟩ : ∃ pm : Nat, pm = at_.toNat % nn := ⟨_, rfl⟩
            have hq1 : ((at_.toNat : Int) % (nn : Int)) = (pm : Int) := by rw [hpm]; exact (Int.natCast_emod _ _).symm
            have hq2 : ((at_.toNat : Int).tmod (nn : Int)) = (pm : Int) := by rw [Int.tmod_eq_emod_of_nonneg (by omega)]; exact hq1
            have hpl : pm < nn := by rw [hpm]; exact Nat.mod_lt _ (by omega)
            clear hpm
            by_cases hip : i = pm
            · subst hip
              obtain ⟨g, hA⟩ : ∃ g, A1 = some ⟨g, 0, none⟩ := by
                rcases HH.out.names.2 with ⟨h1, h2⟩ | ⟨g, cap, cur, h1, _⟩
                · have := HLL.out; omega
                · exact ⟨g, by simpa using congrArg (fun v => match v with | Value.slice a _ _ => a | _ => none) h1⟩
              subst hA
              obtain ⟨k1', k2, k3, k4, k5⟩ := strs_set HH.out.names HLL.out i hlt s
              obtain ⟨lo, k1⟩ : ∃ lo, W0.cell? ⟨g, i, none⟩ = some (vs lo) := ⟨_, k1'⟩
              clear k1'
              have HH2 : Hid (Half w w3.heap.size w4.heap.size W5.heap.size y ly (.slice (some ⟨g, 0, none⟩) nn q1) (ls.set i s) (W0.setCell ⟨g, i, none⟩ (vs s))) := HH.out.keep2 ((Below.refl _ _).setCell (by exact k4) _) k5
              have HLL2 : Hid ((ls.set i s).length = nn) := by show _ = _; rw [List.length_set]; exact HLL.out
              have HLE2 : Hid (∀ t ∈ ls.set i s, t.length ≤ maxLen) := fun t ht => by
                rcases List.mem_or_eq_of_mem_set ht with e | e
                · exact HLE.out t e
                · rw [e]; exact HSL.out
              clear k5 HH HLL HLE
              go_wp2_with fail
              go_roundw
              case rel => exact ⟨i + 1, by omega, by go_num, _, HH2.out, HLL2.out, HLE2.out⟩
              case measure => simp [intOf]; omega
            · have hb : ((i : Int) == (pm : Int)) = false := by rw [beq_eq_false_iff_ne]; omega
              have hb' : (i == pm) = false := by rw [beq_eq_false_iff_ne]; exact hip
              clear hip
              go_wp2_with fail
              go_roundw
              case rel => exact ⟨i + 1, by omega, by go_num, _, HH.out, HLL.out, HLE.out⟩
              case measure => simp [intOf]; omega
          · obtain ⟨z, -, hrd⟩ := half_ready0 HH.out (by have := HLL.out; omega) HLE.out
            have HR := Lib.hid hrd
            obtain rfl : i = nn := by omega
            clear hrd HH HLL HLE
            go_upto_region 31 with fail
            refine reg31 w3.heap.size w4.heap.size y _ ly _ _ _ HR.out.b9 HR.out.b10 HR.out.oky HR.out.okz HR.out.cn HR.out.few ?_
            intros
            rename Below _ _ _ => hfb
            have HFB : Hid (Below w.heap.size w _) := HR.out.below.trans (hfb.mono HR.out.below.size)
            clear hfb HR HSW HBX
            go_wp2_with fail
            go_ret
            exact ⟨rfl, HFB.out⟩
    · have hs2' : decide ((2000 : Int) < s.length) = true := decide_eq_true (by omega)
      go_wp2_with fail
      refine (leaf_any w1).mono ?_
      rintro e w2 ⟨rfl, hb2⟩
      have HB2 : Hid (Below w.heap.size w w2) := HB1.out.trans (hb2.mono HB1.out.size)
      clear hb2
      go_wp2_with fail
      go_ret
      exact ⟨rfl, HB2.out⟩
end Go.Proofs.Ytkehfploodobmaa
