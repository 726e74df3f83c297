/- TreeBounds: the walk. -/
import Derived.Test.YtkehfploodobmaaK4
import Derived.Deep.CutBlock
import Derived.Deep.RegionHeld3
namespace Go.Proofs.Ytkehfploodobmaa
open Go.RowKit TreeMath RealMath

set_option maxHeartbeats 4000000 in
theorem bounds_walk (a b : By) (c : Nat) (hc : c < 65536) (w : World) :
    Calls Try.prog 8 #[vb a, vb b, .int .u16 c] w fun e w' => e = .returned (.bool true) ∧ Below w.heap.size w w' := by
  go_enter Try.func8, Try.ntmps8
  go_wp2_with fail
  refine (leaf_any w).mono ?_
  rintro e w1 ⟨rfl, hb1⟩
  have HB1 := Lib.hid hb1
  clear hb1
  go_upto_region 5 with fail
  obtain ⟨dn, hdn⟩ : ∃ dn : Nat, (1 + (a.toNat : Int) % 10) = (dn : Int) := ⟨1 + a.toNat % 10, by omega⟩
  have hd1 : 1 ≤ dn := by omega
  have hd2 : dn ≤ 10 := by omega
  rw [hdn]
  clear hdn
  have hs0 : DeepRel w1 w1.heap.size 1 (.mk (fileHd none 0 [] false 0) []) (w1.alloc (.cells #[.int .u8 2, .slice none 0 0, .slice none 0 0, .slice none 0 0, .bool false, .float .f64 0, .string ⟨#[]⟩] 27)) :=
    ⟨Blk.new w1 27 _, ok_file _ _ _ _ _ (fun h => absurd h (by simp)) (fun h => absurd h (by simp)) (fun _ => rfl) (by simp) (by simp) (by omega), inS_file _ _ _ _ _ _ (fun h => absurd h (by simp)), by rw [count_mk, allL]; rfl, by rw [TreeMath.depth, depthL], by rw [all, allL, List.all_cons, fits_file]; rfl, (Below.refl _ _).alloc (Nat.le_refl _) _⟩
  have HS0 := Lib.hid hs0
  clear hs0
  generalize w1.alloc (.cells #[.int .u8 2, .slice none 0 0, .slice none 0 0, .slice none 0 0, .bool false, .float .f64 0, .string ⟨#[]⟩] 27) = W1 at *
  go_wp2_with fail
  go_loopw [9] (fun vi wr => ∃ i : Nat, 1 ≤ i ∧ i ≤ dn ∧ vi = .int .i64 i ∧ Hid (∃ x ks, DeepRel w1 w1.heap.size i (.mk x ks) wr)) (fun vi _ => dn - (intOf vi).toNat)
  case atStart => exact ⟨1, by omega, by omega, rfl, _, _, HS0.out⟩
  case round =>
    obtain ⟨i, hi1, hi, rfl, HP⟩ := hrel
    rename World => W0
    obtain ⟨x, ks, hd⟩ := HP.out
    have HD := Lib.hid hd
    have c0 := hd.blk.cell 0; have c1 := hd.blk.cell 1; have c2 := hd.blk.cell 2; have c3 := hd.blk.cell 3; have c4 := hd.blk.cell 4; have c5 := hd.blk.cell 5; have c6 := hd.blk.cell 6
    have f0 := hd.blk.frozen 0; have f1 := hd.blk.frozen 1; have f2 := hd.blk.frozen 2; have f3 := hd.blk.frozen 3; have f4 := hd.blk.frozen 4; have f5 := hd.blk.frozen 5; have f6 := hd.blk.frozen 6
    have hgl := hd.blk.lt
    simp only [cellsT, cellsOf, List.getElem?_cons_zero, List.getElem?_cons_succ] at c0 c1 c2 c3 c4 c5 c6
    clear hd HP
    by_cases hlt : i < dn
    · go_wp2_with fail
      go_roundw
      case rel => exact ⟨i + 1, by omega, by omega, by go_num, _, _, deep_step HD.out⟩
      case measure => simp [intOf]; omega
    · obtain rfl : dn = i := by omega
      clear c0 c1 c2 c3 c4 c5 c6 f0 f1 f2 f3 f4 f5 f6 HS0
      go_upto_region 11 with fail
      obtain ⟨kn, hkn⟩ : ∃ kn : Nat, ((b.toNat : Int) % 70) = (kn : Int) := ⟨b.toNat % 70, by omega⟩
      have hk7 : kn < 70 := by omega
      rw [hkn]
      clear hkn
      have HW0 := Lib.hid (wide_start W0)
      have HDB : Hid (Blk (W0.alloc (.cells #[.int .u8 1, .slice none 0 0, .slice none 0 0, .slice none 0 0, .bool false, .float .f64 0, .string ⟨#[]⟩] 27)) w1.heap.size 27 (cellsT (.mk x ks))) := HD.out.blk.alloc _
      generalize W0.alloc (.cells #[.int .u8 1, .slice none 0 0, .slice none 0 0, .slice none 0 0, .bool false, .float .f64 0, .string ⟨#[]⟩] 27) = W2 at *
      go_wp2_with fail
      go_loopw [12] (fun vi wr => ∃ i : Nat, i ≤ kn ∧ vi = .int .i64 i ∧ Hid (∃ vn vk, WideRel W0 i i vn vk wr)) (fun vi _ => kn - (intOf vi).toNat)
      case atStart => exact ⟨0, by omega, rfl, _, _, HW0.out⟩
      case round =>
        obtain ⟨j, hj, rfl, HP⟩ := hrel
        rename World => W3
        obtain ⟨vn, vk, hw⟩ := HP.out
        have HWR := Lib.hid hw
        have c1 := hw.blk.cell 1; have c2 := hw.blk.cell 2
        have f1 := hw.blk.frozen 1; have f2 := hw.blk.frozen 2
        have hgm := hw.blk.lt
        simp only [List.getElem?_cons_zero, List.getElem?_cons_succ] at c1 c2
        clear hw HP
        by_cases hlt : j < kn
        · have hcv := wname_conv j (by omega) W3
          have HW4 := Lib.hid ((HWR.out.alloc (.cells #[.int .u8 (97 + (j : Int) / 10), .int .u8 (48 + (j : Int) % 10)] 5)).alloc (.cells #[vs (wname j)] 9))
          have HCE : Hid (∀ k u, ([wname j].map vs)[k]? = some u → ((W3.alloc (.cells #[.int .u8 (97 + (j : Int) / 10), .int .u8 (48 + (j : Int) % 10)] 5)).alloc (.cells #[vs (wname j)] 9)).cell? ((⟨W3.heap.size + 1, 0, none⟩ : Addr).add k) = some u) := fun k u hk => by
            have := (Blk.new (W3.alloc (.cells #[.int .u8 (97 + (j : Int) / 10), .int .u8 (48 + (j : Int) % 10)] 5)) 9 #[vs (wname j)]).cell k
            rw [World.size_alloc] at this
            rw [Addr.add_mid, Nat.zero_add, this]; exact hk
          have hwl : (wnames j).length ≤ 70 := by unfold wnames; simp; omega
          go_wp2_with (refine wpList_append_strs rfl (.tmp 40) (.tmp 51) rfl (W0.heap.size + 1) vn (wnames j) rfl HW4.out.names ⟨W3.heap.size + 1, 0, none⟩ 1 1 [wname j] rfl rfl HCE.out (by omega) (by simp; omega) ?_)
          intro v' w' hn hg
          obtain ⟨A1, q1, rfl, -, -, -, -⟩ := Strs.src hn
          generalize (wnames j ++ [wname j]).length = n1 at *
          have hb' := wide_blk_n HW4.out hg
          have c1' := hb'.cell 1; have c2' := hb'.cell 2; have f1' := hb'.frozen 1; have hl' := hb'.lt
          simp only [List.getElem?_cons_zero, List.getElem?_cons_succ] at c1' c2'
          have HW5 := Lib.hid (wide_names HW4.out hn hg)
          have hl5 := HW5.out.blk.lt
          rw [World.size_setCell] at hl5
          clear hb' hn hg HW4 HCE HWR hcv c1 c2 f1 f2
          have HW6 := Lib.hid (HW5.out.alloc (.cells #[.int .u8 2, .slice none 0 0, .slice none 0 0, .slice none 0 0, .bool false, .float .f64 0, .string ⟨#[]⟩] 27))
          have HCE : Hid (∀ k u, ([fileZ].flatMap cellsT)[k]? = some u → ((w'.setCell ⟨W0.heap.size, 1, none⟩ (.slice A1 n1 q1)).alloc (.cells #[.int .u8 2, .slice none 0 0, .slice none 0 0, .slice none 0 0, .bool false, .float .f64 0, .string ⟨#[]⟩] 27)).cell? ((⟨w'.heap.size, 0, none⟩ : Addr).add k) = some u) := fun k u hk => by
            have := (Blk.new (w'.setCell ⟨W0.heap.size, 1, none⟩ (.slice A1 n1 q1)) 27 #[.int .u8 2, .slice none 0 0, .slice none 0 0, .slice none 0 0, .bool false, .float .f64 0, .string ⟨#[]⟩]).cell k
            rw [World.size_setCell] at this
            rw [Addr.add_mid, Nat.zero_add, this]; exact hk
          go_wp2_with (refine wpList_append_nodes rfl (.tmp 55) (.tmp 57) rfl (W0.heap.size + 1) vk (List.replicate j fileZ) rfl HW6.out.kids ⟨w'.heap.size, 0, none⟩ 1 1 [fileZ] rfl rfl HCE.out (by simp; omega) (by simp; omega) ?_)
          intro v2 w2 hn2 hg2
          obtain ⟨A2, q2, rfl, -, -, -, -⟩ := Nodes.src hn2
          generalize (List.replicate j fileZ ++ [fileZ]).length = n2 at *
          have hb2 := wide_blk_k HW6.out hg2
          have c3' := hb2.cell 2; have f3' := hb2.frozen 2; have hl2 := hb2.lt
          simp only [List.getElem?_cons_zero, List.getElem?_cons_succ] at c3'
          have HW7 := Lib.hid (wide_kids HW6.out hn2 hg2)
          clear hb2 hn2 hg2 HW5 HW6 HCE c1' c2' f1' hl' hl5
          go_wp2_with fail
          go_roundw
          case rel => exact ⟨j + 1, by omega, by go_num, _, _, HW7.out⟩
          case measure => simp [intOf]; omega
        · obtain rfl : kn = j := by omega
          clear c1 c2 f1 f2 HW0 HDB
          obtain ⟨ln, hln⟩ : ∃ ln : Nat, ((c : Int) % 1030) = (ln : Int) := ⟨c % 1030, by omega⟩
          have hl1 : ln < 1030 := by omega
          obtain ⟨An, cn, Ak, ck, hvn, hvk, hokm⟩ := wide_ok HWR.out hk7
          subst hvn hvk
          have hmk := made_run W3 ln (by omega)
          have bf0 := (Blk.new W3 5 ((List.replicate ln (0 : By)).map vb).toArray).alloc (.cells #[.int .u8 2, .slice none 0 0, .slice none 0 0, .slice (some ⟨W3.heap.size, 0, none⟩) ln ln, .bool false, .float .f64 0, .string ⟨#[]⟩] 27)
          have bf1 := Blk.new (W3.alloc (.cells ((List.replicate ln (0 : By)).map vb).toArray 5)) 27 #[.int .u8 2, .slice none 0 0, .slice none 0 0, .slice (some ⟨W3.heap.size, 0, none⟩) ln ln, .bool false, .float .f64 0, .string ⟨#[]⟩]
          rw [World.size_alloc] at bf1
          have hB6 : Below W3.heap.size W3 ((W3.alloc (.cells ((List.replicate ln (0 : By)).map vb).toArray 5)).alloc (.cells #[.int .u8 2, .slice none 0 0, .slice none 0 0, .slice (some ⟨W3.heap.size, 0, none⟩) ln ln, .bool false, .float .f64 0, .string ⟨#[]⟩] 27)) := ((Below.refl _ _).alloc (Nat.le_refl _) _).alloc (by simp) _
          have hs6 : ((W3.alloc (.cells ((List.replicate ln (0 : By)).map vb).toArray 5)).alloc (.cells #[.int .u8 2, .slice none 0 0, .slice none 0 0, .slice (some ⟨W3.heap.size, 0, none⟩) ln ln, .bool false, .float .f64 0, .string ⟨#[]⟩] 27)).heap.size = W3.heap.size + 2 := by simp
          have HFO : Hid (Ok ((W3.alloc (.cells ((List.replicate ln (0 : By)).map vb).toArray 5)).alloc (.cells #[.int .u8 2, .slice none 0 0, .slice none 0 0, .slice (some ⟨W3.heap.size, 0, none⟩) ln ln, .bool false, .float .f64 0, .string ⟨#[]⟩] 27)) (W3.heap.size + 2) (.mk (fileHd (some ⟨W3.heap.size, 0, none⟩) ln (List.replicate ln 0) false 0) [])) :=
            ok_file _ _ _ _ _ (Blk.src (tl := []) (by simpa using bf0)) (fun _ a ha => by cases ha; show W3.heap.size < _; omega) (fun h => by cases h) (by simp) (by unfold maxLen; simp; omega) (by omega)
          generalize ((List.replicate ln (0 : By)).map vb).toArray = Z at *
          have hdl := HD.out.blk.lt
          have hwl := HWR.out.blk.lt
          have HB6 := Lib.hid hB6; have HS6 := Lib.hid hs6; have HBF := Lib.hid bf1
          have HOM : Hid (Ok ((W3.alloc (.cells Z 5)).alloc (.cells #[.int .u8 2, .slice none 0 0, .slice none 0 0, .slice (some ⟨W3.heap.size, 0, none⟩) ln ln, .bool false, .float .f64 0, .string ⟨#[]⟩] 27)) W3.heap.size (.mk (dirHd An cn (wnames kn) Ak ck) (List.replicate kn fileZ))) := hokm.keep hB6
          have HON : Hid (Ok ((W3.alloc (.cells Z 5)).alloc (.cells #[.int .u8 2, .slice none 0 0, .slice none 0 0, .slice (some ⟨W3.heap.size, 0, none⟩) ln ln, .bool false, .float .f64 0, .string ⟨#[]⟩] 27)) W0.heap.size (.mk x ks)) := HD.out.ok.keep (HWR.out.below.trans (hB6.mono (by omega)))
          have HBN : Hid (Blk ((W3.alloc (.cells Z 5)).alloc (.cells #[.int .u8 2, .slice none 0 0, .slice none 0 0, .slice (some ⟨W3.heap.size, 0, none⟩) ln ln, .bool false, .float .f64 0, .string ⟨#[]⟩] 27)) w1.heap.size 27 (cellsT (.mk x ks))) := (HD.out.blk.below HWR.out.below hdl).below hB6 (by omega)
          have HBM : Hid (Blk ((W3.alloc (.cells Z 5)).alloc (.cells #[.int .u8 2, .slice none 0 0, .slice none 0 0, .slice (some ⟨W3.heap.size, 0, none⟩) ln ln, .bool false, .float .f64 0, .string ⟨#[]⟩] 27)) W0.heap.size 27 [.int .u8 1, .slice An kn cn, .slice Ak kn ck, .slice none 0 0, .bool false, .float .f64 0, .string ⟨#[]⟩]) := HWR.out.blk.below hB6 hwl
          have HBW : Hid (Below w.heap.size w ((W3.alloc (.cells Z 5)).alloc (.cells #[.int .u8 2, .slice none 0 0, .slice none 0 0, .slice (some ⟨W3.heap.size, 0, none⟩) ln ln, .bool false, .float .f64 0, .string ⟨#[]⟩] 27))) := HB1.out.trans ((HD.out.below.trans (HWR.out.below.mono (by omega))).trans (hB6.mono (by omega)) |>.mono HB1.out.size)
          have HRD := Lib.hid (deep_right HD.out hd2)
          have HCD : Hid (count (.mk x ks) = dn ∧ depth (.mk x ks) = dn) := ⟨HD.out.count, HD.out.depth⟩
          have hl63 : decide ((dn : Int) ≤ 8) = decide (dn ≤ 8) := decide_eq_decide.2 (by omega)
          clear bf0 bf1 hB6 hs6 hokm
          go_upto_region 17 with fail
          have hs6 := HS6.out
          generalize ((W3.alloc (.cells Z 5)).alloc (.cells #[.int .u8 2, .slice none 0 0, .slice none 0 0, .slice (some ⟨W3.heap.size, 0, none⟩) ln ln, .bool false, .float .f64 0, .string ⟨#[]⟩] 27)) = W6 at *
          replace HS6 := Lib.hid hs6
          clear hs6 hmk hln
          have HCELL : Hid (∀ W, Below W6.heap.size W6 W → W.cell? ⟨w1.heap.size, 0, none⟩ = some (vb x.kind) ∧ W.cell? ⟨w1.heap.size, 1, none⟩ = some (.slice x.na x.names.length x.nc) ∧ W.cell? ⟨w1.heap.size, 2, none⟩ = some (.slice x.ka ks.length x.kc) ∧ W.cell? ⟨w1.heap.size, 3, none⟩ = some (.slice x.da x.data.length x.dc) ∧ W.cell? ⟨w1.heap.size, 4, none⟩ = some (.bool x.run) ∧ W.cell? ⟨w1.heap.size, 5, none⟩ = some (.float .f64 x.stamp) ∧ W.cell? ⟨w1.heap.size, 6, none⟩ = some (vs x.target) ∧ W.cell? ⟨W0.heap.size, 0, none⟩ = some (.int .u8 1) ∧ W.cell? ⟨W0.heap.size, 1, none⟩ = some (.slice An kn cn) ∧ W.cell? ⟨W0.heap.size, 2, none⟩ = some (.slice Ak kn ck) ∧ W.cell? ⟨W0.heap.size, 3, none⟩ = some (.slice none 0 0) ∧ W.cell? ⟨W0.heap.size, 4, none⟩ = some (.bool false) ∧ W.cell? ⟨W0.heap.size, 5, none⟩ = some (.float .f64 0) ∧ W.cell? ⟨W0.heap.size, 6, none⟩ = some (.string ⟨#[]⟩) ∧ W.cell? ⟨W3.heap.size + 1, 0, none⟩ = some (.int .u8 2) ∧ W.cell? ⟨W3.heap.size + 1, 1, none⟩ = some (.slice none 0 0) ∧ W.cell? ⟨W3.heap.size + 1, 2, none⟩ = some (.slice none 0 0) ∧ W.cell? ⟨W3.heap.size + 1, 3, none⟩ = some (.slice (some ⟨W3.heap.size, 0, none⟩) ln ln) ∧ W.cell? ⟨W3.heap.size + 1, 4, none⟩ = some (.bool false) ∧ W.cell? ⟨W3.heap.size + 1, 5, none⟩ = some (.float .f64 0) ∧ W.cell? ⟨W3.heap.size + 1, 6, none⟩ = some (.string ⟨#[]⟩)) := fun W hW => by
            have h1 := HBN.out.below hW (by have := HS6.out; omega)
            have h2 := HBM.out.below hW (by have := HS6.out; omega)
            have h3 := HBF.out.below hW (by have := HS6.out; omega)
            exact ⟨h1.cell 0, h1.cell 1, h1.cell 2, h1.cell 3, h1.cell 4, h1.cell 5, h1.cell 6, h2.cell 0, h2.cell 1, h2.cell 2, h2.cell 3, h2.cell 4, h2.cell 5, h2.cell 6, h3.cell 0, h3.cell 1, h3.cell 2, h3.cell 3, h3.cell 4, h3.cell 5, h3.cell 6⟩
          have HNEXT : Hid (∀ W W', Below W6.heap.size W6 W → Below W.heap.size W W' → Below W6.heap.size W6 W') := fun W W' h h' => h.trans (h'.mono h.size)
          obtain ⟨b8, hb8⟩ : ∃ b8, decide ((dn : Int) ≤ 8) = b8 := ⟨_, rfl⟩
          obtain ⟨b64, hb64⟩ : ∃ b64, decide ((kn : Int) < 64) = b64 := ⟨_, rfl⟩
          obtain ⟨b10, hb10⟩ : ∃ b10, decide ((ln : Int) ≤ 1024) = b10 := ⟨_, rfl⟩
          have hb8' : decide (dn ≤ 8) = b8 := by rw [← hb8]; exact decide_eq_decide.2 (by omega)
          have hb64' : decide (kn < 64) = b64 := by rw [← hb64]; exact decide_eq_decide.2 (by omega)
          have hb10' : decide (ln ≤ 1024) = b10 := by rw [← hb10]; exact decide_eq_decide.2 (by omega)
          have C1 : Hid (∀ W, Below W6.heap.size W6 W → Calls Try.prog 11 #[nv x ks.length] W fun e w' => e = .returned (.bool b8) ∧ Below W6.heap.size W6 w') := fun W hW => (right_any x ks W0.heap.size W (by have := hW.size; have := HS6.out; omega) (HON.out.keep (hW.mono (by have := HS6.out; omega))) (by have := HCD.out.1; omega)).mono fun e w' h => ⟨by rw [h.1, HRD.out, hb8'], HNEXT.out _ _ hW h.2⟩
          have C2 : Hid (∀ W, Below W6.heap.size W6 W → Calls Try.prog 11 #[(.agg #[.int .u8 1, .slice An kn cn, .slice Ak kn ck, .slice none 0 0, .bool false, .float .f64 0, .string ⟨#[]⟩])] W fun e w' => e = .returned (.bool b64) ∧ Below W6.heap.size W6 w') := fun W hW => by
            have := right_any (dirHd An cn (wnames kn) Ak ck) (List.replicate kn fileZ) W3.heap.size W (by have := hW.size; have := HS6.out; omega) (HOM.out.keep (hW.mono (by have := HS6.out; omega))) (by rw [wide_count]; omega)
            rw [wide_right _ _ _ _ _ hk7, hb64'] at this
            rw [nv_wide] at this
            exact this.mono fun e w' h => ⟨h.1, HNEXT.out _ _ hW h.2⟩
          have C3 : Hid (∀ W, Below W6.heap.size W6 W → Calls Try.prog 11 #[(.agg #[.int .u8 2, .slice none 0 0, .slice none 0 0, .slice (some ⟨W3.heap.size, 0, none⟩) ln ln, .bool false, .float .f64 0, .string ⟨#[]⟩])] W fun e w' => e = .returned (.bool b10) ∧ Below W6.heap.size W6 w') := fun W hW => by
            have := right_any (fileHd (some ⟨W3.heap.size, 0, none⟩) ln (List.replicate ln 0) false 0) [] (W3.heap.size + 2) W (by have := hW.size; have := HS6.out; omega) (HFO.out.keep (hW.mono (by have := HS6.out; omega))) (by rw [file_count]; omega)
            rw [file_right, nv_file, List.length_replicate, hb10'] at this
            exact this.mono fun e w' h => ⟨h.1, HNEXT.out _ _ hW h.2⟩
          have C4 : Hid (∀ W, Below W6.heap.size W6 W → Calls Try.prog 15 #[nv x ks.length] W fun e w' => e = .returned (.int .i64 dn) ∧ Below W6.heap.size W6 w') := fun W hW => (depth_any x ks W0.heap.size W (by have := hW.size; have := HS6.out; omega) (HON.out.keep (hW.mono (by have := HS6.out; omega))) (by have := HCD.out.1; omega)).mono fun e w' h => ⟨by rw [h.1, HCD.out.2], HNEXT.out _ _ hW h.2⟩
          have C5 : Hid (∀ W, Below W6.heap.size W6 W → Calls Try.prog 13 #[(.agg #[.int .u8 1, .slice An kn cn, .slice Ak kn ck, .slice none 0 0, .bool false, .float .f64 0, .string ⟨#[]⟩])] W fun e w' => e = .returned (.int .i64 ((kn : Int) + 1)) ∧ Below W6.heap.size W6 w') := fun W hW => by
            have := count_any (dirHd An cn (wnames kn) Ak ck) (List.replicate kn fileZ) W3.heap.size W (by have := hW.size; have := HS6.out; omega) (HOM.out.keep (hW.mono (by have := HS6.out; omega))) (by rw [wide_count]; omega)
            rw [wide_count] at this
            rw [nv_wide] at this
            exact this.mono fun e w' h => ⟨by rw [h.1]; rfl, HNEXT.out _ _ hW h.2⟩
          have C6 : Hid (∀ W, Below W6.heap.size W6 W → Calls Try.prog 17 #[(.agg #[.int .u8 2, .slice none 0 0, .slice none 0 0, .slice (some ⟨W3.heap.size, 0, none⟩) ln ln, .bool false, .float .f64 0, .string ⟨#[]⟩])] W fun e w' => e = .returned (.int .i64 ln) ∧ Below W6.heap.size W6 w') := fun W hW => by
            have := size_any (fileHd (some ⟨W3.heap.size, 0, none⟩) ln (List.replicate ln 0) false 0) [] (W3.heap.size + 2) W (by have := hW.size; have := HS6.out; omega) (HFO.out.keep (hW.mono (by have := HS6.out; omega))) (by rw [file_count]; omega) (by rw [file_size, List.length_replicate]; omega)
            rw [file_size, nv_file, List.length_replicate] at this
            exact this.mono fun e w' h => ⟨by rw [h.1], HNEXT.out _ _ hW h.2⟩
          clear hl63 HON HOM HFO HRD HCD HBN HBM HBF HNEXT HB6 HD HWR
          have H0 : Hid (Below W6.heap.size W6 W6.drew) := (Below.refl _ _).drew
          have k0 := HCELL.out _ H0.out
          have hkw : IntKind.i64.wrap ((kn : Int) + 1) = (kn : Int) + 1 := IntWalk.i64_in _ (by omega)
          go_region_held3 (fun W => W.cell? ⟨w1.heap.size, 0, none⟩ = some (vb x.kind) ∧ W.cell? ⟨w1.heap.size, 1, none⟩ = some (.slice x.na x.names.length x.nc) ∧ W.cell? ⟨w1.heap.size, 2, none⟩ = some (.slice x.ka ks.length x.kc) ∧ W.cell? ⟨w1.heap.size, 3, none⟩ = some (.slice x.da x.data.length x.dc) ∧ W.cell? ⟨w1.heap.size, 4, none⟩ = some (.bool x.run) ∧ W.cell? ⟨w1.heap.size, 5, none⟩ = some (.float .f64 x.stamp) ∧ W.cell? ⟨w1.heap.size, 6, none⟩ = some (vs x.target) ∧ W.cell? ⟨W0.heap.size, 0, none⟩ = some (.int .u8 1) ∧ W.cell? ⟨W0.heap.size, 1, none⟩ = some (.slice An kn cn) ∧ W.cell? ⟨W0.heap.size, 2, none⟩ = some (.slice Ak kn ck) ∧ W.cell? ⟨W0.heap.size, 3, none⟩ = some (.slice none 0 0) ∧ W.cell? ⟨W0.heap.size, 4, none⟩ = some (.bool false) ∧ W.cell? ⟨W0.heap.size, 5, none⟩ = some (.float .f64 0) ∧ W.cell? ⟨W0.heap.size, 6, none⟩ = some (.string ⟨#[]⟩) ∧ W.cell? ⟨W3.heap.size + 1, 0, none⟩ = some (.int .u8 2) ∧ W.cell? ⟨W3.heap.size + 1, 1, none⟩ = some (.slice none 0 0) ∧ W.cell? ⟨W3.heap.size + 1, 2, none⟩ = some (.slice none 0 0) ∧ W.cell? ⟨W3.heap.size + 1, 3, none⟩ = some (.slice (some ⟨W3.heap.size, 0, none⟩) ln ln) ∧ W.cell? ⟨W3.heap.size + 1, 4, none⟩ = some (.bool false) ∧ W.cell? ⟨W3.heap.size + 1, 5, none⟩ = some (.float .f64 0) ∧ W.cell? ⟨W3.heap.size + 1, 6, none⟩ = some (.string ⟨#[]⟩))
            (first | exact k0 | exact k1 | exact k2 | exact k3 | exact k4 | exact k5 | exact k6)
            (first
              | (go_at_call 11
                 first
                 | (with_reducible refine (C1.out _ H0.out).mono ?_
                    rintro e x1 ⟨rfl, hb⟩
                    have H1 := Lib.hid hb; clear hb
                    have k1 := HCELL.out _ H1.out)
                 | (with_reducible refine (C2.out _ H1.out).mono ?_
                    rintro e x2 ⟨rfl, hb⟩
                    have H2 := Lib.hid hb; clear hb
                    have k2 := HCELL.out _ H2.out)
                 | (with_reducible refine (C3.out _ H2.out).mono ?_
                    rintro e x3 ⟨rfl, hb⟩
                    have H3 := Lib.hid hb; clear hb
                    have k3 := HCELL.out _ H3.out))
              | (go_at_call 15
                 refine (C4.out _ H3.out).mono ?_
                 rintro e x4 ⟨rfl, hb⟩
                 have H4 := Lib.hid hb; clear hb
                 have k4 := HCELL.out _ H4.out)
              | (go_at_call 13
                 refine (C5.out _ H4.out).mono ?_
                 rintro e x5 ⟨rfl, hb⟩
                 have H5 := Lib.hid hb; clear hb
                 have k5 := HCELL.out _ H5.out)
              | (go_at_call 17
                 refine (C6.out _ H5.out).mono ?_
                 rintro e x6 ⟨rfl, hb⟩
                 have H6 := Lib.hid hb; clear hb
                 have k6 := HCELL.out _ H6.out))
          clear k0 k1 k2 k3 k4 k5 k6
          go_wp2_with fail
          go_ret
          exact ⟨rfl, HBW.out.trans (H6.out.mono HBW.out.size)⟩
end Go.Proofs.Ytkehfploodobmaa
