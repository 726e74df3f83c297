/- PackTurned: the walk. -/
import Derived.Test.YtlehgacbcacokaaG26
import Derived.Laws.BitsAllLaws
namespace Go.Proofs.Ytlehgacbcacokaa
open Go.RowKit TreeMath RealMath WireMath PackMath

theorem u8_xor_by (x t : By) : bits .xor .u8 (x.toNat : Int) (t.toNat : Int) = ((x ^^^ t).toNat : Int) := by
  rw [u8_xor_nat _ _ x.toNat_lt t.toNat_lt, UInt8.toNat_xor]
/-- what the reference's Of comes to -/
structure OfPost (w : World) (e : Ending) (w' : World) : Prop where
  ex : ∃ (t : T) (A : Option Addr) (c : Nat), e = .returned (.slice A (arch t).length c) ∧ SrcIs w' A (arch t) ∧ (A = none → c = 0) ∧ rightB t = true ∧ Ok w' w'.heap.size t
  below : Below w.heap.size w w'
set_option maxHeartbeats 2000000 in
theorem of44_any (l : List Md) (A : Option Addr) (c B : Nat) (w : World) (hl : l.length ≤ 60) (hcap : l.length ≤ c) (hcm : c ≤ maxLen) (hdata : ∀ x ∈ l, x.data.length ≤ 200) (hm : Mades w B A l) : Calls Try.prog 44 #[.slice A l.length c] w (OfPost w) := by
  have HM := Lib.hid hm; have HD := Lib.hid hdata
  clear hm hdata
  go_enter Try.func44, Try.ntmps44
  go_wp2_with fail
  refine (make_any l A c B w hl hcap hcm HD.out HM.out).mono ?_
  rintro e w1 ⟨y, ly, rfl, hok, -, hmr, hb⟩
  have HO := Lib.hid hok; have HR := Lib.hid (made_right hmr); have HF := Lib.hid (made_few hmr); have HB := Lib.hid hb
  have HC : Hid (count (.mk y ly) ≤ 40) := hmr.count
  clear hok hmr hb
  go_wp2_with fail
  refine (rwrite_any y ly w1.heap.size w1 (Nat.le_refl _) HO.out (by have := HC.out; omega) HF.out).mono ?_
  rintro e w2 ⟨⟨A2, c2, rfl, hA, hN, -⟩, hb2⟩
  have HOUT := Lib.hid (out_right HR.out)
  rw [HOUT.out.1] at hA
  rw [HOUT.out.1, HOUT.out.2]
  have HA := Lib.hid hA; have HN := Lib.hid hN; have HB2 := Lib.hid hb2
  clear hA hN hb2
  go_wp2_with fail
  go_ret
  exact ⟨⟨_, A2, c2, rfl, HA.out, HN.out, HR.out, (HO.out.keep HB2.out).up HB2.out.size⟩, HB.out.trans (HB2.out.mono HB.out.size)⟩
theorem arch_pos (t : T) : 0 < (arch t).length := by unfold arch; rw [List.length_append, textB_length]; omega
theorem arch_erase (t : T) : arch (erase t) = arch t := by unfold arch; rw [lay_erase]
set_option maxHeartbeats 8000000 in
set_option maxRecDepth 100000 in
theorem pturned_walk (A : Option Addr) (c : Nat) (l : List Md) (a : Nat) (t cu : By) (B : Option Addr) (cb : Nat) (more : List By) (w : World) (h1 : Mades w w.heap.size A l) (hm : l.length ≤ maxLen) (hc : l.length ≤ c) (hx : c ≤ maxLen) (ha : a < 65536) (hml : more.length ≤ maxLen) (hNB : B = none → cb = 0) (hMO : SrcIs w B more) :
    Calls Try.prog 11 #[.slice A l.length c, .int .u16 a, vb t, vb cu, .slice B more.length cb] w fun e w' => e = .returned (.bool true) ∧ Below w.heap.size w w' := by
  have H1 := Lib.hid h1; have HNB := Lib.hid hNB; have HMO := Lib.hid hMO
  unfold maxLen at hml
  clear h1 hNB hMO
  go_enter Try.func11, Try.ntmps11
  go_wp2_with fail
  refine (points_any w).mono ?_
  rintro e w1 ⟨rfl, hb1⟩
  have HB1 := Lib.hid hb1
  clear hb1
  go_wp2_with fail
  refine (small_any A c w.heap.size l hm w1 (H1.out.keep HB1.out)).mono ?_
  rintro e w2 ⟨rfl, rfl⟩
  have HS1 := Lib.hid (small_true (l := l))
  generalize smallB l = s1 at *
  cases s1 with
  | false =>
    go_wp2_with fail
    refine (points_any w1).mono ?_
    rintro e w2 ⟨rfl, hb2⟩
    have HB2 : Hid (Below w.heap.size w w2) := HB1.out.trans (hb2.mono HB1.out.size)
    clear hb2
    go_wp2_with fail
    go_ret
    exact ⟨rfl, HB2.out⟩
  | true =>
    obtain ⟨ha1, hd1⟩ := HS1.out rfl
    have HD1 := Lib.hid hd1
    clear hd1 HS1
    by_cases h40 : 40 < more.length
    · have h40' : decide ((40 : Int) < more.length) = true := decide_eq_true (by omega)
      go_wp2_with fail
      refine (points_any w1).mono ?_
      rintro e w2 ⟨rfl, hb2⟩
      have HB2 : Hid (Below w.heap.size w w2) := HB1.out.trans (hb2.mono HB1.out.size)
      clear hb2
      go_wp2_with fail
      go_ret
      exact ⟨rfl, HB2.out⟩
    have h40' : decide ((40 : Int) < more.length) = false := decide_eq_false (by omega)
    have HML : Hid (more.length ≤ 40) := by show _ ≤ _; omega
    go_wp2_with fail
    refine (of44_any l A c w.heap.size w1 ha1 hc hx HD1.out (H1.out.keep HB1.out)).mono ?_
    rintro e w3 ⟨⟨tr, A3, c3', rfl, hA3, hN3, hr3, -⟩, hb3⟩
    have HA3 := Lib.hid hA3; have HN3 := Lib.hid hN3; have HB3 := Lib.hid (HB1.out.trans (hb3.mono HB1.out.size))
    have HPL : Hid ((arch tr).length ≤ 80000) := arch_le hr3
    have hpos := arch_pos tr
    clear hA3 hN3 hb3 hr3 HB1 HD1 h40' h40
    generalize arch tr = p at *
    have hpl := HPL.out
    go_wp2_with fail
    refine (join_any A3 none c3' 0 p [] (by simp; omega) HN3.out (fun _ => rfl) w3 HA3.out (fun h => absurd h (by simp))).mono ?_
    rintro e w4 ⟨v, rfl, hr⟩
    rw [List.append_nil] at hr
    have HB4 := Lib.hid (HB3.out.trans (hr.below.mono HB3.out.size))
    obtain ⟨g, c3, hv, hg, hblk⟩ : ∃ g c, v = .slice (some ⟨g, 0, none⟩) p.length c ∧ w3.heap.size ≤ g ∧ ∃ tl, Blk w4 g 5 (p.map vb ++ tl) ∧ p.length ≤ c := by
      rcases hr.own.2 with ⟨_, hz⟩ | ⟨g, cap, cur, hv, hg, hc, hn, _, hs, htk⟩
      · simp at hz; rw [hz] at hpos; simp at hpos
      · rw [Nat.mul_one, List.length_map] at htk
        rw [List.length_map] at hv hn
        exact ⟨g, cap, hv, hg, cur.toList.drop p.length, by rw [← htk, List.take_append_drop]; exact hc, hn⟩
    obtain ⟨tl, hblk, hpc⟩ := hblk
    subst hv
    obtain ⟨i, hi⟩ : ∃ i, i = a % p.length := ⟨_, rfl⟩
    have hi1 : (a : Int) % (p.length : Int) = (i : Nat) := by rw [hi]; exact (Int.natCast_emod _ _).symm
    have hi3 : (a : Int).tmod (p.length : Int) = (i : Nat) := by rw [Int.tmod_eq_emod_of_nonneg (by omega)]; exact hi1
    have hi2 : i < p.length := by rw [hi]; exact Nat.mod_lt _ hpos
    clear hi
    have c0 : w4.cell? ⟨g, i, none⟩ = some (vb p[i]) := by have := Blk.bytes hblk i hi2; rwa [Nat.zero_add] at this
    have f0 := hblk.frozen i
    have hset := hblk.set i (vb (p[i] ^^^ t))
    rw [List.set_append_left _ _ (by simpa using hi2), ← List.map_set] at hset
    have HX5 := Lib.hid hset
    have hxx := u8_xor_by p[i] t
    have hgw : w.heap.size ≤ g := Nat.le_trans HB3.out.size hg
    have HB5 : Hid (Below w.heap.size w (w4.setCell ⟨g, i, none⟩ (vb (p[i] ^^^ t)))) := HB4.out.setCell hgw _
    generalize hq : p.set i (p[i] ^^^ t) = q at *
    have HQL : Hid (q.length = p.length) := by show _ = _; rw [← hq]; simp
    clear hq hset hr hblk HA3 HN3 HB3 HB4
    generalize p[i] ^^^ t = yv at *
    generalize p[i] = xv at *
    go_upto_region 5 with fail
    generalize hW : w4.setCell ⟨g, i, none⟩ (vb yv) = W5 at *
    clear hW c0 f0 hxx hi1 hi3
    obtain ⟨m, hm0⟩ : ∃ m, m = cu.toNat % p.length := ⟨_, rfl⟩
    have hm1 : (cu.toNat : Int) % (p.length : Int) = (m : Nat) := by rw [hm0]; exact (Int.natCast_emod _ _).symm
    have hm3 : (cu.toNat : Int).tmod (p.length : Int) = (m : Nat) := by rw [Int.tmod_eq_emod_of_nonneg (by omega)]; exact hm1
    have hm2 : m < p.length := by rw [hm0]; exact Nat.mod_lt _ hpos
    clear hm0
    have hcul := cu.toNat_lt
    by_cases hev : cu.toNat % 2 = 0
    · have hev' : ((cu.toNat : Int) % 2 == 0) = true := by rw [beq_iff_eq]; omega
      go_upto_region 8 with fail
      clear hev' hev hm1 hm3 hm2
      have HJ : Hid (Calls Try.prog 42 #[.slice (some ⟨g, 0, none⟩) p.length c3, .slice B more.length cb] W5 fun e w' => ∃ v, e = .returned v ∧ RowRel W5 5 ((q.take p.length ++ more).map vb) v w') := by
        have := join_any (some ⟨g, 0, none⟩) B c3 cb (q.take p.length) more (by have := HML.out; have := HPL.out; have := HQL.out; rw [List.length_take]; omega) (fun h => by cases h) HNB.out W5 (bytes_src ((Blk.bytes HX5.out).take p.length)) (HMO.out.below HB5.out)
        rw [List.length_take, Nat.min_eq_left (by have := HQL.out; omega)] at this; exact this
      go_wp2_with fail
      refine HJ.out.mono ?_
      rintro e w6 ⟨u, rfl, hu⟩
      generalize hp6 : q.take p.length ++ more = p6 at *
      have HP6L : Hid (p6.length ≤ 1000000) := by
        have := HML.out; have := HPL.out; have := HQL.out
        show _ ≤ _
        rw [← hp6, List.length_append, List.length_take]; omega
      clear hp6 HJ
      obtain ⟨A6, c6, rfl, hA6, hN6, hc6, -⟩ := hu.src
      have HA6 := Lib.hid hA6; have HN6 := Lib.hid hN6; have HB6 := Lib.hid (HB5.out.trans (hu.below.mono HB5.out.size))
      clear hu hA6 hN6 HX5 HB5 HMO
      go_wp2_with fail
      have hpl6 := HP6L.out
      refine (read_any A6 c6 p6 hpl6 HN6.out w6 HA6.out).mono ?_
      rintro e w7 hp
      have HBK : Hid (resE p6 = 0 → arch (resT p6) = p6 ∧ rightB (resT p6) = true) := by
        show _ → _
        unfold resE resT
        cases hr : readP rightB p6 with
        | none => intro h; cases h
        | some t => intro _; exact back_arch rightB p6 t hr
      have HEV : Hid (resE p6 = 0 ∨ resE p6 = 2) := by
        show _ ∨ _
        unfold resE
        cases readP rightB p6 with
        | none => exact .inr rfl
        | some t => exact .inl rfl
      obtain ⟨z, lz, rfl, h1, h2, -, h4⟩ := hp.open
      have hb8 : Below w7.heap.size w7 (w7.alloc (.cells #[vb z.kind, .slice z.na z.names.length z.nc, .slice z.ka lz.length z.kc, .slice z.da z.data.length z.dc, .bool z.run, .float .f64 z.stamp, vs z.target] 27)) := (Below.refl _ _).alloc (Nat.le_refl _) _
      have HE := Lib.hid h1; have HO8 := Lib.hid ((h2.keep hb8).up hb8.size)
      have HY8 := Lib.hid (Blk.new w7 27 #[vb z.kind, .slice z.na z.names.length z.nc, .slice z.ka lz.length z.kc, .slice z.da z.data.length z.dc, .bool z.run, .float .f64 z.stamp, vs z.target])
      have h48 := h4.trans (hb8.mono h4.size)
      have HA8 := Lib.hid (HA6.out.below h48); have HB8 := Lib.hid (HB6.out.trans (h48.mono HB6.out.size))
      clear h1 h2 h4 hb8 h48 hp HA6 HB6
      go_upto_region 10 with fail
      generalize hW : w7.alloc (.cells #[vb z.kind, .slice z.na z.names.length z.nc, .slice z.ka lz.length z.kc, .slice z.da z.data.length z.dc, .bool z.run, .float .f64 z.stamp, vs z.target] 27) = W8 at *
      clear hW
      go_wp2_with fail
      refine (reads_any A6 c6 p6 hpl6 HN6.out hc6 W8 HA8.out).mono ?_
      rintro e w9 ⟨rfl, hb9⟩
      have HA9 := Lib.hid (HA8.out.below hb9); have HB9 := Lib.hid (HB8.out.trans (hb9.mono HB8.out.size)); have HY9 := Lib.hid (HY8.out.below hb9 HY8.out.lt); have HO9 := Lib.hid ((HO8.out.keep hb9).up hb9.size)
      clear hb9 HA8 HB8 HY8 HO8
      rcases HEV.out with he | he
      · obtain ⟨hback, hrt⟩ := HBK.out he
        rw [he]
        have HAR : Hid (arch (.mk z lz) = p6) := by show _ = _; rw [← arch_erase, HE.out]; exact hback
        have HRT : Hid (rightB (.mk z lz) = true) := by show _ = _; rw [← right_erase, HE.out]; exact hrt
        have HOUT := Lib.hid (out_right HRT.out); have HCT := Lib.hid (right_form HRT.out).2
        clear he hback hrt HE HEV HBK
        have e0 := HY9.out.cell 0; have e1 := HY9.out.cell 1; have e2 := HY9.out.cell 2; have e3 := HY9.out.cell 3; have e4 := HY9.out.cell 4; have e5 := HY9.out.cell 5; have e6 := HY9.out.cell 6
        simp only [List.getElem?_cons_zero, List.getElem?_cons_succ] at e0 e1 e2 e3 e4 e5 e6
        go_wp2_with fail
        clear e0 e1 e2 e3 e4 e5 e6
        refine (write_any z lz w9.heap.size w9 (Nat.le_refl _) HO9.out (by have := HCT.out; omega)).mono ?_
        rintro e w10 ⟨⟨A10, c10, rfl, hA10, hN10, -⟩, hb10⟩
        rw [HOUT.out.1, HAR.out] at hA10
        rw [HOUT.out.1, HOUT.out.2, HAR.out]
        have HA10 := Lib.hid hA10; have HB10 := Lib.hid (HB9.out.trans (hb10.mono HB9.out.size)); have HA9' := Lib.hid (HA9.out.below hb10); have HY10 := Lib.hid (HY9.out.below hb10 HY9.out.lt); have HO10 := Lib.hid ((HO9.out.keep hb10).up hb10.size)
        clear hA10 hN10 hb10 HA9 HY9 HO9 HB9
        go_wp2_with fail
        refine (bytes_any A6 A10 c6 c10 p6 p6 (by unfold maxLen; omega) (by unfold maxLen; omega) w10 HA9'.out HA10.out).mono ?_
        rintro e w11 ⟨rfl, qn, rfl⟩
        have hdec : decide (p6 = p6) = true := decide_eq_true rfl
        rw [hdec]
        have hb11 := below_drewN (Below.refl w10.heap.size w10) qn
        have HB11 := Lib.hid (HB10.out.trans (hb11.mono HB10.out.size)); have HY11 := Lib.hid (HY10.out.below hb11 HY10.out.lt); have HO11 := Lib.hid ((HO10.out.keep hb11).up hb11.size)
        generalize w10.drewN qn = W11 at *
        clear hdec hb11
        have e0 := HY11.out.cell 0; have e1 := HY11.out.cell 1; have e2 := HY11.out.cell 2; have e3 := HY11.out.cell 3; have e4 := HY11.out.cell 4; have e5 := HY11.out.cell 5; have e6 := HY11.out.cell 6
        simp only [List.getElem?_cons_zero, List.getElem?_cons_succ] at e0 e1 e2 e3 e4 e5 e6
        go_wp2_with fail
        clear e0 e1 e2 e3 e4 e5 e6
        refine (right_any z lz W11.heap.size W11 (Nat.le_refl _) HO11.out (by have := HCT.out; omega)).mono ?_
        rintro e w12 ⟨rfl, hb12⟩
        rw [HRT.out]
        have HB12 := Lib.hid (HB11.out.trans (hb12.mono HB11.out.size))
        clear hb12
        go_wp2_with fail
        go_ret
        exact ⟨rfl, HB12.out⟩
      · rw [he]
        clear he HEV HBK
        go_wp2_with fail
        refine (reads_any A6 c6 p6 hpl6 HN6.out hc6 w9 HA9.out).mono ?_
        rintro e w10 ⟨rfl, hb10⟩
        have HB10 := Lib.hid (HB9.out.trans (hb10.mono HB9.out.size))
        clear hb10
        go_wp2_with fail
        go_ret
        exact ⟨rfl, HB10.out⟩
    · have hev' : ((cu.toNat : Int) % 2 == 0) = false := by rw [beq_eq_false_iff_ne]; omega
      go_upto_region 8 with fail
      clear hev' hev hm1 hm3
      obtain ⟨n, hn⟩ : ∃ n, n = p.length - m := ⟨_, rfl⟩
      have hsub : (p.length : Int) - (m : Int) = (n : Int) := by omega
      have hnl : n ≤ p.length := by omega
      have hn0 : 0 < n := by omega
      clear hn
      have HJ : Hid (Calls Try.prog 42 #[.slice (some ⟨g, 0, none⟩) n c3, .slice B more.length cb] W5 fun e w' => ∃ v, e = .returned v ∧ RowRel W5 5 ((q.take n ++ more).map vb) v w') := by
        have := join_any (some ⟨g, 0, none⟩) B c3 cb (q.take n) more (by have := HML.out; have := HPL.out; have := HQL.out; rw [List.length_take]; omega) (fun h => by cases h) HNB.out W5 (bytes_src ((Blk.bytes HX5.out).take n)) (HMO.out.below HB5.out)
        rw [List.length_take, Nat.min_eq_left (by have := HQL.out; omega)] at this; exact this
      go_wp2_with fail
      refine HJ.out.mono ?_
      rintro e w6 ⟨u, rfl, hu⟩
      generalize hp6 : q.take n ++ more = p6 at *
      have HP6L : Hid (p6.length ≤ 1000000) := by
        have := HML.out; have := HPL.out; have := HQL.out
        show _ ≤ _
        rw [← hp6, List.length_append, List.length_take]; omega
      clear hp6 HJ
      obtain ⟨A6, c6, rfl, hA6, hN6, hc6, -⟩ := hu.src
      have HA6 := Lib.hid hA6; have HN6 := Lib.hid hN6; have HB6 := Lib.hid (HB5.out.trans (hu.below.mono HB5.out.size))
      clear hu hA6 hN6 HX5 HB5 HMO
      go_wp2_with fail
      have hpl6 := HP6L.out
      refine (read_any A6 c6 p6 hpl6 HN6.out w6 HA6.out).mono ?_
      rintro e w7 hp
      have HBK : Hid (resE p6 = 0 → arch (resT p6) = p6 ∧ rightB (resT p6) = true) := by
        show _ → _
        unfold resE resT
        cases hr : readP rightB p6 with
        | none => intro h; cases h
        | some t => intro _; exact back_arch rightB p6 t hr
      have HEV : Hid (resE p6 = 0 ∨ resE p6 = 2) := by
        show _ ∨ _
        unfold resE
        cases readP rightB p6 with
        | none => exact .inr rfl
        | some t => exact .inl rfl
      obtain ⟨z, lz, rfl, h1, h2, -, h4⟩ := hp.open
      have hb8 : Below w7.heap.size w7 (w7.alloc (.cells #[vb z.kind, .slice z.na z.names.length z.nc, .slice z.ka lz.length z.kc, .slice z.da z.data.length z.dc, .bool z.run, .float .f64 z.stamp, vs z.target] 27)) := (Below.refl _ _).alloc (Nat.le_refl _) _
      have HE := Lib.hid h1; have HO8 := Lib.hid ((h2.keep hb8).up hb8.size)
      have HY8 := Lib.hid (Blk.new w7 27 #[vb z.kind, .slice z.na z.names.length z.nc, .slice z.ka lz.length z.kc, .slice z.da z.data.length z.dc, .bool z.run, .float .f64 z.stamp, vs z.target])
      have h48 := h4.trans (hb8.mono h4.size)
      have HA8 := Lib.hid (HA6.out.below h48); have HB8 := Lib.hid (HB6.out.trans (h48.mono HB6.out.size))
      clear h1 h2 h4 hb8 h48 hp HA6 HB6
      go_upto_region 10 with fail
      generalize hW : w7.alloc (.cells #[vb z.kind, .slice z.na z.names.length z.nc, .slice z.ka lz.length z.kc, .slice z.da z.data.length z.dc, .bool z.run, .float .f64 z.stamp, vs z.target] 27) = W8 at *
      clear hW
      go_wp2_with fail
      refine (reads_any A6 c6 p6 hpl6 HN6.out hc6 W8 HA8.out).mono ?_
      rintro e w9 ⟨rfl, hb9⟩
      have HA9 := Lib.hid (HA8.out.below hb9); have HB9 := Lib.hid (HB8.out.trans (hb9.mono HB8.out.size)); have HY9 := Lib.hid (HY8.out.below hb9 HY8.out.lt); have HO9 := Lib.hid ((HO8.out.keep hb9).up hb9.size)
      clear hb9 HA8 HB8 HY8 HO8
      rcases HEV.out with he | he
      · obtain ⟨hback, hrt⟩ := HBK.out he
        rw [he]
        have HAR : Hid (arch (.mk z lz) = p6) := by show _ = _; rw [← arch_erase, HE.out]; exact hback
        have HRT : Hid (rightB (.mk z lz) = true) := by show _ = _; rw [← right_erase, HE.out]; exact hrt
        have HOUT := Lib.hid (out_right HRT.out); have HCT := Lib.hid (right_form HRT.out).2
        clear he hback hrt HE HEV HBK
        have e0 := HY9.out.cell 0; have e1 := HY9.out.cell 1; have e2 := HY9.out.cell 2; have e3 := HY9.out.cell 3; have e4 := HY9.out.cell 4; have e5 := HY9.out.cell 5; have e6 := HY9.out.cell 6
        simp only [List.getElem?_cons_zero, List.getElem?_cons_succ] at e0 e1 e2 e3 e4 e5 e6
        go_wp2_with fail
        clear e0 e1 e2 e3 e4 e5 e6
        refine (write_any z lz w9.heap.size w9 (Nat.le_refl _) HO9.out (by have := HCT.out; omega)).mono ?_
        rintro e w10 ⟨⟨A10, c10, rfl, hA10, hN10, -⟩, hb10⟩
        rw [HOUT.out.1, HAR.out] at hA10
        rw [HOUT.out.1, HOUT.out.2, HAR.out]
        have HA10 := Lib.hid hA10; have HB10 := Lib.hid (HB9.out.trans (hb10.mono HB9.out.size)); have HA9' := Lib.hid (HA9.out.below hb10); have HY10 := Lib.hid (HY9.out.below hb10 HY9.out.lt); have HO10 := Lib.hid ((HO9.out.keep hb10).up hb10.size)
        clear hA10 hN10 hb10 HA9 HY9 HO9 HB9
        go_wp2_with fail
        refine (bytes_any A6 A10 c6 c10 p6 p6 (by unfold maxLen; omega) (by unfold maxLen; omega) w10 HA9'.out HA10.out).mono ?_
        rintro e w11 ⟨rfl, qn, rfl⟩
        have hdec : decide (p6 = p6) = true := decide_eq_true rfl
        rw [hdec]
        have hb11 := below_drewN (Below.refl w10.heap.size w10) qn
        have HB11 := Lib.hid (HB10.out.trans (hb11.mono HB10.out.size)); have HY11 := Lib.hid (HY10.out.below hb11 HY10.out.lt); have HO11 := Lib.hid ((HO10.out.keep hb11).up hb11.size)
        generalize w10.drewN qn = W11 at *
        clear hdec hb11
        have e0 := HY11.out.cell 0; have e1 := HY11.out.cell 1; have e2 := HY11.out.cell 2; have e3 := HY11.out.cell 3; have e4 := HY11.out.cell 4; have e5 := HY11.out.cell 5; have e6 := HY11.out.cell 6
        simp only [List.getElem?_cons_zero, List.getElem?_cons_succ] at e0 e1 e2 e3 e4 e5 e6
        go_wp2_with fail
        clear e0 e1 e2 e3 e4 e5 e6
        refine (right_any z lz W11.heap.size W11 (Nat.le_refl _) HO11.out (by have := HCT.out; omega)).mono ?_
        rintro e w12 ⟨rfl, hb12⟩
        rw [HRT.out]
        have HB12 := Lib.hid (HB11.out.trans (hb12.mono HB11.out.size))
        clear hb12
        go_wp2_with fail
        go_ret
        exact ⟨rfl, HB12.out⟩
      · rw [he]
        clear he HEV HBK
        go_wp2_with fail
        refine (reads_any A6 c6 p6 hpl6 HN6.out hc6 w9 HA9.out).mono ?_
        rintro e w10 ⟨rfl, hb10⟩
        have HB10 := Lib.hid (HB9.out.trans (hb10.mono HB9.out.size))
        clear hb10
        go_wp2_with fail
        go_ret
        exact ⟨rfl, HB10.out⟩
end Go.Proofs.Ytlehgacbcacokaa
