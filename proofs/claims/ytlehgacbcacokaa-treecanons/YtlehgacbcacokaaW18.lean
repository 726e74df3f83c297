/- The contract of the reference's kids. -/
import Derived.Test.YtlehgacbcacokaaW18b
namespace Go.Proofs.Ytlehgacbcacokaa
open Go.RowKit TreeMath RealMath

def KidsOf (l : List Md) (m : Nat) : Prop := ∀ (A : Option Addr) (c B at_ deep : Nat) (w : World), 1 ≤ deep → deep + m = 8 → at_ < l.length → l.length ≤ 40 → (∀ x ∈ l, x.data.length ≤ 200) → Mades w B A l →
  Calls Try.prog 55 #[.slice A l.length c, .int .i64 at_, .int .i64 deep] w (KPost l B at_ deep w)
theorem par_eq (l : List Md) (i : Nat) (h : i < l.length) : parOf l i = l[i].up.toNat % i := by unfold parOf; rw [List.getElem?_eq_getElem h]; rfl
set_option maxHeartbeats 16000000 in
set_option maxRecDepth 100000 in
theorem kids_dir (l : List Md) (m : Nat) (IH : KidsOf l m) (A : Option Addr) (c B at_ deep : Nat) (w : World) (hd1 : 1 ≤ deep) (hd2 : deep + (m + 1) = 8) (hat : at_ < l.length) (hl40 : l.length ≤ 40) (hdata : ∀ x ∈ l, x.data.length ≤ 200) (hm : Mades w B A l) (hk : l[at_].kind.toNat % 4 = 0) :
    Calls Try.prog 55 #[.slice A l.length c, .int .i64 at_, .int .i64 deep] w (KPost l B at_ deep w) := by
  have hBw := hm.le
  obtain ⟨b, o, rfl, hbB, hc⟩ := hm.at_ (by omega)
  obtain ⟨c0, c1, c2, c3, c4, c5⟩ := (hc at_ hat).six
  have hbw : b < w.heap.size := by omega
  have e3 : ((((l[at_].kind.toNat : Int) % 4)) == 3) = false := by rw [beq_eq_false_iff_ne]; omega
  have e0 : decide ((0 : Int) < (l[at_].kind.toNat : Int) % 4) = false := decide_eq_false (by omega)
  have e8 : decide ((8 : Int) ≤ (deep : Int)) = false := decide_eq_false (by omega)
  have HKD : Hid (kidsT l (8 - deep) at_ = .mk (dirE ((entT l (kidsT l (7 - deep)) at_ l.length).map Prod.fst)) ((entT l (kidsT l (7 - deep)) at_ l.length).map Prod.snd)) := by
    have := kidsT_dir (m := 7 - deep) hat hk
    rw [show 7 - deep + 1 = 8 - deep by omega] at this; exact this
  have HM := Lib.hid hm; have HIH := Lib.hid IH; have HDA := Lib.hid hdata; have HC := Lib.hid hc
  clear hc IH hm hdata
  generalize l[at_] = x at *
  go_enter Try.func55, Try.ntmps55
  go_upto_region 6 with fail
  have b6 := (Blk.new w 27 #[.int .u8 0, .slice none 0 0, .slice none 0 0, .slice none 0 0, .bool false, .float .f64 0, .string ⟨#[]⟩]).alloc (.cells #[.int .u8 (x.up.toNat : Int), .int .u8 (x.kind.toNat : Int), .int .u8 (x.name.toNat : Int), .slice x.da x.data.length x.dc, .bool x.run, .float .f64 x.stamp] 71)
  have hB2 : Below w.heap.size w ((w.alloc (.cells #[.int .u8 0, .slice none 0 0, .slice none 0 0, .slice none 0 0, .bool false, .float .f64 0, .string ⟨#[]⟩] 27)).alloc (.cells #[.int .u8 (x.up.toNat : Int), .int .u8 (x.kind.toNat : Int), .int .u8 (x.name.toNat : Int), .slice x.da x.data.length x.dc, .bool x.run, .float .f64 x.stamp] 71)) := ((Below.refl _ _).alloc (Nat.le_refl _) _).alloc (by simp) _
  have hs2 : ((w.alloc (.cells #[.int .u8 0, .slice none 0 0, .slice none 0 0, .slice none 0 0, .bool false, .float .f64 0, .string ⟨#[]⟩] 27)).alloc (.cells #[.int .u8 (x.up.toNat : Int), .int .u8 (x.kind.toNat : Int), .int .u8 (x.name.toNat : Int), .slice x.da x.data.length x.dc, .bool x.run, .float .f64 x.stamp] 71)).heap.size = w.heap.size + 2 := by simp
  generalize (w.alloc (.cells #[.int .u8 0, .slice none 0 0, .slice none 0 0, .slice none 0 0, .bool false, .float .f64 0, .string ⟨#[]⟩] 27)).alloc (.cells #[.int .u8 (x.up.toNat : Int), .int .u8 (x.kind.toNat : Int), .int .u8 (x.name.toNat : Int), .slice x.da x.data.length x.dc, .bool x.run, .float .f64 x.stamp] 71) = W2 at *
  have H6 := Lib.hid b6; have HB2 := Lib.hid hB2; have HS2 := Lib.hid hs2
  have hg6 : w.heap.size < W2.heap.size := by omega
  clear b6 hB2 hs2 c0 c1 c2 c3 c4 c5 e3 e0 e8
  go_upto_region 7 with fail
  have HO := Lib.hid (out_start W2 B l at_ deep (at_ + 1) (Nat.le_refl _))
  generalize W2.alloc (.cells #[.int .u8 1, .slice none 0 0, .slice none 0 0, .slice none 0 0, .bool false, .float .f64 0, .string ⟨#[]⟩] 27) = W3 at *
  go_wp2_with fail
  go_loopw [9] (fun vi wr => ∃ i : Nat, at_ + 1 ≤ i ∧ i ≤ l.length ∧ vi = .int .i64 i ∧ Hid (∃ vn vk ps, OutRel W2 W2.heap.size B l at_ deep i vn vk ps wr)) (fun vi _ => l.length - (intOf vi).toNat)
  case atStart => exact ⟨at_ + 1, by omega, by omega, by go_num, _, _, _, HO.out⟩
  case round =>
    obtain ⟨i, hi1, hi2, rfl, HP⟩ := hrel
    rename World => W0
    obtain ⟨vn, vk, ps, ho⟩ := HP.out
    have HR := Lib.hid ho
    clear ho HP HO
    have hgl := HR.out.blk.lt
    by_cases hlt : i < l.length
    · have hbe : Below w.heap.size w W0 := HB2.out.trans (HR.out.below.mono (by omega))
      obtain ⟨c0, c1, c2, c3, c4, c5⟩ := ((HC.out i hlt).same (hbe.block b hbw)).six
      have hpe := par_eq l i hlt
      have hpl : parOf l i < i := by rw [hpe]; exact Nat.mod_lt _ (by omega)
      have hq1 : ((l[i].up.toNat : Int) % (i : Int)) = (parOf l i : Int) := by rw [hpe]; exact (Int.natCast_emod _ _).symm
      have hq2 : ((l[i].up.toNat : Int).tmod (i : Int)) = (parOf l i : Int) := by rw [Int.tmod_eq_emod_of_nonneg (by omega)]; exact hq1
      have HBE := Lib.hid hbe
      clear hpe hbe
      have HTI : Hid (titleN l[i].name = titleN ((l[i]?.map fun m => m.name).getD 0)) := by show _ = _; rw [List.getElem?_eq_getElem hlt]; rfl
      generalize hmi : l[i] = y0 at *
      clear hmi
      have hu := y0.up.toNat_lt
      have hi0 : 0 < i := by omega
      by_cases hp : parOf l i = at_
      · have hpp : ((parOf l i : Int) == (at_ : Int)) = true := by rw [hp]; simp
        have hpn : ((parOf l i : Int) != (at_ : Int)) = false := by rw [bne, hpp]; rfl
        have HPE := Lib.hid hp
        have HNXT : Hid (OutRel W2 W2.heap.size B l at_ deep i vn vk ps W0) := HR.out
        clear hp
        go_wp2_with fail
        refine (title_any y0.name W0).mono ?_
        rintro e w1 ⟨rfl, hb1⟩
        have HR1 := Lib.hid (HR.out.keep hb1)
        have hw01 := hb1.size
        have HM1 : Hid (Mades w1 B (some ⟨b, o, none⟩) l) := HM.out.keep ((HBE.out.trans (hb1.mono HBE.out.size)).mono hBw)
        have HTN := Lib.hid (title_ok y0.name)
        have HK : Hid (Calls Try.prog 55 #[.slice (some ⟨b, o, none⟩) l.length c, .int .i64 i, .int .i64 ((deep : Int) + 1)] w1 fun e w' => ∃ y ly, e = .returned (nv y ly.length) ∧ Ok w' w'.heap.size (.mk y ly) ∧ InS (fun c => c < B ∨ w1.heap.size ≤ c) (.mk y ly) ∧ MadeT l i (deep + 1) (.mk y ly) ∧ Below w1.heap.size w1 w') := by
          have := HIH.out (some ⟨b, o, none⟩) c B i (deep + 1) w1 (by omega) (by omega) hlt hl40 HDA.out HM1.out
          exact this.mono fun e w' ⟨t, h⟩ => by
            obtain ⟨y, ly⟩ := t
            exact ⟨y, ly, h⟩
        generalize titleN y0.name = s at *
        clear hb1 HR HNXT HBE c0 c1 c2 c3 c4 c5 hq1 hq2 hpp hpn
        go_wp2_with fail
        refine HK.out.mono ?_
        rintro e w2 ⟨y, ly, rfl, hok, hins, hmt, hb2⟩
        have HR2 := Lib.hid (HR1.out.keep hb2)
        have hw12 := hb2.size
        have HOK := Lib.hid hok; have HIN := Lib.hid hins; have HMT := Lib.hid hmt
        clear hok hins hmt hb2 HK HM1 HR1
        go_upto_block 2 with fail
        have hB4 : Below w2.heap.size w2 (w2.alloc (.cells #[vb y.kind, .slice y.na y.names.length y.nc, .slice y.ka ly.length y.kc, .slice y.da y.data.length y.dc, .bool y.run, .float .f64 y.stamp, vs y.target] 27)) := (Below.refl _ _).alloc (Nat.le_refl _) _
        have HR4 := Lib.hid (HR2.out.keep hB4)
        have HK4 : Hid (Blk (w2.alloc (.cells #[vb y.kind, .slice y.na y.names.length y.nc, .slice y.ka ly.length y.kc, .slice y.da y.data.length y.dc, .bool y.run, .float .f64 y.stamp, vs y.target] 27)) w2.heap.size 27 (cellsT (.mk y ly))) := Blk.new w2 27 _
        have HO4 : Hid (Ok (w2.alloc (.cells #[vb y.kind, .slice y.na y.names.length y.nc, .slice y.ka ly.length y.kc, .slice y.da y.data.length y.dc, .bool y.run, .float .f64 y.stamp, vs y.target] 27)) (w2.alloc (.cells #[vb y.kind, .slice y.na y.names.length y.nc, .slice y.ka ly.length y.kc, .slice y.da y.data.length y.dc, .bool y.run, .float .f64 y.stamp, vs y.target] 27)).heap.size (.mk y ly)) := (HOK.out.keep hB4).up hB4.size
        clear hB4 HR2 HOK
        generalize w2.alloc (.cells #[vb y.kind, .slice y.na y.names.length y.nc, .slice y.ka ly.length y.kc, .slice y.da y.data.length y.dc, .bool y.run, .float .f64 y.stamp, vs y.target] 27) = W4 at *
        obtain ⟨An, cn, hvn, hns, -, -, hnb⟩ := HR4.out.names.src
        obtain ⟨Ak, ck, hvk, hks, -, -, hkb⟩ := HR4.out.kids.src
        rw [List.length_map] at hvn hvk
        subst hvn hvk
        have hpl2 := HR4.out.len
        refine inner W2.heap.size w2.heap.size ps.length cn ck An Ak s y ly ps W4 _ HR4.out.blk HK4.out rfl (by omega) hns hks ?_
        intros
        rename_i v1 v2 done acc w5 htr hfin hacc
        have HTR := Lib.hid htr; have HFIN := Lib.hid hfin
        have hw45 := htr.below.size
        clear htr hfin hns hks hnb hkb
        have HSTEP : Hid (∀ v1 v2 w6, TwoRows W4 W4.heap.size v1 v2 ((insR s (.mk y ly) ps).map Prod.fst) ((insR s (.mk y ly) ps).map Prod.snd) w6 → OutRel W2 W2.heap.size B l at_ deep (i + 1) v1 v2 (insR s (.mk y ly) ps) ((w6.setCell ⟨W2.heap.size, 1, none⟩ v1).setCell ⟨W2.heap.size, 2, none⟩ v2)) := fun v1 v2 w6 h =>
          out_step HR4.out (by omega) HO4.out (HIN.out.mono fun c hc => by rcases hc with e | e; exact .inl e; exact .inr (by omega)) HMT.out.fits (by have := HMT.out.depth; omega) HMT.out.count HPE.out (by omega) HTN.out HTI.out (by have := HMT.out.eq; rw [show 8 - (deep + 1) = 7 - deep by omega] at this; exact this) h
        cases done with
        | true =>
          have HT6 : Hid (TwoRows W4 W4.heap.size v1 v2 ((insR s (.mk y ly) ps).map Prod.fst) ((insR s (.mk y ly) ps).map Prod.snd) w5) := by
            have e : insR s (.mk y ly) ps = acc := by rw [← HFIN.out]; unfold fin; simp
            rw [e]; exact HTR.out
          clear HTR HFIN
          obtain ⟨A1, q1, hv1, -, -, -, -⟩ := HT6.out.names.src
          obtain ⟨A2, q2, hv2, -, -, -, -⟩ := HT6.out.kids.src
          rw [List.length_map] at hv1 hv2
          subst hv1 hv2
          have HN := Lib.hid (HSTEP.out _ _ _ HT6.out)
          have hbk := out_blk HR4.out HT6.out.below
          have d1 := hbk.cell 1; have d2 := hbk.cell 2; have f1 := hbk.frozen 1; have f2 := hbk.frozen 2; have hl5 := hbk.lt
          simp only [List.getElem?_cons_zero, List.getElem?_cons_succ] at d1 d2
          generalize (insR s (.mk y ly) ps).length = n6 at *
          clear hbk HSTEP HR4 HT6
          go_wp2_with fail
          go_roundw
          case rel => exact ⟨i + 1, by omega, by omega, by go_num, _, _, _, HN.out⟩
          case measure => simp [intOf]; omega
        | false =>
          have hpl3 : acc.length ≤ 1000 := by omega
          go_upto_region 24 with fail
          refine reg24 w2.heap.size W4.heap.size s y ly v1 v2 (acc.map Prod.fst) (acc.map Prod.snd) W4 w5 _ (HK4.out.below HTR.out.below HK4.out.lt) HK4.out.lt HTR.out hw45 (by simp; omega) (by simp; omega) ?_
          intros
          rename_i v3 v4 w6 htr6
          have HT6 : Hid (TwoRows W4 W4.heap.size v3 v4 ((insR s (.mk y ly) ps).map Prod.fst) ((insR s (.mk y ly) ps).map Prod.snd) w6) := by
            have e : insR s (.mk y ly) ps = acc ++ [(s, .mk y ly)] := by rw [← HFIN.out]; unfold fin; simp [insR]
            rw [e, List.map_append, List.map_append]; exact htr6
          clear HTR HFIN htr6
          obtain ⟨A1, q1, hv1, -, -, -, -⟩ := HT6.out.names.src
          obtain ⟨A2, q2, hv2, -, -, -, -⟩ := HT6.out.kids.src
          rw [List.length_map] at hv1 hv2
          subst hv1 hv2
          have HN := Lib.hid (HSTEP.out _ _ _ HT6.out)
          have hbk := out_blk HR4.out HT6.out.below
          have d1 := hbk.cell 1; have d2 := hbk.cell 2; have f1 := hbk.frozen 1; have f2 := hbk.frozen 2; have hl5 := hbk.lt
          simp only [List.getElem?_cons_zero, List.getElem?_cons_succ] at d1 d2
          generalize (insR s (.mk y ly) ps).length = n6 at *
          clear hbk HSTEP HR4 HT6
          go_wp2_with fail
          go_roundw
          case rel => exact ⟨i + 1, by omega, by omega, by go_num, _, _, _, HN.out⟩
          case measure => simp [intOf]; omega
      · have hpp : ((parOf l i : Int) == (at_ : Int)) = false := by rw [beq_eq_false_iff_ne]; omega
        have hpn : ((parOf l i : Int) != (at_ : Int)) = true := by rw [bne, hpp]; rfl
        have hpx : (parOf l i == at_) = false := by rw [beq_eq_false_iff_ne]; exact hp
        have HNX := Lib.hid (out_skip HR.out hp)
        clear HR hp
        go_wp2_with fail
        go_roundw
        case rel => exact ⟨i + 1, by omega, by omega, by go_num, _, _, _, HNX.out⟩
        case measure => simp [intOf]; omega
    · obtain ⟨An, cn, Ak, ck, hvn, hvk, hok, hins, hmt⟩ := out_done HR.out hat (by omega) (by omega) (by omega) HKD.out
      subst hvn hvk
      have d0 := HR.out.blk.cell 0; have d1 := HR.out.blk.cell 1; have d2 := HR.out.blk.cell 2; have d3 := HR.out.blk.cell 3; have d4 := HR.out.blk.cell 4; have d5 := HR.out.blk.cell 5; have d6 := HR.out.blk.cell 6
      simp only [List.getElem?_cons_zero, List.getElem?_cons_succ] at d0 d1 d2 d3 d4 d5 d6
      have h6 := H6.out.below HR.out.below hg6
      have k0 := h6.cell 0; have k1 := h6.cell 1; have k2 := h6.cell 2; have k3 := h6.cell 3; have k4 := h6.cell 4; have k5 := h6.cell 5; have k6 := h6.cell 6
      have f0 := h6.frozen 0; have f1 := h6.frozen 1; have f2 := h6.frozen 2; have f3 := h6.frozen 3; have f4 := h6.frozen 4; have f5 := h6.frozen 5; have f6 := h6.frozen 6
      have hl6 := h6.lt
      simp only [List.getElem?_cons_zero, List.getElem?_cons_succ] at k0 k1 k2 k3 k4 k5 k6
      have HOK := Lib.hid hok; have HIN := Lib.hid hins; have HMT := Lib.hid hmt; have HB6 := Lib.hid h6
      have hsz := HR.out.below.size
      clear hok hins hmt h6
      go_wp2_with fail
      have hval : val (.mk (dirHd An cn (ps.map Prod.fst) Ak ck) (ps.map Prod.snd)) = .agg #[.int .u8 1, .slice An ps.length cn, .slice Ak ps.length ck, .slice none 0 0, .bool false, .float .f64 0, .string ⟨#[]⟩] := by
        show Value.agg #[vb 1, .slice An (ps.map Prod.fst).length cn, .slice Ak (ps.map Prod.snd).length ck, .slice none 0 0, .bool false, .float .f64 0, .string ⟨#[]⟩] = _
        rw [List.length_map, List.length_map]; rfl
      have key := set7_other W0 w.heap.size (.int .u8 1) (.slice An ps.length cn) (.slice Ak ps.length ck) (.slice none 0 0) (.bool false) (.float .f64 0) (.string ⟨#[]⟩)
      have hsz9 := set7_size W0 w.heap.size (.int .u8 1) (.slice An ps.length cn) (.slice Ak ps.length ck) (.slice none 0 0) (.bool false) (.float .f64 0) (.string ⟨#[]⟩)
      have bk := set7_blk HB6.out rfl (.int .u8 1) (.slice An ps.length cn) (.slice Ak ps.length ck) (.slice none 0 0) (.bool false) (.float .f64 0) (.string ⟨#[]⟩)
      have be := set7_below (HB2.out.trans (HR.out.below.mono (by omega))) w.heap.size (Nat.le_refl _) (.int .u8 1) (.slice An ps.length cn) (.slice Ak ps.length ck) (.slice none 0 0) (.bool false) (.float .f64 0) (.string ⟨#[]⟩)
      change bodyPost _ _ _ _ _ (set7 W0 w.heap.size (.int .u8 1) (.slice An ps.length cn) (.slice Ak ps.length ck) (.slice none 0 0) (.bool false) (.float .f64 0) (.string ⟨#[]⟩))
      clear k0 k1 k2 k3 k4 k5 k6 f0 f1 f2 f3 f4 f5 f6 d0 d1 d2 d3 d4 d5 d6
      generalize set7 W0 w.heap.size (.int .u8 1) (.slice An ps.length cn) (.slice Ak ps.length ck) (.slice none 0 0) (.bool false) (.float .f64 0) (.string ⟨#[]⟩) = W9 at *
      have e0 := bk.cell 0; have e1 := bk.cell 1; have e2 := bk.cell 2; have e3 := bk.cell 3; have e4 := bk.cell 4; have e5 := bk.cell 5; have e6 := bk.cell 6
      simp only [List.getElem?_cons_zero, List.getElem?_cons_succ] at e0 e1 e2 e3 e4 e5 e6
      refine bodyPost_ret (v := .agg #[.int .u8 1, .slice An ps.length cn, .slice Ak ps.length ck, .slice none 0 0, .bool false, .float .f64 0, .string ⟨#[]⟩]) (by simp [results, Try.results55, go_sem, e0, e1, e2, e3, e4, e5, e6]) rfl ⟨_, by rw [hval], ?_, HIN.out.mono (fun c hc => by rcases hc with e | e; exact .inl e; exact .inr (by omega)), HMT.out, be⟩
      exact HOK.out.turn HIN.out (fun c hc _ => key c (by rcases hc with e | e <;> omega)) (fun c _ hl => by rw [hsz9]; exact hl)
theorem kids_of (l : List Md) : ∀ m, KidsOf l m := by
  intro m
  induction m with
  | zero =>
    intro A c B at_ deep w hd1 hd2 hat hl40 hdata hm
    by_cases h3 : l[at_].kind.toNat % 4 = 3
    · exact kids_link l A c B at_ deep w (by omega) hat hl40 hdata hm h3
    · exact kids_file l A c B at_ deep w (by omega) hat hl40 hdata hm h3 (.inr (by omega))
  | succ m IH =>
    intro A c B at_ deep w hd1 hd2 hat hl40 hdata hm
    by_cases h3 : l[at_].kind.toNat % 4 = 3
    · exact kids_link l A c B at_ deep w (by omega) hat hl40 hdata hm h3
    · by_cases h0 : 0 < l[at_].kind.toNat % 4
      · exact kids_file l A c B at_ deep w (by omega) hat hl40 hdata hm h3 (.inl h0)
      · exact kids_dir l m IH A c B at_ deep w hd1 hd2 hat hl40 hdata hm (by omega)
end Go.Proofs.Ytlehgacbcacokaa
