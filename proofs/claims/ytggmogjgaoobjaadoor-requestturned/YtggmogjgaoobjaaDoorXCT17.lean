/- The contract of the reference's kids. -/
import Derived.Test.YtggmogjgaoobjaaDoorXCT16
import Derived.Test.YtggmogjgaoobjaaDoorXCT13
import Derived.Laws.IdiomStrings
namespace Go.Proofs.YtggmogjgaoobjaaDoor
open Go.RowKit TreeMath RealMath

def KidsOf (l : List Md) (m : Nat) : Prop := ∀ (A : Option Addr) (c B at_ deep : Nat) (w : World), 1 ≤ deep → deep + m = 8 → at_ < l.length → l.length ≤ 40 → (∀ x ∈ l, x.data.length ≤ 200) → Mades w B A l →
  Calls Tryd.prog 98 #[.slice A l.length c, .int .i64 at_, .int .i64 deep] w (KPost l B at_ deep w)
set_option maxRecDepth 100000 in
theorem par_eq (l : List Md) (i : Nat) (h : i < l.length) : parOf l i = l[i].up.toNat % i := by unfold parOf; rw [List.getElem?_eq_getElem h]; rfl
set_option maxHeartbeats 16000000 in
set_option maxRecDepth 100000 in
theorem kids_dir (l : List Md) (m : Nat) (IH : KidsOf l m) (A : Option Addr) (c B at_ deep : Nat) (w : World) (hd1 : 1 ≤ deep) (hd2 : deep + (m + 1) = 8) (hat : at_ < l.length) (hl40 : l.length ≤ 40) (hdata : ∀ x ∈ l, x.data.length ≤ 200) (hm : Mades w B A l) (hk : l[at_].kind.toNat % 4 = 0) :
    Calls Tryd.prog 98 #[.slice A l.length c, .int .i64 at_, .int .i64 deep] w (KPost l B at_ deep w) := by
  have hBw := hm.le
  obtain ⟨b, o, rfl, hbB, hc⟩ := hm.at_ (by omega)
  obtain ⟨c0, c1, c2, c3, c4, c5⟩ := (hc at_ hat).six
  have hbw : b < w.heap.size := by omega
  have e3 : ((((l[at_].kind.toNat : Int) % 4)) == 3) = false := by rw [beq_eq_false_iff_ne]; omega
  have e0 : decide ((0 : Int) < (l[at_].kind.toNat : Int) % 4) = false := decide_eq_false (by omega)
  have e8 : decide ((8 : Int) ≤ (deep : Int)) = false := decide_eq_false (by omega)
  have HKD : Hid (kidsT l (8 - deep) at_ = .mk (dirE ((entT l (kidsT l (7 - deep)) at_ l.length).map Prod.fst)) ((entT l (kidsT l (7 - deep)) at_ l.length).map Prod.snd)) := by
    have := kidsT_dir (m := 7 - deep) hat hk
    rw [show 7 - deep + 1 = 8 - deep by omega] at this; exact this
  have HM := Lib.hid hm; have HIH := Lib.hid IH; have HDA := Lib.hid hdata; have HC := Lib.hid hc
  clear hc IH hm hdata
  generalize l[at_] = x at *
  go_enter Tryd.func98, Tryd.ntmps98
  go_upto_region 6 with fail
  have b6 := (Blk.new w 80 #[.int .u8 0, .slice none 0 0, .slice none 0 0, .slice none 0 0, .bool false, .float .f64 0, .string ⟨#[]⟩]).alloc (.cells #[.int .u8 (x.up.toNat : Int), .int .u8 (x.kind.toNat : Int), .int .u8 (x.name.toNat : Int), .slice x.da x.data.length x.dc, .bool x.run, .float .f64 x.stamp] 128)
  have hB2 : Below w.heap.size w ((w.alloc (.cells #[.int .u8 0, .slice none 0 0, .slice none 0 0, .slice none 0 0, .bool false, .float .f64 0, .string ⟨#[]⟩] 80)).alloc (.cells #[.int .u8 (x.up.toNat : Int), .int .u8 (x.kind.toNat : Int), .int .u8 (x.name.toNat : Int), .slice x.da x.data.length x.dc, .bool x.run, .float .f64 x.stamp] 128)) := ((Below.refl _ _).alloc (Nat.le_refl _) _).alloc (by simp) _
  have hs2 : ((w.alloc (.cells #[.int .u8 0, .slice none 0 0, .slice none 0 0, .slice none 0 0, .bool false, .float .f64 0, .string ⟨#[]⟩] 80)).alloc (.cells #[.int .u8 (x.up.toNat : Int), .int .u8 (x.kind.toNat : Int), .int .u8 (x.name.toNat : Int), .slice x.da x.data.length x.dc, .bool x.run, .float .f64 x.stamp] 128)).heap.size = w.heap.size + 2 := by simp
  generalize (w.alloc (.cells #[.int .u8 0, .slice none 0 0, .slice none 0 0, .slice none 0 0, .bool false, .float .f64 0, .string ⟨#[]⟩] 80)).alloc (.cells #[.int .u8 (x.up.toNat : Int), .int .u8 (x.kind.toNat : Int), .int .u8 (x.name.toNat : Int), .slice x.da x.data.length x.dc, .bool x.run, .float .f64 x.stamp] 128) = W2 at *
  have H6 := Lib.hid b6; have HB2 := Lib.hid hB2; have HS2 := Lib.hid hs2
  have hg6 : w.heap.size < W2.heap.size := by omega
  clear b6 hB2 hs2 c0 c1 c2 c3 c4 c5 e3 e0 e8
  go_upto_region 7 with fail
  have HO := Lib.hid (out_start W2 B l at_ deep (at_ + 1) (Nat.le_refl _))
  generalize W2.alloc (.cells #[.int .u8 1, .slice none 0 0, .slice none 0 0, .slice none 0 0, .bool false, .float .f64 0, .string ⟨#[]⟩] 80) = W3 at *
  go_wp2_with fail
  go_loopw [9] (fun vi wr => ∃ i : Nat, at_ + 1 ≤ i ∧ i ≤ l.length ∧ vi = .int .i64 i ∧ Hid (∃ vn vk ps, OutRel W2 W2.heap.size B l at_ deep i vn vk ps wr)) (fun vi _ => l.length - (intOf vi).toNat)
  case atStart => exact ⟨at_ + 1, by omega, by omega, by go_num, _, _, _, HO.out⟩
  case round =>
    obtain ⟨i, hi1, hi2, rfl, HP⟩ := hrel
    rename World => W0
    obtain ⟨vn, vk, ps, ho⟩ := HP.out
    have HR := Lib.hid ho
    clear ho HP HO
    have hgl := HR.out.blk.lt
    by_cases hlt : i < l.length
    · have hbe : Below w.heap.size w W0 := HB2.out.trans (HR.out.below.mono (by omega))
      obtain ⟨c0, c1, c2, c3, c4, c5⟩ := ((HC.out i hlt).same (hbe.block b hbw)).six
      have hpe := par_eq l i hlt
      have hpl : parOf l i < i := by rw [hpe]; exact Nat.mod_lt _ (by omega)
      have hq1 : ((l[i].up.toNat : Int) % (i : Int)) = (parOf l i : Int) := by rw [hpe]; exact (Int.natCast_emod _ _).symm
      have hq2 : ((l[i].up.toNat : Int).tmod (i : Int)) = (parOf l i : Int) := by rw [Int.tmod_eq_emod_of_nonneg (by omega)]; exact hq1
      have HBE := Lib.hid hbe
      clear hpe hbe
      have HTI : Hid (titleN l[i].name = titleN ((l[i]?.map fun m => m.name).getD 0)) := by show _ = _; rw [List.getElem?_eq_getElem hlt]; rfl
      generalize hmi : l[i] = y0 at *
      clear hmi
      have hu := y0.up.toNat_lt
      have hi0 : 0 < i := by omega
      by_cases hp : parOf l i = at_
      · have hpp : ((parOf l i : Int) == (at_ : Int)) = true := by rw [hp]; simp
        have hpn : ((parOf l i : Int) != (at_ : Int)) = false := by rw [bne, hpp]; rfl
        have HPE := Lib.hid hp
        have HNXT : Hid (OutRel W2 W2.heap.size B l at_ deep i vn vk ps W0) := HR.out
        clear hp
        go_wp2_with fail
        refine (title_any y0.name W0).mono ?_
        rintro e w1 ⟨rfl, hb1⟩
        have HR1 := Lib.hid (HR.out.keep hb1)
        have hw01 := hb1.size
        have HM1 : Hid (Mades w1 B (some ⟨b, o, none⟩) l) := HM.out.keep ((HBE.out.trans (hb1.mono HBE.out.size)).mono hBw)
        have HTN := Lib.hid (title_ok y0.name)
        have HK : Hid (Calls Tryd.prog 98 #[.slice (some ⟨b, o, none⟩) l.length c, .int .i64 i, .int .i64 ((deep : Int) + 1)] w1 fun e w' => ∃ y ly, e = .returned (nv y ly.length) ∧ Ok w' w'.heap.size (.mk y ly) ∧ InS (fun c => c < B ∨ w1.heap.size ≤ c) (.mk y ly) ∧ MadeT l i (deep + 1) (.mk y ly) ∧ Below w1.heap.size w1 w') := by
          have := HIH.out (some ⟨b, o, none⟩) c B i (deep + 1) w1 (by omega) (by omega) hlt hl40 HDA.out HM1.out
          exact this.mono fun e w' ⟨t, h⟩ => by
            obtain ⟨y, ly⟩ := t
            exact ⟨y, ly, h⟩
        generalize titleN y0.name = s at *
        clear hb1 HR HNXT HBE c0 c1 c2 c3 c4 c5 hq1 hq2 hpp hpn
        go_wp2_with fail
        refine HK.out.mono ?_
        rintro e w2 ⟨y, ly, rfl, hok, hins, hmt, hb2⟩
        have HR2 := Lib.hid (HR1.out.keep hb2)
        have hw12 := hb2.size
        have HOK := Lib.hid hok; have HIN := Lib.hid hins; have HMT := Lib.hid hmt
        clear hok hins hmt hb2 HK HM1 HR1
        go_upto_block 2 with fail
        have hB4 : Below w2.heap.size w2 (w2.alloc (.cells #[vb y.kind, .slice y.na y.names.length y.nc, .slice y.ka ly.length y.kc, .slice y.da y.data.length y.dc, .bool y.run, .float .f64 y.stamp, vs y.target] 80)) := (Below.refl _ _).alloc (Nat.le_refl _) _
        have HR4 := Lib.hid (HR2.out.keep hB4)
        have HK4 : Hid (Blk (w2.alloc (.cells #[vb y.kind, .slice y.na y.names.length y.nc, .slice y.ka ly.length y.kc, .slice y.da y.data.length y.dc, .bool y.run, .float .f64 y.stamp, vs y.target] 80)) w2.heap.size 80 (cellsT (.mk y ly))) := Blk.new w2 80 _
        have HO4 : Hid (Ok (w2.alloc (.cells #[vb y.kind, .slice y.na y.names.length y.nc, .slice y.ka ly.length y.kc, .slice y.da y.data.length y.dc, .bool y.run, .float .f64 y.stamp, vs y.target] 80)) (w2.alloc (.cells #[vb y.kind, .slice y.na y.names.length y.nc, .slice y.ka ly.length y.kc, .slice y.da y.data.length y.dc, .bool y.run, .float .f64 y.stamp, vs y.target] 80)).heap.size (.mk y ly)) := (HOK.out.keep hB4).up hB4.size
        clear hB4 HR2 HOK
        generalize w2.alloc (.cells #[vb y.kind, .slice y.na y.names.length y.nc, .slice y.ka ly.length y.kc, .slice y.da y.data.length y.dc, .bool y.run, .float .f64 y.stamp, vs y.target] 80) = W4 at *
        obtain ⟨An, cn, hvn, hns, -, -, hnb⟩ := HR4.out.names.src
        obtain ⟨Ak, ck, hvk, hks, -, -, hkb⟩ := HR4.out.kids.src
        rw [List.length_map] at hvn hvk
        subst hvn hvk
        have hpl2 := HR4.out.len
        refine inner W2.heap.size w2.heap.size ps.length cn ck An Ak s y ly ps W4 _ HR4.out.blk HK4.out rfl (by omega) hns hks ?_
        intros
        rename_i v1 v2 done acc w5 htr hfin hacc
        have HTR := Lib.hid htr; have HFIN := Lib.hid hfin
        have hw45 := htr.below.size
        clear htr hfin hns hks hnb hkb
        have HSTEP : Hid (∀ v1 v2 w6, TwoRows W4 W4.heap.size v1 v2 ((insR s (.mk y ly) ps).map Prod.fst) ((insR s (.mk y ly) ps).map Prod.snd) w6 → OutRel W2 W2.heap.size B l at_ deep (i + 1) v1 v2 (insR s (.mk y ly) ps) ((w6.setCell ⟨W2.heap.size, 1, none⟩ v1).setCell ⟨W2.heap.size, 2, none⟩ v2)) := fun v1 v2 w6 h =>
          out_step HR4.out (by omega) HO4.out (HIN.out.mono fun c hc => by rcases hc with e | e; exact .inl e; exact .inr (by omega)) HMT.out.fits (by have := HMT.out.depth; omega) HMT.out.count HPE.out (by omega) HTN.out HTI.out (by have := HMT.out.eq; rw [show 8 - (deep + 1) = 7 - deep by omega] at this; exact this) h
        cases done with
        | true =>
          have HT6 : Hid (TwoRows W4 W4.heap.size v1 v2 ((insR s (.mk y ly) ps).map Prod.fst) ((insR s (.mk y ly) ps).map Prod.snd) w5) := by
            have e : insR s (.mk y ly) ps = acc := by rw [← HFIN.out]; unfold fin; simp
            rw [e]; exact HTR.out
          clear HTR HFIN
          obtain ⟨A1, q1, hv1, -, -, -, -⟩ := HT6.out.names.src
          obtain ⟨A2, q2, hv2, -, -, -, -⟩ := HT6.out.kids.src
          rw [List.length_map] at hv1 hv2
          subst hv1 hv2
          have HN := Lib.hid (HSTEP.out _ _ _ HT6.out)
          have hbk := out_blk HR4.out HT6.out.below
          have d1 := hbk.cell 1; have d2 := hbk.cell 2; have f1 := hbk.frozen 1; have f2 := hbk.frozen 2; have hl5 := hbk.lt
          simp only [List.getElem?_cons_zero, List.getElem?_cons_succ] at d1 d2
          generalize (insR s (.mk y ly) ps).length = n6 at *
          clear hbk HSTEP HR4 HT6
          go_wp2_with fail
          go_roundw
          case rel => exact ⟨i + 1, by omega, by omega, by go_num, _, _, _, HN.out⟩
          case measure => simp [intOf]; omega
        | false =>
          have hpl3 : acc.length ≤ 1000 := by omega
          go_upto_region 24 with fail
          refine reg24 w2.heap.size W4.heap.size s y ly v1 v2 (acc.map Prod.fst) (acc.map Prod.snd) W4 w5 _ (HK4.out.below HTR.out.below HK4.out.lt) HK4.out.lt HTR.out hw45 (by simp; omega) (by simp; omega) ?_
          intros
          rename_i v3 v4 w6 htr6
          have HT6 : Hid (TwoRows W4 W4.heap.size v3 v4 ((insR s (.mk y ly) ps).map Prod.fst) ((insR s (.mk y ly) ps).map Prod.snd) w6) := by
            have e : insR s (.mk y ly) ps = acc ++ [(s, .mk y ly)] := by rw [← HFIN.out]; unfold fin; simp [insR]
            rw [e, List.map_append, List.map_append]; exact htr6
          clear HTR HFIN htr6
          obtain ⟨A1, q1, hv1, -, -, -, -⟩ := HT6.out.names.src
          obtain ⟨A2, q2, hv2, -, -, -, -⟩ := HT6.out.kids.src
          rw [List.length_map] at hv1 hv2
          subst hv1 hv2
          have HN := Lib.hid (HSTEP.out _ _ _ HT6.out)
          have hbk := out_blk HR4.out HT6.out.below
          have d1 := hbk.cell 1; have d2 := hbk.cell 2; have f1 := hbk.frozen 1; have f2 := hbk.frozen 2; have hl5 := hbk.lt
          simp only [List.getElem?_cons_zero, List.getElem?_cons_succ] at d1 d2
          generalize (insR s (.mk y ly) ps).length = n6 at *
          clear hbk HSTEP HR4 HT6
          go_wp2_with fail
          go_roundw
          case rel => exact ⟨i + 1, by omega, by omega, by go_num, _, _, _, HN.out⟩
          case measure => simp [intOf]; omega
      · have hpp : ((parOf l i : Int) == (at_ : Int)) = false := by rw [beq_eq_false_iff_ne]; omega
        have hpn : ((parOf l i : Int) != (at_ : Int)) = true := by rw [bne, hpp]; rfl
        have hpx : (parOf l i == at_) = false := by rw [beq_eq_false_iff_ne]; exact hp
        have HNX := Lib.hid (out_skip HR.out hp)
        clear HR hp
        go_wp2_with fail
        go_roundw
        case rel => exact ⟨i + 1, by omega, by omega, by go_num, _, _, _, HNX.out⟩
        case measure => simp [intOf]; omega
    · obtain ⟨An, cn, Ak, ck, hvn, hvk, hok, hins, hmt⟩ := out_done HR.out hat (by omega) (by omega) (by omega) HKD.out
      subst hvn hvk
      have d0 := HR.out.blk.cell 0; have d1 := HR.out.blk.cell 1; have d2 := HR.out.blk.cell 2; have d3 := HR.out.blk.cell 3; have d4 := HR.out.blk.cell 4; have d5 := HR.out.blk.cell 5; have d6 := HR.out.blk.cell 6
      simp only [List.getElem?_cons_zero, List.getElem?_cons_succ] at d0 d1 d2 d3 d4 d5 d6
      have h6 := H6.out.below HR.out.below hg6
      have k0 := h6.cell 0; have k1 := h6.cell 1; have k2 := h6.cell 2; have k3 := h6.cell 3; have k4 := h6.cell 4; have k5 := h6.cell 5; have k6 := h6.cell 6
      have f0 := h6.frozen 0; have f1 := h6.frozen 1; have f2 := h6.frozen 2; have f3 := h6.frozen 3; have f4 := h6.frozen 4; have f5 := h6.frozen 5; have f6 := h6.frozen 6
      have hl6 := h6.lt
      simp only [List.getElem?_cons_zero, List.getElem?_cons_succ] at k0 k1 k2 k3 k4 k5 k6
      have HOK := Lib.hid hok; have HIN := Lib.hid hins; have HMT := Lib.hid hmt; have HB6 := Lib.hid h6
      have hsz := HR.out.below.size
      clear hok hins hmt h6
      go_wp2_with fail
      have hval : val (.mk (dirHd An cn (ps.map Prod.fst) Ak ck) (ps.map Prod.snd)) = .agg #[.int .u8 1, .slice An ps.length cn, .slice Ak ps.length ck, .slice none 0 0, .bool false, .float .f64 0, .string ⟨#[]⟩] := by
        show Value.agg #[vb 1, .slice An (ps.map Prod.fst).length cn, .slice Ak (ps.map Prod.snd).length ck, .slice none 0 0, .bool false, .float .f64 0, .string ⟨#[]⟩] = _
        rw [List.length_map, List.length_map]; rfl
      have key := set7_other W0 w.heap.size (.int .u8 1) (.slice An ps.length cn) (.slice Ak ps.length ck) (.slice none 0 0) (.bool false) (.float .f64 0) (.string ⟨#[]⟩)
      have hsz9 := set7_size W0 w.heap.size (.int .u8 1) (.slice An ps.length cn) (.slice Ak ps.length ck) (.slice none 0 0) (.bool false) (.float .f64 0) (.string ⟨#[]⟩)
      have bk := set7_blk HB6.out rfl (.int .u8 1) (.slice An ps.length cn) (.slice Ak ps.length ck) (.slice none 0 0) (.bool false) (.float .f64 0) (.string ⟨#[]⟩)
      have be := set7_below (HB2.out.trans (HR.out.below.mono (by omega))) w.heap.size (Nat.le_refl _) (.int .u8 1) (.slice An ps.length cn) (.slice Ak ps.length ck) (.slice none 0 0) (.bool false) (.float .f64 0) (.string ⟨#[]⟩)
      change bodyPost _ _ _ _ _ (set7 W0 w.heap.size (.int .u8 1) (.slice An ps.length cn) (.slice Ak ps.length ck) (.slice none 0 0) (.bool false) (.float .f64 0) (.string ⟨#[]⟩))
      clear k0 k1 k2 k3 k4 k5 k6 f0 f1 f2 f3 f4 f5 f6 d0 d1 d2 d3 d4 d5 d6
      generalize set7 W0 w.heap.size (.int .u8 1) (.slice An ps.length cn) (.slice Ak ps.length ck) (.slice none 0 0) (.bool false) (.float .f64 0) (.string ⟨#[]⟩) = W9 at *
      have e0 := bk.cell 0; have e1 := bk.cell 1; have e2 := bk.cell 2; have e3 := bk.cell 3; have e4 := bk.cell 4; have e5 := bk.cell 5; have e6 := bk.cell 6
      simp only [List.getElem?_cons_zero, List.getElem?_cons_succ] at e0 e1 e2 e3 e4 e5 e6
      refine bodyPost_ret (v := .agg #[.int .u8 1, .slice An ps.length cn, .slice Ak ps.length ck, .slice none 0 0, .bool false, .float .f64 0, .string ⟨#[]⟩]) (by simp [results, Tryd.results98, go_sem, e0, e1, e2, e3, e4, e5, e6]) rfl ⟨_, by rw [hval], ?_, HIN.out.mono (fun c hc => by rcases hc with e | e; exact .inl e; exact .inr (by omega)), HMT.out, be⟩
      exact HOK.out.turn HIN.out (fun c hc _ => key c (by rcases hc with e | e <;> omega)) (fun c _ hl => by rw [hsz9]; exact hl)
set_option maxRecDepth 100000 in
theorem kids_of (l : List Md) : ∀ m, KidsOf l m := by
  intro m
  induction m with
  | zero =>
    intro A c B at_ deep w hd1 hd2 hat hl40 hdata hm
    by_cases h3 : l[at_].kind.toNat % 4 = 3
    · exact kids_link l A c B at_ deep w (by omega) hat hl40 hdata hm h3
    · exact kids_file l A c B at_ deep w (by omega) hat hl40 hdata hm h3 (.inr (by omega))
  | succ m IH =>
    intro A c B at_ deep w hd1 hd2 hat hl40 hdata hm
    by_cases h3 : l[at_].kind.toNat % 4 = 3
    · exact kids_link l A c B at_ deep w (by omega) hat hl40 hdata hm h3
    · by_cases h0 : 0 < l[at_].kind.toNat % 4
      · exact kids_file l A c B at_ deep w (by omega) hat hl40 hdata hm h3 (.inl h0)
      · exact kids_dir l m IH A c B at_ deep w hd1 hd2 hat hl40 hdata hm (by omega)
end Go.Proofs.YtggmogjgaoobjaaDoor

/- The contract of the reference's Make. -/
namespace Go.Proofs.YtggmogjgaoobjaaDoor
open Go.RowKit TreeMath RealMath

/-- a tree that may be -/
structure MadeR (t : T) : Prop where
  fits : (all t).all fitsB = true
  depth : depth t ≤ 8
  count : count t ≤ 40
set_option maxRecDepth 100000 in
theorem Mades.take {w : World} {B : Nat} {A : Option Addr} {l : List Md} (h : Mades w B A l) (n : Nat) : Mades w B A (l.take n) := by
  refine ⟨fun h0 => ?_, fun m hm => h.each m (List.mem_of_mem_take hm), fun m hm => h.low m (List.mem_of_mem_take hm), h.le⟩
  obtain ⟨b, o, e, hb, hc⟩ := h.at_ (by simp at h0; omega)
  exact ⟨b, o, e, hb, fun i hi => by rw [List.getElem_take]; exact hc i (by simp at hi; omega)⟩
/-- what Make comes to: which tree, but for where it lies -/
def MkPostL (l : List Md) (B : Nat) (w : World) (e : Ending) (w' : World) : Prop := ∃ y ly, e = .returned (nv y ly.length) ∧ Ok w' w'.heap.size (.mk y ly) ∧ InS (fun c => c < B ∨ w.heap.size ≤ c) (.mk y ly) ∧ (MadeR (.mk y ly) ∧ erase (.mk y ly) = makeT l) ∧ Below w.heap.size w w'
def MkPost (B : Nat) (w : World) (e : Ending) (w' : World) : Prop := ∃ y ly, e = .returned (nv y ly.length) ∧ Ok w' w'.heap.size (.mk y ly) ∧ InS (fun c => c < B ∨ w.heap.size ≤ c) (.mk y ly) ∧ MadeR (.mk y ly) ∧ Below w.heap.size w w'
set_option maxRecDepth 100000 in
/-- the call of kids, as Make has it -/
theorem kids_top (l : List Md) (A : Option Addr) (c B : Nat) (w : World) (h0 : 0 < l.length) (hl : l.length ≤ 40) (hdata : ∀ x ∈ l, x.data.length ≤ 200) (hm : Mades w B A l) :
    Calls Tryd.prog 98 #[.slice A l.length c, .int .i64 0, .int .i64 1] w (MkPostL l B w) := by
  have := kids_of l 7 A c B 0 1 w (by omega) (by omega) h0 hl hdata hm
  exact this.mono fun e w' ⟨t, h1, h2, h3, h4, h5⟩ => by
    obtain ⟨y, ly⟩ := t
    exact ⟨y, ly, h1, h2, h3, ⟨⟨h4.fits, by have := h4.depth; omega, by have := h4.count; have := cnt_le (parOf l) l.length 0; omega⟩, by rw [h4.eq]; unfold makeT; rw [if_neg (by omega), List.take_of_length_le (by omega)]⟩, h5⟩
set_option maxRecDepth 100000 in
set_option maxHeartbeats 4000000 in
theorem make_end (B : Nat) (w w1 : World) (y : Hd) (ly : List T) (hBw : B ≤ w.heap.size) (hblk : Blk w1 w.heap.size 80 [.int .u8 0, .slice none 0 0, .slice none 0 0, .slice none 0 0, .bool false, .float .f64 0, .string ⟨#[]⟩]) (hok : Ok w1 w1.heap.size (.mk y ly)) (hin : InS (fun c => c < B ∨ w.heap.size + 1 ≤ c) (.mk y ly)) (hb : Below w.heap.size w w1) :
    Blk (set7 w1 w.heap.size (vb y.kind) (.slice y.na y.names.length y.nc) (.slice y.ka ly.length y.kc) (.slice y.da y.data.length y.dc) (.bool y.run) (.float .f64 y.stamp) (vs y.target)) w.heap.size 80 (cellsT (.mk y ly)) ∧
    Ok (set7 w1 w.heap.size (vb y.kind) (.slice y.na y.names.length y.nc) (.slice y.ka ly.length y.kc) (.slice y.da y.data.length y.dc) (.bool y.run) (.float .f64 y.stamp) (vs y.target)) (set7 w1 w.heap.size (vb y.kind) (.slice y.na y.names.length y.nc) (.slice y.ka ly.length y.kc) (.slice y.da y.data.length y.dc) (.bool y.run) (.float .f64 y.stamp) (vs y.target)).heap.size (.mk y ly) ∧
    Below w.heap.size w (set7 w1 w.heap.size (vb y.kind) (.slice y.na y.names.length y.nc) (.slice y.ka ly.length y.kc) (.slice y.da y.data.length y.dc) (.bool y.run) (.float .f64 y.stamp) (vs y.target)) := by
  have key := set7_other w1 w.heap.size (vb y.kind) (.slice y.na y.names.length y.nc) (.slice y.ka ly.length y.kc) (.slice y.da y.data.length y.dc) (.bool y.run) (.float .f64 y.stamp) (vs y.target)
  have hsz := set7_size w1 w.heap.size (vb y.kind) (.slice y.na y.names.length y.nc) (.slice y.ka ly.length y.kc) (.slice y.da y.data.length y.dc) (.bool y.run) (.float .f64 y.stamp) (vs y.target)
  exact ⟨set7_blk hblk rfl _ _ _ _ _ _ _, hok.turn hin (fun c hc _ => key c (by rcases hc with e | e <;> omega)) (fun c _ hl => by rw [hsz]; exact hl), set7_below hb _ (Nat.le_refl _) _ _ _ _ _ _ _⟩
set_option maxRecDepth 100000 in
set_option maxHeartbeats 8000000 in
theorem make_of (l : List Md) (A : Option Addr) (c B : Nat) (w : World) (hl : l.length ≤ 60) (hcap : l.length ≤ c) (hcm : c ≤ maxLen) (hdata : ∀ x ∈ l, x.data.length ≤ 200) (hm : Mades w B A l) :
    Calls Tryd.prog 77 #[.slice A l.length c] w (MkPostL l B w) := by
  have hBw := hm.le
  unfold maxLen at hcm
  have HM := Lib.hid hm; have HD := Lib.hid hdata
  clear hm hdata
  have HB : Hid (∀ o, Below w.heap.size w (w.alloc o)) := fun o => (Below.refl _ _).alloc (Nat.le_refl _) _
  have HBX : Hid (Blk (w.alloc (.cells #[.int .u8 0, .slice none 0 0, .slice none 0 0, .slice none 0 0, .bool false, .float .f64 0, .string ⟨#[]⟩] 80)) w.heap.size 80 [.int .u8 0, .slice none 0 0, .slice none 0 0, .slice none 0 0, .bool false, .float .f64 0, .string ⟨#[]⟩]) := Blk.new w 80 _
  by_cases h0 : 0 < l.length
  · have e0 : ((l.length : Int) == 0) = false := by rw [beq_eq_false_iff_ne]; omega
    have e0' : (l.length == 0) = false := by rw [beq_eq_false_iff_ne]; omega
    by_cases h4 : 40 < l.length
    · have e4 : decide ((40 : Int) < l.length) = true := decide_eq_true (by omega)
      obtain ⟨b, o, rfl, -⟩ := HM.out.at_ h0
      have HK : Hid (Calls Tryd.prog 98 #[.slice (some ⟨b, o, none⟩) 40 c, .int .i64 0, .int .i64 1] (w.alloc (.cells #[.int .u8 0, .slice none 0 0, .slice none 0 0, .slice none 0 0, .bool false, .float .f64 0, .string ⟨#[]⟩] 80)) (MkPostL l B (w.alloc (.cells #[.int .u8 0, .slice none 0 0, .slice none 0 0, .slice none 0 0, .bool false, .float .f64 0, .string ⟨#[]⟩] 80)))) := by
        have := kids_top (l.take 40) (some ⟨b, o, none⟩) c B _ (by simp; omega) (by simp; omega) (fun x hx => HD.out x (List.mem_of_mem_take hx)) ((HM.out.keep ((HB.out (.cells #[.int .u8 0, .slice none 0 0, .slice none 0 0, .slice none 0 0, .bool false, .float .f64 0, .string ⟨#[]⟩] 80)).mono hBw)).take 40)
        rw [List.length_take, Nat.min_eq_left (by omega)] at this
        have em : makeT (l.take 40) = makeT l := by unfold makeT; rw [if_neg (by rw [List.length_take]; omega), if_neg (by omega), List.take_take]; rfl
        unfold MkPostL at this ⊢
        rw [em] at this; exact this
      go_enter Tryd.func77, Tryd.ntmps77
      go_wp2_with fail
      refine HK.out.mono ?_
      rintro e w1 ⟨y, ly, rfl, hok, hin, hmr, hb⟩
      rw [World.size_alloc] at hin
      have hB1 := (HB.out (.cells #[.int .u8 0, .slice none 0 0, .slice none 0 0, .slice none 0 0, .bool false, .float .f64 0, .string ⟨#[]⟩] 80)).trans (hb.mono (by simp))
      have hbx := HBX.out.below hb (by simp)
      have HE := Lib.hid (make_end B w w1 y ly hBw hbx hok hin hB1)
      have k0 := hbx.cell 0; have k1 := hbx.cell 1; have k2 := hbx.cell 2; have k3 := hbx.cell 3; have k4 := hbx.cell 4; have k5 := hbx.cell 5; have k6 := hbx.cell 6
      have f0 := hbx.frozen 0; have f1 := hbx.frozen 1; have f2 := hbx.frozen 2; have f3 := hbx.frozen 3; have f4 := hbx.frozen 4; have f5 := hbx.frozen 5; have f6 := hbx.frozen 6
      have hl6 := hbx.lt
      simp only [List.getElem?_cons_zero, List.getElem?_cons_succ] at k0 k1 k2 k3 k4 k5 k6
      have HIN := Lib.hid hin; have HMR := Lib.hid hmr
      clear hok hin hmr hb hB1 hbx HK HBX
      go_wp2_with fail
      change bodyPost _ _ _ _ _ (set7 w1 w.heap.size (vb y.kind) (.slice y.na y.names.length y.nc) (.slice y.ka ly.length y.kc) (.slice y.da y.data.length y.dc) (.bool y.run) (.float .f64 y.stamp) (vs y.target))
      obtain ⟨bk, hok9, be⟩ := HE.out
      clear k0 k1 k2 k3 k4 k5 k6 f0 f1 f2 f3 f4 f5 f6
      generalize (set7 w1 w.heap.size (vb y.kind) (.slice y.na y.names.length y.nc) (.slice y.ka ly.length y.kc) (.slice y.da y.data.length y.dc) (.bool y.run) (.float .f64 y.stamp) (vs y.target)) = W9 at *
      have e0 := bk.cell 0; have e1 := bk.cell 1; have e2 := bk.cell 2; have e3 := bk.cell 3; have e4 := bk.cell 4; have e5 := bk.cell 5; have e6 := bk.cell 6
      simp only [cellsT, cellsOf, List.getElem?_cons_zero, List.getElem?_cons_succ] at e0 e1 e2 e3 e4 e5 e6
      exact bodyPost_ret (v := nv y ly.length) (by simp [results, Tryd.results77, go_sem, e0, e1, e2, e3, e4, e5, e6]) rfl ⟨y, ly, rfl, hok9, HIN.out.mono (fun c hc => by rcases hc with e | e; exact .inl e; exact .inr (by omega)), HMR.out, be⟩
    · have e4 : decide ((40 : Int) < l.length) = false := decide_eq_false (by omega)
      have HK : Hid (Calls Tryd.prog 98 #[.slice A l.length c, .int .i64 0, .int .i64 1] (w.alloc (.cells #[.int .u8 0, .slice none 0 0, .slice none 0 0, .slice none 0 0, .bool false, .float .f64 0, .string ⟨#[]⟩] 80)) (MkPostL l B (w.alloc (.cells #[.int .u8 0, .slice none 0 0, .slice none 0 0, .slice none 0 0, .bool false, .float .f64 0, .string ⟨#[]⟩] 80)))) :=
        kids_top l A c B _ h0 (by omega) HD.out (HM.out.keep ((HB.out (.cells #[.int .u8 0, .slice none 0 0, .slice none 0 0, .slice none 0 0, .bool false, .float .f64 0, .string ⟨#[]⟩] 80)).mono hBw))
      go_enter Tryd.func77, Tryd.ntmps77
      go_wp2_with fail
      refine HK.out.mono ?_
      rintro e w1 ⟨y, ly, rfl, hok, hin, hmr, hb⟩
      rw [World.size_alloc] at hin
      have hB1 := (HB.out (.cells #[.int .u8 0, .slice none 0 0, .slice none 0 0, .slice none 0 0, .bool false, .float .f64 0, .string ⟨#[]⟩] 80)).trans (hb.mono (by simp))
      have hbx := HBX.out.below hb (by simp)
      have HE := Lib.hid (make_end B w w1 y ly hBw hbx hok hin hB1)
      have k0 := hbx.cell 0; have k1 := hbx.cell 1; have k2 := hbx.cell 2; have k3 := hbx.cell 3; have k4 := hbx.cell 4; have k5 := hbx.cell 5; have k6 := hbx.cell 6
      have f0 := hbx.frozen 0; have f1 := hbx.frozen 1; have f2 := hbx.frozen 2; have f3 := hbx.frozen 3; have f4 := hbx.frozen 4; have f5 := hbx.frozen 5; have f6 := hbx.frozen 6
      have hl6 := hbx.lt
      simp only [List.getElem?_cons_zero, List.getElem?_cons_succ] at k0 k1 k2 k3 k4 k5 k6
      have HIN := Lib.hid hin; have HMR := Lib.hid hmr
      clear hok hin hmr hb hB1 hbx HK HBX
      go_wp2_with fail
      change bodyPost _ _ _ _ _ (set7 w1 w.heap.size (vb y.kind) (.slice y.na y.names.length y.nc) (.slice y.ka ly.length y.kc) (.slice y.da y.data.length y.dc) (.bool y.run) (.float .f64 y.stamp) (vs y.target))
      obtain ⟨bk, hok9, be⟩ := HE.out
      clear k0 k1 k2 k3 k4 k5 k6 f0 f1 f2 f3 f4 f5 f6
      generalize (set7 w1 w.heap.size (vb y.kind) (.slice y.na y.names.length y.nc) (.slice y.ka ly.length y.kc) (.slice y.da y.data.length y.dc) (.bool y.run) (.float .f64 y.stamp) (vs y.target)) = W9 at *
      have e0 := bk.cell 0; have e1 := bk.cell 1; have e2 := bk.cell 2; have e3 := bk.cell 3; have e4 := bk.cell 4; have e5 := bk.cell 5; have e6 := bk.cell 6
      simp only [cellsT, cellsOf, List.getElem?_cons_zero, List.getElem?_cons_succ] at e0 e1 e2 e3 e4 e5 e6
      exact bodyPost_ret (v := nv y ly.length) (by simp [results, Tryd.results77, go_sem, e0, e1, e2, e3, e4, e5, e6]) rfl ⟨y, ly, rfl, hok9, HIN.out.mono (fun c hc => by rcases hc with e | e; exact .inl e; exact .inr (by omega)), HMR.out, be⟩
  · have hl0 : l = [] := List.eq_nil_of_length_eq_zero (by omega)
    subst hl0
    have e0 : (((([] : List Md).length : Nat) : Int) == 0) = true := rfl
    have HO : Hid (∀ W, Ok W W.heap.size (.mk (fileHd none 0 [] false 0) [])) := fun W => ok_file _ _ _ _ _ (fun h => absurd h (by simp)) (fun h => absurd h (by simp)) (fun _ => rfl) (by simp) (by simp) (by omega)
    go_enter Tryd.func77, Tryd.ntmps77
    go_wp2_with fail
    exact bodyPost_ret (v := nv (fileHd none 0 [] false 0) ([] : List T).length) (by simp [results, Tryd.results77, go_sem]; exact ⟨rfl, ⟨rfl, rfl, rfl⟩, ⟨rfl, rfl⟩, ⟨rfl, rfl, rfl⟩, rfl, rfl, rfl⟩) rfl ⟨fileHd none 0 [] false 0, [], rfl, HO.out _, inS_file _ _ _ _ _ _ (fun h => absurd h (by simp)), ⟨⟨by rw [all, allL, List.all_cons, fits_file]; rfl, by rw [TreeMath.depth, depthL]; omega, by rw [count_mk, allL]; simp⟩, rfl⟩, HB.out _⟩
set_option maxRecDepth 100000 in
theorem make_any (l : List Md) (A : Option Addr) (c B : Nat) (w : World) (hl : l.length ≤ 60) (hcap : l.length ≤ c) (hcm : c ≤ maxLen) (hdata : ∀ x ∈ l, x.data.length ≤ 200) (hm : Mades w B A l) :
    Calls Tryd.prog 77 #[.slice A l.length c] w (MkPost B w) := (make_of l A c B w hl hcap hcm hdata hm).mono fun _ _ ⟨y, ly, h1, h2, h3, h4, h5⟩ => ⟨y, ly, h1, h2, h3, h4.1, h5⟩
end Go.Proofs.YtggmogjgaoobjaaDoor

/- TreeMade: what each way of its switch makes of a tree. -/
namespace Go.Proofs.YtggmogjgaoobjaaDoor
open Go.RowKit TreeMath RealMath WireMath PackMath

theorem made_right {t : T} (h : MadeR t) : rightB t = true := by
  unfold rightB
  rw [h.fits, decide_eq_true h.depth, decide_eq_true (by have := h.count; omega : count t ≤ 64)]; rfl
theorem fits_names {x : Hd} {ks : List T} (h : fitsB (.mk x ks) = true) : x.names.length ≤ ks.length := by
  rw [fitsB] at h
  split at h
  · simp only [Bool.and_eq_true, decide_eq_true_eq] at h; omega
  · split at h
    · simp only [Bool.and_eq_true, decide_eq_true_eq] at h; have := h.1.1.2; rw [this]; simp
    · split at h
      · simp only [Bool.and_eq_true, decide_eq_true_eq] at h; have := h.1.1.2; rw [this]; simp
      · simp at h
theorem all_self (t : T) : t ∈ all t := by cases t; rw [all]; simp
theorem kids_le {x : Hd} {ks : List T} : ks.length ≤ count (.mk x ks) := by rw [count_mk]; have := len_le_count ks; omega
mutual
theorem mem_count : ∀ (t k : T), k ∈ all t → count k ≤ count t
  | .mk x ks, k, h => by
    rw [all] at h
    rcases List.mem_cons.1 h with e | e
    · rw [e]; omega
    · rw [count_mk]; have := memL_count ks k e; omega
theorem memL_count : ∀ (ks : List T) (k : T), k ∈ allL ks → count k ≤ (allL ks).length
  | [], k, h => by rw [allL] at h; cases h
  | a :: l, k, h => by
    rw [allL] at h ⊢
    rw [List.length_append]
    rcases List.mem_append.1 h with e | e
    · have := mem_count a k e; unfold count at this ⊢; omega
    · have := memL_count l k e; omega
end
theorem made_few {t : T} (h : MadeR t) : Few t := fun k hk => by
  have h1 := List.all_eq_true.1 h.fits k hk
  have h2 := mem_count t k hk
  have h3 := h.count
  obtain ⟨x, ks⟩ := k
  have h4 := fits_names h1
  have h5 := kids_le (x := x) (ks := ks)
  show x.names.length ≤ _
  omega
end Go.Proofs.YtggmogjgaoobjaaDoor

/- Bytes of an archive; what the reference's Of comes to. -/
namespace Go.Proofs.YtggmogjgaoobjaaDoor
open Go.RowKit TreeMath RealMath WireMath PackMath

/-- an archive in memory -/
def ArIs (w : World) (v : Value) (a : List By) : Prop := ∃ A c, v = .slice A a.length c ∧ SrcIs w A a ∧ (A = none → c = 0) ∧ a.length ≤ c ∧ a.length ≤ 80000 ∧ ∀ ad, A = some ad → Ty5 w ad.block
set_option maxRecDepth 100000 in
theorem ArIs.below {w w' : World} {v : Value} {a : List By} (h : ArIs w v a) (hb : Below w.heap.size w w') : ArIs w' v a := by
  obtain ⟨A, c, rfl, h1, h2, h3, h4, h5⟩ := h
  exact ⟨A, c, rfl, h1.below hb, h2, h3, h4, fun ad e => (h5 ad e).below hb⟩
set_option maxRecDepth 100000 in
theorem out_right {t : T} (hr : rightB t = true) : outBT t = arch t ∧ errN t = 0 := by unfold outBT errN; rw [hr]; exact ⟨rfl, rfl⟩
def OfPost (w : World) (e : Ending) (w' : World) : Prop := (∃ v a, e = .returned v ∧ ArIs w' v a) ∧ Below w.heap.size w w'
set_option maxHeartbeats 2000000 in
set_option maxRecDepth 100000 in
theorem refof_any (l : List Md) (A : Option Addr) (c B : Nat) (w : World) (hl : l.length ≤ 60) (hcap : l.length ≤ c) (hcm : c ≤ maxLen) (hdata : ∀ x ∈ l, x.data.length ≤ 200) (hm : Mades w B A l) : Calls Tryd.prog 33 #[.slice A l.length c] w (OfPost w) := by
  have HM := Lib.hid hm; have HD := Lib.hid hdata
  clear hm hdata
  go_enter Tryd.func33, Tryd.ntmps33
  go_wp2_with fail
  refine (make_any l A c B w hl hcap hcm HD.out HM.out).mono ?_
  rintro e w1 ⟨y, ly, rfl, hok, -, hmr, hb⟩
  have HO := Lib.hid hok; have HR := Lib.hid (made_right hmr); have HF := Lib.hid (made_few hmr); have HB := Lib.hid hb
  have HC : Hid (count (.mk y ly) ≤ 40) := hmr.count
  clear hok hmr hb
  go_wp2_with fail
  refine (rwrite_any y ly w1.heap.size w1 (Nat.le_refl _) HO.out (by have := HC.out; omega) HF.out).mono ?_
  rintro e w2 ⟨⟨A2, c2, rfl, hA, hN, -, hc2, hty⟩, hb2⟩
  have HOUT := Lib.hid (out_right HR.out)
  have hle := arch_le HR.out
  rw [HOUT.out.1] at hA hc2
  rw [HOUT.out.1, HOUT.out.2]
  have HA := Lib.hid hA; have HN := Lib.hid hN; have HB2 := Lib.hid hb2; have HC2 := Lib.hid hc2; have HLE := Lib.hid hle; have HTY := Lib.hid hty
  clear hA hN hb2 hc2 hle hty
  go_wp2_with fail
  go_ret
  exact ⟨⟨_, arch (.mk y ly), rfl, A2, c2, rfl, HA.out, HN.out, HC2.out, HLE.out, HTY.out⟩, HB.out.trans (HB2.out.mono HB.out.size)⟩
end Go.Proofs.YtggmogjgaoobjaaDoor
