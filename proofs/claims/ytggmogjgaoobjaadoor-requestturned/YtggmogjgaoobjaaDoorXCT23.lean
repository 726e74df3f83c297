/- The contract of the reference's Decode: an item. -/
import Derived.Test.YtggmogjgaoobjaaDoorXCT20
namespace Go.Proofs.YtggmogjgaoobjaaDoor
open Go.RowKit BaseMath WireMath ReqMath

set_option maxHeartbeats 4000000 in
set_option maxRecDepth 100000 in
theorem rdecode_3 (A : Option Addr) (c : Nat) (p : List By) (hp : p.length ≤ 500000) (hN : A = none → c = 0) (hc : p.length ≤ c) (hlen : ¬ 2048 < p.length) (hkk : numR 1 ⟨p, false⟩ = 1) (w : World) (hA : SrcIs w A p) :
    Calls Tryd.prog 55 #[.slice A p.length c] w (DecPost w (decV p)) := by
  have HA := Lib.hid hA; have HN := Lib.hid hN
  clear hA hN
  have hl' : ¬ (2048 : Int) < p.length := by omega
  have HD : Hid (decV p = decK (kindR p) (after 1 ⟨p, false⟩)) := by show _ = _; unfold decV; rw [if_neg hlen]
  have HKV := Lib.hid (kind_vb p)
  have HKN : Hid ((kindR p).toNat = numR 1 ⟨p, false⟩) := by
    show _ = _
    have h : numR 1 ⟨p, false⟩ < 256 := numR_lt 1 _
    unfold kindR; rw [UInt8.toNat_ofNat_of_lt' h]
  have hb1 : Below w.heap.size w (w.alloc (.cells #[.int .u8 0, .string ⟨#[]⟩, .string ⟨#[]⟩, ns, ns, ns] 40)) := (Below.refl _ _).alloc (Nat.le_refl _) _
  have hb2 : Below w.heap.size w ((w.alloc (.cells #[.int .u8 0, .string ⟨#[]⟩, .string ⟨#[]⟩, ns, ns, ns] 40)).alloc (.cells #[.slice A p.length c, .bool false] 125)) := hb1.alloc hb1.size _
  have HBLK2 : Hid (Blk ((w.alloc (.cells #[.int .u8 0, .string ⟨#[]⟩, .string ⟨#[]⟩, ns, ns, ns] 40)).alloc (.cells #[.slice A p.length c, .bool false] 125)) w.heap.size 40 [.int .u8 0, .string ⟨#[]⟩, .string ⟨#[]⟩, ns, ns, ns]) := (Blk.new w 40 #[.int .u8 0, .string ⟨#[]⟩, .string ⟨#[]⟩, ns, ns, ns]).alloc _
  have HR2 : Hid (RdIs ((w.alloc (.cells #[.int .u8 0, .string ⟨#[]⟩, .string ⟨#[]⟩, ns, ns, ns] 40)).alloc (.cells #[.slice A p.length c, .bool false] 125)) 125 w.heap.size (w.heap.size + 1) ⟨p, false⟩) := by
    refine ⟨⟨A, c, ?_, HN.out, hc, HA.out.below hb2, fun h0 a ha => ?_⟩, by omega⟩
    · have := Blk.new (w.alloc (.cells #[.int .u8 0, .string ⟨#[]⟩, .string ⟨#[]⟩, ns, ns, ns] 40)) 125 #[.slice A p.length c, .bool false]
      rw [show (w.alloc (.cells #[.int .u8 0, .string ⟨#[]⟩, .string ⟨#[]⟩, ns, ns, ns] 40)).heap.size = w.heap.size + 1 by simp] at this
      exact this
    · obtain ⟨b, o, rfl, hb⟩ := HA.out h0
      cases ha
      exact hb.lt h0
  have HB2 := Lib.hid hb2
  clear hb1 hb2
  have hk256 : numR 1 ⟨p, false⟩ < 256 := numR_lt 1 _
  go_enter Tryd.func55, Tryd.ntmps55
  go_wp2_with fail
  refine (iwide_any w.heap.size (w.heap.size + 1) 1 (by decide) ⟨p, false⟩ (by simp only; omega) (fun h => by cases h) _ HR2.out).mono ?_
  rintro e w3 ⟨rfl, h1, h2⟩
  have HB3 : Hid (Below w.heap.size w w3) := HB2.out.trans (h2.below (by omega) HB2.out.size)
  have HBLK3 := Lib.hid (Blk.only HBLK2.out h2 (by omega : w.heap.size ≠ w.heap.size + 1))
  have HR3 := Lib.hid h1
  have hal := after_len 1 ⟨p, false⟩
  have HOK : Hid (after 1 ⟨p, false⟩).ok := ok_after (fun h => by cases h) 1
  simp only at hal
  have hgw3 : w.heap.size + 1 < w3.heap.size := h1.lt
  clear h1 h2 HR2 HBLK2 HB2
  generalize after 1 ⟨p, false⟩ = r at *
  generalize numR 1 ⟨p, false⟩ = k at *
  have hb4 : Below w3.heap.size w3 (w3.alloc (.cells #[.int .u8 (k : Int), .string ⟨#[]⟩, .string ⟨#[]⟩, ns, ns, ns] 40)) := (Below.refl _ _).alloc (Nat.le_refl _) _
  have HB5 : Hid (Below w.heap.size w (w3.alloc (.cells #[.int .u8 (k : Int), .string ⟨#[]⟩, .string ⟨#[]⟩, ns, ns, ns] 40))) := HB3.out.trans (hb4.mono HB3.out.size)
  have HBLK5 := Lib.hid (HBLK3.out.below hb4 HBLK3.out.lt)
  have HR5 := Lib.hid (HR3.out.below hb4 hgw3)
  have HBOX5 := Lib.hid (Blk.new w3 40 #[.int .u8 (k : Int), .string ⟨#[]⟩, .string ⟨#[]⟩, ns, ns, ns])
  have k0 := HBOX5.out.cell 0
  simp only [List.getElem?_cons_zero] at k0
  have hw5 : w3.heap.size < (w3.alloc (.cells #[.int .u8 (k : Int), .string ⟨#[]⟩, .string ⟨#[]⟩, ns, ns, ns] 40)).heap.size := by simp
  have HKR : Hid (hasK (kindR p).toNat = hasK k) := by show _ = _; rw [HKN.out]
  clear hb4 HBLK3 HR3 HB3
  have HX : Hid (decV p = finR ⟨kindR p, iname r, [], iarch r, irefs r, []⟩ (itemA r)) := by
    show _ = _
    have hz : hasK k = 3 := by rw [hkk]; rfl
    rw [HD.out]; unfold decK; rw [if_neg (by rw [HKR.out, hz]; decide), if_neg (by rw [HKR.out, hz]; decide), if_neg (by rw [HKR.out, hz]; decide), if_pos (by rw [HKR.out]; exact hz)]
  clear HD HKR
  subst hkk
  have HP : Hid (∀ W, Calls Tryd.prog 46 #[.int .u8 1] W fun e w' => e = .returned (.bool false) ∧ W = w') := fun W => pathed_no 1 (by decide) (by decide) W
  have HD0 : Hid (textR r = iname r) := rfl
  have HD1 : Hid (textR (textA r) = iarch r) := rfl
  have HD2 : Hid (textsR 16 (textA (textA r)) = irefs r) := rfl
  have HD3 : Hid (textsA 16 (textA (textA r)) = itemA r) := rfl
  have HOK1 := Lib.hid (ok_textA HOK.out)
  have HOK2 := Lib.hid (ok_textA HOK1.out)
  have hl1 := textA_len r
  have hl2 := textA_len (textA r)
  have hal2 := itemA_len r
  go_wp2_with fail
  refine (itext_any w.heap.size (w.heap.size + 1) r (by omega) HOK.out _ HR5.out).mono ?_
  rintro e w6 ⟨rfl, h1, h2⟩
  have hb6 : Blk w6 w3.heap.size 40 _ := Blk.only HBOX5.out h2 (by omega)
  have c1 := hb6.cell 1; have f1 := hb6.frozen 1
  simp only [List.getElem?_cons_zero, List.getElem?_cons_succ] at c1
  have hsz6 := h2.size
  have HBOX6 := Lib.hid (hb6.set 1 (vs (textR r)))
  simp only [List.set_cons_zero, List.set_cons_succ] at HBOX6
  have HBLK6 := Lib.hid ((Blk.only HBLK5.out h2 (by omega)).other (p := ⟨w3.heap.size, 1, none⟩) (by simp only; omega) (vs (textR r)))
  have HR6 : Hid (RdIs (w6.setCell ⟨w3.heap.size, 1, none⟩ (vs (textR r))) 125 w.heap.size (w.heap.size + 1) (textA r)) := h1.only ((OnlyAt.refl w3.heap.size w6).setCell 1 _) (by omega) (by omega)
  have HB6 : Hid (Below w.heap.size w (w6.setCell ⟨w3.heap.size, 1, none⟩ (vs (textR r)))) := (HB5.out.trans (h2.below (by omega) HB5.out.size)).setCell (by simp only; omega) _
  have hsz6' : w3.heap.size < (w6.setCell ⟨w3.heap.size, 1, none⟩ (vs (textR r))).heap.size := by rw [World.size_setCell]; omega
  clear hb6 h1 h2 HR5 HB5 HBLK5 HBOX5
  rw [HD0.out] at HBOX6 HBLK6 HR6 HB6 hsz6' ⊢
  go_wp2_with fail
  clear c1 f1
  have HW : Hid (Blk (w6.setCell ⟨w3.heap.size, 1, none⟩ (vs (iname r))) w3.heap.size 40 [.int .u8 1, vs (iname r), .string ⟨#[]⟩, ns, ns, ns]) := HBOX6.out
  clear HBOX6
  generalize w6.setCell ⟨w3.heap.size, 1, none⟩ (vs (iname r)) = w7 at *
  refine (itext_any w.heap.size (w.heap.size + 1) (textA r) (by omega) HOK1.out _ HR6.out).mono ?_
  rintro e u8 ⟨rfl, h1, h2⟩
  obtain ⟨cp, w9, hcv, hsrc, hb⟩ := str_bytes (textR (textA r)) u8
  have h8 := h2.size
  have h9 := hb.size
  have hb9 : Blk w9 w3.heap.size 40 _ := (Blk.only HW.out h2 (by omega)).below hb (by omega)
  have c3 := hb9.cell 3; have f3 := hb9.frozen 3
  simp only [List.getElem?_cons_zero, List.getElem?_cons_succ] at c3
  have ho9 := (OnlyAt.refl w3.heap.size w9).setCell 3 (.slice (some ⟨u8.heap.size, 0, none⟩) (textR (textA r)).length cp)
  have HW9 := Lib.hid (hb9.set 3 (.slice (some ⟨u8.heap.size, 0, none⟩) (textR (textA r)).length cp))
  simp only [List.set_cons_zero, List.set_cons_succ] at HW9
  have HBLK9 := Lib.hid (Blk.only ((Blk.only HBLK6.out h2 (by omega)).below hb (by omega)) ho9 (by omega))
  have HR9 := Lib.hid ((h1.below hb (by omega)).only ho9 (by omega) (by omega))
  have HB9 := Lib.hid (((HB6.out.trans (h2.below (by omega) HB6.out.size)).trans (hb.mono (by omega))).setCell (p := ⟨w3.heap.size, 3, none⟩) (by simp only; omega) (.slice (some ⟨u8.heap.size, 0, none⟩) (textR (textA r)).length cp))
  have hAn : New (w3.heap.size + 1) (some ⟨u8.heap.size, 0, none⟩) := fun a ha => by cases ha; simp only; omega
  have HS9 := Lib.hid (hsrc.onlyN ho9 hAn (by omega))
  have HAN := Lib.hid hAn
  have h10 : w3.heap.size < (w9.setCell ⟨w3.heap.size, 3, none⟩ (.slice (some ⟨u8.heap.size, 0, none⟩) (textR (textA r)).length cp)).heap.size := by rw [World.size_setCell]; omega
  clear hb9 h1 h2 hsrc hb ho9 hAn HW HBLK6 HR6 HB6
  rw [HD1.out] at hcv HW9 HBLK9 HR9 HB9 HS9 h10 ⊢
  go_wp2_with fail
  clear c3 f3 hcv
  generalize w9.setCell ⟨w3.heap.size, 3, none⟩ (.slice (some ⟨u8.heap.size, 0, none⟩) (iarch r).length cp) = w10 at *
  refine (itexts_any w.heap.size (w.heap.size + 1) 16 (textA (textA r)) (by omega) HOK2.out _ HR9.out).mono ?_
  rintro e w11 ⟨v11, rfl, ho11, h1, h2⟩
  obtain ⟨R1, cr, rfl, hR, hRn⟩ := own_strs ho11
  have h11 := h2.size
  have hb11 : Blk w11 w3.heap.size 40 _ := Blk.only HW9.out h2 (by omega)
  have c4 := hb11.cell 4; have f4 := hb11.frozen 4
  simp only [List.getElem?_cons_zero, List.getElem?_cons_succ] at c4
  have ho12 := (OnlyAt.refl w3.heap.size w11).setCell 4 (.slice R1 (textsR 16 (textA (textA r))).length cr)
  have HBOX6 := Lib.hid (hb11.set 4 (.slice R1 (textsR 16 (textA (textA r))).length cr))
  simp only [List.set_cons_zero, List.set_cons_succ] at HBOX6
  have HBLK6 := Lib.hid (Blk.only (Blk.only HBLK9.out h2 (by omega)) ho12 (by omega))
  have HR6 := Lib.hid (h1.only ho12 (by omega) (by omega))
  have HB6 := Lib.hid ((HB9.out.trans (h2.below (by omega) HB9.out.size)).setCell (p := ⟨w3.heap.size, 4, none⟩) (by simp only; omega) (.slice R1 (textsR 16 (textA (textA r))).length cr))
  have hRN : New (w3.heap.size + 1) R1 := fun a ha => by have := (hRn a ha).1; omega
  have HS6 := Lib.hid ((HS9.out.onlyN h2 HAN.out (by omega)).onlyN ho12 HAN.out (by omega))
  have HRR6 := Lib.hid (hR.onlyN ho12 hRN (by omega))
  have HRN := Lib.hid hRN
  clear hb11 h1 h2 hR hRn hRN ho11 ho12 HW9 HBLK9 HR9 HB9 HS9
  rw [HD2.out] at HBOX6 HBLK6 HR6 HB6 HS6 HRR6 ⊢
  rw [HD3.out] at HR6
  clear HD0 HD1 HD2 HD3 HOK HOK1 HOK2 hl1 hl2
  generalize iname r = nm at *
  generalize iarch r = ar at *
  generalize irefs r = rf at *
  generalize itemA r = r6 at *
  have HQ6 : Hid (ReqN (w11.setCell ⟨w3.heap.size, 4, none⟩ (.slice R1 rf.length cr)) (w.heap.size + 1) (.agg #[.int .u8 1, vs nm, .string ⟨#[]⟩, .slice (some ⟨u8.heap.size, 0, none⟩) ar.length cp, .slice R1 rf.length cr, ns]) ⟨kindR p, nm, [], ar, rf, []⟩) := ⟨_, cp, R1, cr, none, 0, by rw [HKV.out]; rfl, HS6.out, HAN.out.mono (by omega), HRR6.out, HRN.out.mono (by omega), OutsN.nil _ _ _⟩
  have k0 := Blk.cell HBOX6.out 0
  simp only [List.getElem?_cons_zero] at k0
  go_wp2_with fail
  generalize w11.setCell ⟨w3.heap.size, 4, none⟩ (.slice R1 rf.length cr) = w12 at *
  refine (HP.out _).mono ?_
  rintro e w13 ⟨rfl, rfl⟩
  rcases whole_end r6 with ⟨hw, -⟩ | ⟨hw, -⟩
  · have HE : Hid (wholeR r6 = true) := hw
    have HX2 : Hid (decV p = (⟨kindR p, nm, [], ar, rf, []⟩, 0)) := by show _ = _; rw [HX.out]; unfold finR; rw [if_pos hw]
    clear hw HX
    go_wp2_with fail
    with_reducible refine (whole_any w.heap.size (w.heap.size + 1) r6 _ HR6.out).mono ?_
    rintro e w7 ⟨rfl, rfl⟩
    rw [HE.out]
    have k0 := Blk.cell HBOX6.out 0; have k1 := Blk.cell HBOX6.out 1; have k2 := Blk.cell HBOX6.out 2; have k3 := Blk.cell HBOX6.out 3; have k4 := Blk.cell HBOX6.out 4; have k5 := Blk.cell HBOX6.out 5
    simp only [List.getElem?_cons_zero, List.getElem?_cons_succ] at k0 k1 k2 k3 k4 k5
    go_wp2_with (refine wpList_store_blk rfl (.tmp 2) (.tmp 113) rfl rfl (cs' := [.int .u8 1, vs nm, .string ⟨#[]⟩, .slice (some ⟨u8.heap.size, 0, none⟩) ar.length cp, .slice R1 rf.length cr, ns]) rfl HBLK6.out rfl info40 rfl ?_)
    intro w8 hrs
    have d0 := hrs.blk.cell 0; have d1 := hrs.blk.cell 1; have d2 := hrs.blk.cell 2; have d3 := hrs.blk.cell 3; have d4 := hrs.blk.cell 4; have d5 := hrs.blk.cell 5
    simp only [List.getElem?_cons_zero, List.getElem?_cons_succ] at d0 d1 d2 d3 d4 d5
    have HB8 : Hid (Below w.heap.size w w8) := hrs.below _ _ HB6.out (Nat.le_refl _)
    have HQ8 : Hid (ReqN w8 (w.heap.size + 1) (.agg #[.int .u8 1, vs nm, .string ⟨#[]⟩, .slice (some ⟨u8.heap.size, 0, none⟩) ar.length cp, .slice R1 rf.length cr, ns]) ⟨kindR p, nm, [], ar, rf, []⟩) := HQ6.out.only (RowSet.only hrs) (Nat.lt_succ_self _)
    clear hrs k0 k1 k2 k3 k4 k5
    go_wp2_with fail
    exact bodyPost_ret (v := .tuple #[.agg #[.int .u8 1, vs nm, .string ⟨#[]⟩, .slice (some ⟨u8.heap.size, 0, none⟩) ar.length cp, .slice R1 rf.length cr, ns], .int .i64 0]) (by simp [results, Tryd.results55, go_sem, *]) rfl (dec_ok HX2.out HB8.out HQ8.out)
  · have HE : Hid (wholeR r6 = false) := hw
    have HX2 : Hid (decV p = (zeroV, 2)) := by show _ = _; rw [HX.out]; unfold finR; rw [if_neg (by rw [hw]; simp)]
    clear hw HX
    go_wp2_with fail
    with_reducible refine (whole_any w.heap.size (w.heap.size + 1) r6 _ HR6.out).mono ?_
    rintro e w7 ⟨rfl, rfl⟩
    rw [HE.out]
    go_wp2_with (refine wpList_store_blk rfl (.tmp 2) (.tmp 112) rfl rfl (cs' := [.int .u8 0, .string ⟨#[]⟩, .string ⟨#[]⟩, ns, ns, ns]) rfl HBLK6.out rfl info40 rfl ?_)
    intro w8 hrs
    have d0 := hrs.blk.cell 0; have d1 := hrs.blk.cell 1; have d2 := hrs.blk.cell 2; have d3 := hrs.blk.cell 3; have d4 := hrs.blk.cell 4; have d5 := hrs.blk.cell 5
    simp only [List.getElem?_cons_zero, List.getElem?_cons_succ] at d0 d1 d2 d3 d4 d5
    have HB8 : Hid (Below w.heap.size w w8) := hrs.below _ _ HB6.out (Nat.le_refl _)
    clear hrs
    go_wp2_with fail
    exact bodyPost_ret (v := .tuple #[.agg #[.int .u8 0, .string ⟨#[]⟩, .string ⟨#[]⟩, ns, ns, ns], .int .i64 2]) (by simp [results, Tryd.results55, go_sem, *]) rfl (dec_zero HX2.out HB8.out)
end Go.Proofs.YtggmogjgaoobjaaDoor
