/- The contract of the reference's Decode: several outputs. -/
import Derived.Test.YtggmogjgaoobjaaDoorXCT22
namespace Go.Proofs.YtggmogjgaoobjaaDoor
open Go.RowKit BaseMath WireMath ReqMath

set_option maxHeartbeats 4000000 in
set_option maxRecDepth 100000 in
theorem rdecode_4 (A : Option Addr) (c : Nat) (p : List By) (hp : p.length ≤ 500000) (hN : A = none → c = 0) (hc : p.length ≤ c) (hlen : ¬ 2048 < p.length) (hkk : numR 1 ⟨p, false⟩ = 7) (w : World) (hA : SrcIs w A p) :
    Calls Tryd.prog 55 #[.slice A p.length c] w (DecPost w (decV p)) := by
  have HA := Lib.hid hA; have HN := Lib.hid hN
  clear hA hN
  have hl' : ¬ (2048 : Int) < p.length := by omega
  have HD : Hid (decV p = decK (kindR p) (after 1 ⟨p, false⟩)) := by show _ = _; unfold decV; rw [if_neg hlen]
  have HKV := Lib.hid (kind_vb p)
  have HKN : Hid ((kindR p).toNat = numR 1 ⟨p, false⟩) := by
    show _ = _
    have h : numR 1 ⟨p, false⟩ < 256 := numR_lt 1 _
    unfold kindR; rw [UInt8.toNat_ofNat_of_lt' h]
  have hb1 : Below w.heap.size w (w.alloc (.cells #[.int .u8 0, .string ⟨#[]⟩, .string ⟨#[]⟩, ns, ns, ns] 40)) := (Below.refl _ _).alloc (Nat.le_refl _) _
  have hb2 : Below w.heap.size w ((w.alloc (.cells #[.int .u8 0, .string ⟨#[]⟩, .string ⟨#[]⟩, ns, ns, ns] 40)).alloc (.cells #[.slice A p.length c, .bool false] 125)) := hb1.alloc hb1.size _
  have HBLK2 : Hid (Blk ((w.alloc (.cells #[.int .u8 0, .string ⟨#[]⟩, .string ⟨#[]⟩, ns, ns, ns] 40)).alloc (.cells #[.slice A p.length c, .bool false] 125)) w.heap.size 40 [.int .u8 0, .string ⟨#[]⟩, .string ⟨#[]⟩, ns, ns, ns]) := (Blk.new w 40 #[.int .u8 0, .string ⟨#[]⟩, .string ⟨#[]⟩, ns, ns, ns]).alloc _
  have HR2 : Hid (RdIs ((w.alloc (.cells #[.int .u8 0, .string ⟨#[]⟩, .string ⟨#[]⟩, ns, ns, ns] 40)).alloc (.cells #[.slice A p.length c, .bool false] 125)) 125 w.heap.size (w.heap.size + 1) ⟨p, false⟩) := by
    refine ⟨⟨A, c, ?_, HN.out, hc, HA.out.below hb2, fun h0 a ha => ?_⟩, by omega⟩
    · have := Blk.new (w.alloc (.cells #[.int .u8 0, .string ⟨#[]⟩, .string ⟨#[]⟩, ns, ns, ns] 40)) 125 #[.slice A p.length c, .bool false]
      rw [show (w.alloc (.cells #[.int .u8 0, .string ⟨#[]⟩, .string ⟨#[]⟩, ns, ns, ns] 40)).heap.size = w.heap.size + 1 by simp] at this
      exact this
    · obtain ⟨b, o, rfl, hb⟩ := HA.out h0
      cases ha
      exact hb.lt h0
  have HB2 := Lib.hid hb2
  clear hb1 hb2
  have hk256 : numR 1 ⟨p, false⟩ < 256 := numR_lt 1 _
  go_enter Tryd.func55, Tryd.ntmps55
  go_wp2_with fail
  refine (iwide_any w.heap.size (w.heap.size + 1) 1 (by decide) ⟨p, false⟩ (by simp only; omega) (fun h => by cases h) _ HR2.out).mono ?_
  rintro e w3 ⟨rfl, h1, h2⟩
  have HB3 : Hid (Below w.heap.size w w3) := HB2.out.trans (h2.below (by omega) HB2.out.size)
  have HBLK3 := Lib.hid (Blk.only HBLK2.out h2 (by omega : w.heap.size ≠ w.heap.size + 1))
  have HR3 := Lib.hid h1
  have hal := after_len 1 ⟨p, false⟩
  have HOK : Hid (after 1 ⟨p, false⟩).ok := ok_after (fun h => by cases h) 1
  simp only at hal
  have hgw3 : w.heap.size + 1 < w3.heap.size := h1.lt
  clear h1 h2 HR2 HBLK2 HB2
  generalize after 1 ⟨p, false⟩ = r at *
  generalize numR 1 ⟨p, false⟩ = k at *
  have hb4 : Below w3.heap.size w3 (w3.alloc (.cells #[.int .u8 (k : Int), .string ⟨#[]⟩, .string ⟨#[]⟩, ns, ns, ns] 40)) := (Below.refl _ _).alloc (Nat.le_refl _) _
  have HB5 : Hid (Below w.heap.size w (w3.alloc (.cells #[.int .u8 (k : Int), .string ⟨#[]⟩, .string ⟨#[]⟩, ns, ns, ns] 40))) := HB3.out.trans (hb4.mono HB3.out.size)
  have HBLK5 := Lib.hid (HBLK3.out.below hb4 HBLK3.out.lt)
  have HR5 := Lib.hid (HR3.out.below hb4 hgw3)
  have HBOX5 := Lib.hid (Blk.new w3 40 #[.int .u8 (k : Int), .string ⟨#[]⟩, .string ⟨#[]⟩, ns, ns, ns])
  have k0 := HBOX5.out.cell 0
  simp only [List.getElem?_cons_zero] at k0
  have hw5 : w3.heap.size < (w3.alloc (.cells #[.int .u8 (k : Int), .string ⟨#[]⟩, .string ⟨#[]⟩, ns, ns, ns] 40)).heap.size := by simp
  have HKR : Hid (hasK (kindR p).toNat = hasK k) := by show _ = _; rw [HKN.out]
  clear hb4 HBLK3 HR3 HB3
  have HX0 : Hid (decV p = match outsR r with | none => (zeroV, 2) | some (os, r') => finR ⟨kindR p, [], [], [], [], os⟩ r') := by
    show _ = _
    have hz : hasK k = 4 := by rw [hkk]; rfl
    rw [HD.out]; unfold decK; rw [if_neg (by rw [HKR.out, hz]; decide), if_neg (by rw [HKR.out, hz]; decide), if_neg (by rw [HKR.out, hz]; decide), if_neg (by rw [HKR.out, hz]; decide)]
    rfl
  clear HD HKR
  subst hkk
  have HP : Hid (∀ W, Calls Tryd.prog 46 #[.int .u8 7] W fun e w' => e = .returned (.bool false) ∧ W = w') := fun W => pathed_no 7 (by decide) (by decide) W
  go_wp2_with fail
  refine (HP.out _).mono ?_
  rintro e w6 ⟨rfl, rfl⟩
  go_wp2_with fail
  refine (iwide_any w.heap.size (w.heap.size + 1) 1 (by decide) r (by omega) HOK.out _ HR5.out).mono ?_
  rintro e w1 ⟨rfl, h1, h2⟩
  have hsz1 := h2.size
  have HB1 : Hid (Below w.heap.size w w1) := HB5.out.trans (h2.below (by omega) HB5.out.size)
  have HBLK1 := Lib.hid (Blk.only HBLK5.out h2 (by omega))
  have HBOX1 := Lib.hid (Blk.only HBOX5.out h2 (by omega))
  have HR1 := Lib.hid h1
  have hal1 := after_len 1 r
  have HOK1 := Lib.hid (ok_after HOK.out 1)
  have hn256 : numR 1 r < 256 := numR_lt 1 r
  have hw1 : w3.heap.size < w1.heap.size := by omega
  clear h1 h2 HR5 HBOX5 HBLK5 HB5 HP k0 hw5 hsz1
  by_cases hn : numR 1 r = 0 ∨ 4 < numR 1 r
  · have HX : Hid (decV p = (zeroV, 2)) := by
      show _ = _
      have h : outsR r = none := by unfold outsR; rw [if_pos hn]
      rw [HX0.out, h]
    clear HX0
    have HBLK6 := HBLK1; have HB6 := HB1
    generalize numR 1 r = n at *
    rcases hn with rfl | hn
    · go_wp2_with (refine wpList_store_blk rfl (.tmp 2) (.tmp 63) rfl rfl (cs' := [.int .u8 0, .string ⟨#[]⟩, .string ⟨#[]⟩, ns, ns, ns]) rfl HBLK6.out rfl info40 rfl ?_)
      intro w8 hrs
      have d0 := hrs.blk.cell 0; have d1 := hrs.blk.cell 1; have d2 := hrs.blk.cell 2; have d3 := hrs.blk.cell 3; have d4 := hrs.blk.cell 4; have d5 := hrs.blk.cell 5
      simp only [List.getElem?_cons_zero, List.getElem?_cons_succ] at d0 d1 d2 d3 d4 d5
      have HB8 : Hid (Below w.heap.size w w8) := hrs.below _ _ HB6.out (Nat.le_refl _)
      clear hrs
      go_wp2_with fail
      exact bodyPost_ret (v := .tuple #[.agg #[.int .u8 0, .string ⟨#[]⟩, .string ⟨#[]⟩, ns, ns, ns], .int .i64 2]) (by simp [results, Tryd.results55, go_sem, *]) rfl (dec_zero HX.out HB8.out)
    · have hn' : (4 : Int) < n := by omega
      have hn0 : ¬ (n : Int) < 1 := by omega
      go_wp2_with (refine wpList_store_blk rfl (.tmp 2) (.tmp 63) rfl rfl (cs' := [.int .u8 0, .string ⟨#[]⟩, .string ⟨#[]⟩, ns, ns, ns]) rfl HBLK6.out rfl info40 rfl ?_)
      intro w8 hrs
      have d0 := hrs.blk.cell 0; have d1 := hrs.blk.cell 1; have d2 := hrs.blk.cell 2; have d3 := hrs.blk.cell 3; have d4 := hrs.blk.cell 4; have d5 := hrs.blk.cell 5
      simp only [List.getElem?_cons_zero, List.getElem?_cons_succ] at d0 d1 d2 d3 d4 d5
      have HB8 : Hid (Below w.heap.size w w8) := hrs.below _ _ HB6.out (Nat.le_refl _)
      clear hrs
      go_wp2_with fail
      exact bodyPost_ret (v := .tuple #[.agg #[.int .u8 0, .string ⟨#[]⟩, .string ⟨#[]⟩, ns, ns, ns], .int .i64 2]) (by simp [results, Tryd.results55, go_sem, *]) rfl (dec_zero HX.out HB8.out)
  · have HA : Hid (outsGo (numR 1 r) 0 [] (after 1 r) = outsR r) := by show _ = _; unfold outsR; rw [if_neg hn]
    generalize outsR r = all at *
    generalize numR 1 r = n at *
    have hn' : ¬ (4 : Int) < n := by omega
    have hn0 : ¬ (n : Int) < 1 := by omega
    have HX : Hid (RtRel w (w.heap.size + 1) w3.heap.size n all p.length 0 w1) := by
      refine ⟨⟨[], [], .slice none 0 0, after 1 r, rfl, rfl, World.ownsRow_nil _ _ _ _, HBOX1.out, (fun i hi => absurd hi (by simp)), HR1.out, HOK1.out, by omega, HA.out⟩, HBLK1.out, HB1.out⟩
    clear HR1 HBOX1 HBLK1 HB1 HA HOK1
    go_wp2_with fail
    go_loopw [7] (fun vv wr => ∃ k : Nat, k ≤ n ∧ vv = .int .i64 k ∧ Hid (RtRel w (w.heap.size + 1) w3.heap.size n all p.length k wr)) (fun vv _ => n - (intOf vv).toNat)
    case atStart => exact ⟨0, Nat.zero_le _, rfl, HX.out⟩
    case round =>
      clear HX
      obtain ⟨k, hk, rfl, HXX⟩ := hrel
      rename World => W0
      obtain ⟨acc, cells, v0, r1, hacc, hcl, hown, hbox, hD, hr1, hok1, hlen, hgo⟩ := HXX.out.ex
      have HZ := Lib.hid HXX.out.zero; have HB := Lib.hid HXX.out.below
      have HACC := Lib.hid hacc; have HCL := Lib.hid hcl; have HOWN := Lib.hid hown; have HBOX := Lib.hid hbox; have HDD := Lib.hid hD; have HR := Lib.hid hr1; have HK1 := Lib.hid hok1; have HGO := Lib.hid hgo
      have hqW : w3.heap.size < W0.heap.size := Blk.lt hbox
      clear HXX hacc hcl hown hbox hD hr1 hok1 hgo
      by_cases hkn : k < n
      · have hgW : w.heap.size + 1 < W0.heap.size := HR.out.lt
        obtain ⟨O1, oc, hv⟩ := own_form HOWN.out
        subst hv
        have HROW : Hid (∀ c, (Value.slice O1 k oc).ownBlock = some c → c < W0.heap.size) := fun c hc => (HOWN.out.lt c hc).2
        have HOKa := Lib.hid (ok_textA HK1.out)
        have HOKb := Lib.hid (ok_textA HOKa.out)
        have HOKc := Lib.hid (ok_itemA HK1.out)
        have HOKd := Lib.hid (ok_after HOKc.out 1)
        have hla := textA_len r1
        have hlb := textA_len (textA r1)
        have hlc := itemA_len r1
        have hld := after_len 1 (itemA r1)
        have HD0 : Hid (textR r1 = iname r1) := rfl
        have HD1 : Hid (textR (textA r1) = iarch r1) := rfl
        have HD2 : Hid (textsR 16 (textA (textA r1)) = irefs r1) := rfl
        have HD3 : Hid (textsA 16 (textA (textA r1)) = itemA r1) := rfl
        have hszA : (W0.alloc (.cells #[.string ⟨#[]⟩, ns, ns, ns] 57)).heap.size = W0.heap.size + 1 := by simp
        have HRa : Hid (RdIs (W0.alloc (.cells #[.string ⟨#[]⟩, ns, ns, ns] 57)) 125 w.heap.size (w.heap.size + 1) r1) := HR.out.below ((Below.refl _ _).alloc (Nat.le_refl _) _) hgW
        have HBX : Hid (Blk (W0.alloc (.cells #[.string ⟨#[]⟩, ns, ns, ns] 57)) W0.heap.size 57 [.string ⟨#[]⟩, ns, ns, ns]) := Blk.new W0 57 _
        have HOa : Hid (OnlyAt (w.heap.size + 1) W0 (W0.alloc (.cells #[.string ⟨#[]⟩, ns, ns, ns] 57))) := (OnlyAt.refl _ _).alloc _
        have HSZA := Lib.hid hszA
        clear hszA
        go_wp2_with fail
        refine (itext_any w.heap.size (w.heap.size + 1) r1 (by omega) HK1.out _ HRa.out).mono ?_
        rintro e w4 ⟨rfl, h1, h2⟩
        have h4 : W0.heap.size < w4.heap.size := by have := h2.size; have := HSZA.out; omega
        have hb4 : Blk w4 W0.heap.size 57 _ := Blk.only HBX.out h2 (by omega)
        have c0 := hb4.cell 0; have f0 := hb4.frozen 0
        simp only [List.getElem?_cons_zero] at c0
        have HBX4 : Hid (Blk (w4.setCell ⟨W0.heap.size, 0, none⟩ (vs (textR r1))) W0.heap.size 57 [vs (textR r1), ns, ns, ns]) := hb4.set 0 (vs (textR r1))
        have HR4 : Hid (RdIs (w4.setCell ⟨W0.heap.size, 0, none⟩ (vs (textR r1))) 125 w.heap.size (w.heap.size + 1) (textA r1)) := h1.only ((OnlyAt.refl W0.heap.size w4).setCell 0 _) (by omega) (by omega)
        have HO4 : Hid (OnlyAt (w.heap.size + 1) W0 (w4.setCell ⟨W0.heap.size, 0, none⟩ (vs (textR r1)))) := (HOa.out.trans h2).setNew (Nat.le_refl _) _
        have h4' : W0.heap.size < (w4.setCell ⟨W0.heap.size, 0, none⟩ (vs (textR r1))).heap.size := by rw [World.size_setCell]; exact h4
        clear hb4 h1 h2 HBX HRa HOa HSZA
        rw [HD0.out] at HBX4 HR4 HO4 h4' ⊢
        go_wp2_with fail
        clear c0 f0 h4
        generalize w4.setCell ⟨W0.heap.size, 0, none⟩ (vs (iname r1)) = W4 at *
        refine (itext_any w.heap.size (w.heap.size + 1) (textA r1) (by omega) HOKa.out _ HR4.out).mono ?_
        rintro e w5 ⟨rfl, h1, h2⟩
        obtain ⟨cp, w6, hcv, hsrc, hb, hlt6⟩ := str_bytes2 (textR (textA r1)) w5
        have h5 := h2.size
        have hb6 : Blk w6 W0.heap.size 57 _ := (Blk.only HBX4.out h2 (by omega)).below hb (by omega)
        have c1 := hb6.cell 1; have f1 := hb6.frozen 1
        simp only [List.getElem?_cons_zero, List.getElem?_cons_succ] at c1
        have ho7 := (OnlyAt.refl W0.heap.size w6).setCell 1 (.slice (some ⟨w5.heap.size, 0, none⟩) (textR (textA r1)).length cp)
        have HBX7 : Hid (Blk (w6.setCell ⟨W0.heap.size, 1, none⟩ (.slice (some ⟨w5.heap.size, 0, none⟩) (textR (textA r1)).length cp)) W0.heap.size 57 [vs (iname r1), .slice (some ⟨w5.heap.size, 0, none⟩) (textR (textA r1)).length cp, ns, ns]) := hb6.set 1 _
        have HR7 : Hid (RdIs (w6.setCell ⟨W0.heap.size, 1, none⟩ (.slice (some ⟨w5.heap.size, 0, none⟩) (textR (textA r1)).length cp)) 125 w.heap.size (w.heap.size + 1) (textA (textA r1))) := (h1.below hb (by omega)).only ho7 (by omega) (by omega)
        have HO7 : Hid (OnlyAt (w.heap.size + 1) W0 (w6.setCell ⟨W0.heap.size, 1, none⟩ (.slice (some ⟨w5.heap.size, 0, none⟩) (textR (textA r1)).length cp))) := ((HO4.out.trans h2).trans (OnlyAt.of_below hb)).setNew (Nat.le_refl _) _
        have HS7 : Hid (SrcIs (w6.setCell ⟨W0.heap.size, 1, none⟩ (.slice (some ⟨w5.heap.size, 0, none⟩) (textR (textA r1)).length cp)) (some ⟨w5.heap.size, 0, none⟩) (textR (textA r1))) := hsrc.onlyN ho7 (n := W0.heap.size + 1) (fun a ha => by cases ha; simp only; omega) (by omega)
        have h7 : w5.heap.size < (w6.setCell ⟨W0.heap.size, 1, none⟩ (.slice (some ⟨w5.heap.size, 0, none⟩) (textR (textA r1)).length cp)).heap.size := by rw [World.size_setCell]; exact hlt6
        clear hb6 h1 h2 hsrc hb ho7 HBX4 HR4 HO4 hlt6
        rw [HD1.out] at hcv HBX7 HR7 HO7 HS7 h7 ⊢
        go_wp2_with fail
        clear c1 f1 hcv
        generalize w6.setCell ⟨W0.heap.size, 1, none⟩ (.slice (some ⟨w5.heap.size, 0, none⟩) (iarch r1).length cp) = W7 at *
        refine (itexts_any w.heap.size (w.heap.size + 1) 16 (textA (textA r1)) (by omega) HOKb.out _ HR7.out).mono ?_
        rintro e w8 ⟨v8, rfl, ho8, h1, h2⟩
        obtain ⟨R1, cr, rfl, hR, hRn⟩ := own_strs ho8
        have h8 := h2.size
        have hb8 : Blk w8 W0.heap.size 57 _ := Blk.only HBX7.out h2 (by omega)
        have c2 := hb8.cell 2; have f2 := hb8.frozen 2
        simp only [List.getElem?_cons_zero, List.getElem?_cons_succ] at c2
        have ho9 := (OnlyAt.refl W0.heap.size w8).setCell 2 (.slice R1 (textsR 16 (textA (textA r1))).length cr)
        have hRN : New (W0.heap.size + 1) R1 := fun a ha => by have := (hRn a ha).1; omega
        have HAN : Hid (New (W0.heap.size + 1) (some ⟨w5.heap.size, 0, none⟩)) := fun a ha => by cases ha; simp only; omega
        have HRL : Hid (∀ a, R1 = some a → W0.heap.size < a.block ∧ a.block < (w8.setCell ⟨W0.heap.size, 2, none⟩ (.slice R1 (textsR 16 (textA (textA r1))).length cr)).heap.size) := fun a ha => by
          rw [World.size_setCell]; have := hRn a ha; omega
        have HAL : Hid (∀ a, some (⟨w5.heap.size, 0, none⟩ : Addr) = some a → W0.heap.size < a.block ∧ a.block < (w8.setCell ⟨W0.heap.size, 2, none⟩ (.slice R1 (textsR 16 (textA (textA r1))).length cr)).heap.size) := fun a ha => by
          rw [World.size_setCell]; cases ha; simp only; omega
        have HBX9 : Hid (Blk (w8.setCell ⟨W0.heap.size, 2, none⟩ (.slice R1 (textsR 16 (textA (textA r1))).length cr)) W0.heap.size 57 [vs (iname r1), .slice (some ⟨w5.heap.size, 0, none⟩) (iarch r1).length cp, .slice R1 (textsR 16 (textA (textA r1))).length cr, ns]) := hb8.set 2 _
        have HR9 : Hid (RdIs (w8.setCell ⟨W0.heap.size, 2, none⟩ (.slice R1 (textsR 16 (textA (textA r1))).length cr)) 125 w.heap.size (w.heap.size + 1) (textsA 16 (textA (textA r1)))) := h1.only ho9 (by omega) (by omega)
        have HO9 : Hid (OnlyAt (w.heap.size + 1) W0 (w8.setCell ⟨W0.heap.size, 2, none⟩ (.slice R1 (textsR 16 (textA (textA r1))).length cr))) := (HO7.out.trans h2).setNew (Nat.le_refl _) _
        have HS9 : Hid (SrcIs (w8.setCell ⟨W0.heap.size, 2, none⟩ (.slice R1 (textsR 16 (textA (textA r1))).length cr)) (some ⟨w5.heap.size, 0, none⟩) (iarch r1)) := (HS7.out.onlyN h2 HAN.out (by omega)).onlyN ho9 HAN.out (by omega)
        have HRR9 : Hid (StrsIs (w8.setCell ⟨W0.heap.size, 2, none⟩ (.slice R1 (textsR 16 (textA (textA r1))).length cr)) R1 (textsR 16 (textA (textA r1)))) := hR.onlyN ho9 hRN (by omega)
        have h9 : W0.heap.size < (w8.setCell ⟨W0.heap.size, 2, none⟩ (.slice R1 (textsR 16 (textA (textA r1))).length cr)).heap.size := by rw [World.size_setCell]; omega
        have HRN := Lib.hid hRN
        clear hb8 h1 h2 hR hRn hRN ho8 ho9 HBX7 HR7 HO7 HS7
        rw [HD2.out] at HBX9 HR9 HO9 HS9 HRR9 HRL HAL h9 ⊢
        rw [HD3.out] at HR9
        go_wp2_with fail
        clear c2 f2
        generalize w8.setCell ⟨W0.heap.size, 2, none⟩ (.slice R1 (irefs r1).length cr) = W9 at *
        have HSOME : Hid (∀ ns' r', needsR k (itemA r1) = some (ns', r') → outsGo (n - (k + 1)) (k + 1) (acc ++ [⟨iname r1, iarch r1, irefs r1, ns'⟩]) r' = all) := fun ns' r' hq => by rw [← outsGo_some n k acc r1 hkn hq]; exact HGO.out
        have HNONE : Hid (needsR k (itemA r1) = none → all = none) := fun hq => by rw [← HGO.out]; exact outsGo_none n k acc r1 hkn hq
        clear HD0 HD1 HD2 HD3 HGO HOKa HOKb
        generalize iname r1 = nm at *
        generalize iarch r1 = ar at *
        generalize irefs r1 = rf at *
        generalize itemA r1 = r2 at *
        refine (iwide_any w.heap.size (w.heap.size + 1) 1 (by decide) r2 (by omega) HOKc.out _ HR9.out).mono ?_
        rintro e w10 ⟨rfl, h1, h2⟩
        have h10 := h2.size
        have HBX10 : Hid (Blk w10 W0.heap.size 57 _) := Blk.only HBX9.out h2 (by omega)
        have HO10 := Lib.hid (HO9.out.trans h2)
        have HR10 := Lib.hid h1
        have HS10 := Lib.hid (HS9.out.onlyN h2 HAN.out (by omega))
        have HRR10 := Lib.hid (HRR9.out.onlyN h2 HRN.out (by omega))
        have hm256 : numR 1 r2 < 256 := numR_lt 1 r2
        clear h1 h2 HBX9 HO9 HR9 HS9 HRR9
        by_cases hm : 4 ≤ numR 1 r2
        · have HE : Hid (all = none) := HNONE.out (by unfold needsR; rw [if_pos hm])
          have HO := HO10
          generalize numR 1 r2 = m at *
          have hm' : (4 : Int) ≤ m := by omega
          have HX : Hid (decV p = (zeroV, 2)) := by show _ = _; rw [HX0.out, HE.out]
          have HBLK6 : Hid (Blk w10 w.heap.size 40 [.int .u8 0, .string ⟨#[]⟩, .string ⟨#[]⟩, ns, ns, ns]) := Blk.only HZ.out HO.out (by omega)
          have HB6 : Hid (Below w.heap.size w w10) := HB.out.trans (HO.out.below (by omega) HB.out.size)
          clear HX0 HE
          go_wp2_with (refine wpList_store_blk rfl (.tmp 2) (.tmp 84) rfl rfl (cs' := [.int .u8 0, .string ⟨#[]⟩, .string ⟨#[]⟩, ns, ns, ns]) rfl HBLK6.out rfl info40 rfl ?_)
          intro w8 hrs
          have d0 := hrs.blk.cell 0; have d1 := hrs.blk.cell 1; have d2 := hrs.blk.cell 2; have d3 := hrs.blk.cell 3; have d4 := hrs.blk.cell 4; have d5 := hrs.blk.cell 5
          simp only [List.getElem?_cons_zero, List.getElem?_cons_succ] at d0 d1 d2 d3 d4 d5
          have HB8 : Hid (Below w.heap.size w w8) := hrs.below _ _ HB6.out (Nat.le_refl _)
          clear hrs
          go_wp2_with fail
          exact bodyPost_ret (v := .tuple #[.agg #[.int .u8 0, .string ⟨#[]⟩, .string ⟨#[]⟩, ns, ns, ns], .int .i64 2]) (by simp [results, Tryd.results55, go_sem, *]) rfl (dec_zero HX.out HB8.out)
        · have hNG : needsGo k (numR 1 r2) [] (after 1 r2) = needsR k r2 := by unfold needsR; rw [if_neg hm]
          have HNG := Lib.hid hNG
          clear hNG
          generalize needsR k r2 = nall at *
          generalize numR 1 r2 = m at *
          have hm' : ¬ (4 : Int) ≤ m := by omega
          have HXN : Hid (RnRel w10 w.heap.size (w.heap.size + 1) W0.heap.size m k (vs nm) (.slice (some ⟨w5.heap.size, 0, none⟩) ar.length cp) (.slice R1 rf.length cr) nall p.length 0 w10) := by
            refine ⟨⟨[], .slice none 0 0, after 1 r2, rfl, World.ownsRow_nil _ _ _ _, HBX10.out, HR10.out, HOKd.out, by omega, HNG.out⟩, But2.refl _ _ _⟩
          clear HNG HR10 HBX10 HOKd
          go_wp2_with fail
          go_loopw [10] (fun vv wr => ∃ j : Nat, j ≤ m ∧ vv = .int .i64 j ∧ Hid (RnRel w10 w.heap.size (w.heap.size + 1) W0.heap.size m k (vs nm) (.slice (some ⟨w5.heap.size, 0, none⟩) ar.length cp) (.slice R1 rf.length cr) nall p.length j wr)) (fun vv _ => m - (intOf vv).toNat)
          case atStart => exact ⟨0, Nat.zero_le _, rfl, HXN.out⟩
          case round =>
            clear HXN
            obtain ⟨j, hj, rfl, HYY⟩ := hrel
            rename World => V0
            obtain ⟨ac2, u0, r3, hac2, hown2, hbx2, hr3, hok3, hlen3, hgo3⟩ := HYY.out.ex
            have HBUT := Lib.hid HYY.out.but
            have HAC2 := Lib.hid hac2; have HOWN2 := Lib.hid hown2; have HBX2 := Lib.hid hbx2; have HR3 := Lib.hid hr3; have HK3 := Lib.hid hok3; have HGO3 := Lib.hid hgo3
            have hV0 := HBUT.out.size
            clear HYY hac2 hown2 hbx2 hr3 hok3 hgo3
            by_cases hjm : j < m
            · have hal3 := after_len 1 r3
              have hb256 : numR 1 r3 < 256 := numR_lt 1 r3
              obtain ⟨O2, oc2, hu⟩ := own_form HOWN2.out
              subst hu
              go_wp2_with fail
              refine (iwide_any w.heap.size (w.heap.size + 1) 1 (by decide) r3 (by omega) HK3.out _ HR3.out).mono ?_
              rintro e v1 ⟨rfl, h1, h2⟩
              have hv1 := h2.size
              have HBUT1 := Lib.hid (HBUT.out.trans (But2.of1 (o := W0.heap.size) h2))
              have HBX1 : Hid (Blk v1 W0.heap.size 57 _) := Blk.only HBX2.out h2 (by omega)
              have HOWN1 : Hid (v1.ownsRow w10.heap.size 3 1 (.slice O2 j oc2) j (ac2.map vi)) := ownsRow_keepG HOWN2.out (fun c hc => h2.other c (HOWN2.out.lt c hc).2 (by have := (HOWN2.out.lt c hc).1; omega))
              have HR1 := Lib.hid h1
              have HK1' := Lib.hid (ok_after HK3.out 1)
              have HSTEP : Hid (numR 1 r3 < k → needsGo k (m - (j + 1)) (ac2 ++ [((numR 1 r3 : Nat) : Int)]) (after 1 r3) = nall) := fun hp => by rw [← needsGo_step k m j ac2 r3 hjm hp]; exact HGO3.out
              have HNN : Hid (k ≤ numR 1 r3 → nall = none) := fun hp => by rw [← HGO3.out]; exact needsGo_none k m j ac2 r3 hjm hp
              clear h1 h2 HBUT HBX2 HOWN2 HR3 HK3 HGO3
              generalize numR 1 r3 = b at *
              generalize after 1 r3 = r4 at *
              by_cases hp : k ≤ b
              · have HE : Hid (all = none) := HNONE.out (HNN.out hp)
                have HO : Hid (OnlyAt (w.heap.size + 1) W0 v1) := But2.only HO10.out HBUT1.out (Nat.le_refl _)
                have hp' : (k : Int) ≤ b := by omega
                clear HSTEP HNN
                have HX : Hid (decV p = (zeroV, 2)) := by show _ = _; rw [HX0.out, HE.out]
                have HBLK6 : Hid (Blk v1 w.heap.size 40 [.int .u8 0, .string ⟨#[]⟩, .string ⟨#[]⟩, ns, ns, ns]) := Blk.only HZ.out HO.out (by omega)
                have HB6 : Hid (Below w.heap.size w v1) := HB.out.trans (HO.out.below (by omega) HB.out.size)
                clear HX0 HE
                go_wp2_with (refine wpList_store_blk rfl (.tmp 2) (.tmp 96) rfl rfl (cs' := [.int .u8 0, .string ⟨#[]⟩, .string ⟨#[]⟩, ns, ns, ns]) rfl HBLK6.out rfl info40 rfl ?_)
                intro w8 hrs
                have d0 := hrs.blk.cell 0; have d1 := hrs.blk.cell 1; have d2 := hrs.blk.cell 2; have d3 := hrs.blk.cell 3; have d4 := hrs.blk.cell 4; have d5 := hrs.blk.cell 5
                simp only [List.getElem?_cons_zero, List.getElem?_cons_succ] at d0 d1 d2 d3 d4 d5
                have HB8 : Hid (Below w.heap.size w w8) := hrs.below _ _ HB6.out (Nat.le_refl _)
                clear hrs
                go_wp2_with fail
                exact bodyPost_ret (v := .tuple #[.agg #[.int .u8 0, .string ⟨#[]⟩, .string ⟨#[]⟩, ns, ns, ns], .int .i64 2]) (by simp [results, Tryd.results55, go_sem, *]) rfl (dec_zero HX.out HB8.out)
              · have hp' : ¬ (k : Int) ≤ b := by omega
                have hq := HSTEP.out (by omega)
                have HQ := Lib.hid hq
                clear hq HSTEP HNN
                have b3 := Blk.cell HBX1.out 3; have f3 := Blk.frozen HBX1.out 3
                simp only [List.getElem?_cons_zero, List.getElem?_cons_succ] at b3
                obtain ⟨i3, hi3, hz0, hz1, hz2⟩ := info_parts info3i
                have HI := Lib.hid hi3; have HZ0 := Lib.hid hz0; have HZ1 := Lib.hid hz1; have HZ2 := Lib.hid hz2
                clear hi3 hz0 hz1 hz2
                go_wp2_with (refine wpList_append_own _ rfl (.tmp 98) (.tmp 100) 55 rfl w10.heap.size 3 i3 (.int .i64 0) 1 8 Tryd.underlying55 HI.out HZ0.out HZ1.out HZ2.out rfl (by decide) (.slice O2 j oc2) j (ac2.map vi) rfl (HOWN1.out.alloc _) ⟨v1.heap.size, 0, none⟩ 1 1 [vi b] rfl rfl (new_cells v1 3 [vi b]) (by intro y hy; rw [List.mem_singleton.1 hy]; rfl) (by unfold maxLen; omega) (by omega) (by simp; omega) ?_)
                intro u1 v3 ho3 hg3 _
                have hrow : ∀ c, (Value.slice O2 j oc2).ownBlock = some c → w10.heap.size ≤ c := fun c hc => (HOWN1.out.lt c hc).1
                have hbt3 : But2 (w.heap.size + 1) W0.heap.size w10 v3 := (HBUT1.out.trans (But2.of_below ((Below.refl _ _).alloc (Nat.le_refl _) (.cells #[vi b] 3)))).grown hg3 hrow
                have hbl3 : Below w10.heap.size v1 v3 := ((Below.refl w10.heap.size v1).alloc (by omega) _).grown hg3 (by simp; omega) hrow
                have hbx3 : Blk v3 W0.heap.size 57 _ := Blk.below HBX1.out hbl3 (by omega)
                have hr3' : RdIs v3 125 w.heap.size (w.heap.size + 1) r4 := HR1.out.below hbl3 (by omega)
                obtain ⟨O3, oc3, hu3⟩ := own_form ho3
                subst hu3
                have b3' := Blk.cell hbx3 3; have f3' := Blk.frozen hbx3 3
                simp only [List.getElem?_cons_zero, List.getElem?_cons_succ] at b3'
                have ho4 := (OnlyAt.refl W0.heap.size v3).setCell 3 (.slice O3 (j + 1) oc3)
                have hcne : ∀ c, (Value.slice O3 (j + 1) oc3).ownBlock = some c → (v3.setCell ⟨W0.heap.size, 3, none⟩ (.slice O3 (j + 1) oc3)).heap[c]? = v3.heap[c]? := fun c hc => Below.heap_setCell v3 ⟨W0.heap.size, 3, none⟩ _ c (by have := (ho3.lt c hc).1; simp only; omega)
                have HX2 : Hid (RnRel w10 w.heap.size (w.heap.size + 1) W0.heap.size m k (vs nm) (.slice (some ⟨w5.heap.size, 0, none⟩) ar.length cp) (.slice R1 rf.length cr) nall p.length (j + 1) (v3.setCell ⟨W0.heap.size, 3, none⟩ (.slice O3 (j + 1) oc3))) := by
                  refine ⟨⟨ac2 ++ [(b : Int)], .slice O3 (j + 1) oc3, r4, by simp [HAC2.out], ?_, ?_, hr3'.only ho4 (by omega) (by omega), HK1'.out, by omega, HQ.out⟩, hbt3.trans (But2.of2 ho4)⟩
                  · have := ownsRow_keepG ho3 hcne
                    rw [List.map_append]; exact this
                  · have := hbx3.set 3 (.slice O3 (j + 1) oc3)
                    simpa using this
                clear ho3 hg3 hrow hbt3 hbl3 hbx3 hr3' ho4 hcne HBX1 HR1 HOWN1 HBUT1 HQ HK1' b3 f3
                go_wp2_with fail
                go_roundw
                case rel => exact ⟨j + 1, by omega, by go_num, HX2.out⟩
                case measure => simp [intOf]; omega
            · obtain rfl : j = m := by omega
              have HNE : Hid (nall = some (ac2, r3)) := by show _ = _; rw [← HGO3.out, Nat.sub_self]; rfl
              have HE := Lib.hid (HSOME.out ac2 r3 HNE.out)
              have ho8 : OnlyAt (w.heap.size + 1) W0 V0 := But2.only HO10.out HBUT.out (Nat.le_refl _)
              obtain ⟨M1, cm, hu, hM, hMr⟩ := own_ints HOWN2.out HAC2.out
              subst hu
              have hsA : SrcIs V0 (some ⟨w5.heap.size, 0, none⟩) ar := HS10.out.sameAt (fun a ha => by
                have := HAL.out a ha
                exact HBUT.out.other _ (by omega) (by omega) (by omega))
              have hsR : StrsIs V0 R1 rf := HRR10.out.sameAt (fun a ha => by
                have := HRL.out a ha
                exact HBUT.out.other _ (by omega) (by omega) (by omega))
              have hbq : Blk V0 w3.heap.size 40 _ := Blk.only HBOX.out ho8 (by omega)
              have hownO : V0.ownsRow (w3.heap.size + 1) 57 4 (.slice O1 k oc) k cells := ownsRow_keepG HOWN.out (fun c hc => ho8.other c (HOWN.out.lt c hc).2 (by have := (HOWN.out.lt c hc).1; omega))
              have q5 := hbq.cell 5
              have b0 := Blk.cell HBX2.out 0; have b1 := Blk.cell HBX2.out 1; have b2 := Blk.cell HBX2.out 2; have b3 := Blk.cell HBX2.out 3
              simp only [List.getElem?_cons_zero, List.getElem?_cons_succ] at q5 b0 b1 b2 b3
              have HSA := Lib.hid hsA; have HSR := Lib.hid hsR; have HBQ := Lib.hid hbq; have HOWNO := Lib.hid hownO; have HM := Lib.hid hM; have HMR := Lib.hid hMr; have HO8 := Lib.hid ho8
              have HZV : Hid (Blk V0 w.heap.size 40 [.int .u8 0, .string ⟨#[]⟩, .string ⟨#[]⟩, ns, ns, ns]) := Blk.only HZ.out ho8 (by omega)
              have HBV : Hid (Below w.heap.size w V0) := HB.out.trans (ho8.below (by omega) HB.out.size)
              have hV00 : W0.heap.size < V0.heap.size := by omega
              clear hsA hsR hbq hownO hM hMr ho8 HBUT HOWN2 HBX2 HS10 HRR10 HOWN HGO3 HNE HSOME HNONE HBOX HZ HB HO10 HR
              obtain ⟨i57, hi57, hz0, hz1, hz2⟩ := info_parts info57
              have HI := Lib.hid hi57; have HZ0 := Lib.hid hz0; have HZ1 := Lib.hid hz1; have HZ2 := Lib.hid hz2
              clear hi57 hz0 hz1 hz2
              go_wp2_with (refine wpList_append_own_at _ rfl (.tmp 104) (.tmp 106) 38 rfl (w3.heap.size + 1) 57 i57 (.agg #[.string ⟨#[]⟩, ns, ns, ns]) 4 88 Tryd.underlying38 HI.out HZ0.out HZ1.out HZ2.out rfl (by decide) (.slice O1 k oc) k cells rfl (HOWNO.out.alloc _) ⟨V0.heap.size, 0, none⟩ 1 1 [vs nm, .slice (some ⟨w5.heap.size, 0, none⟩) ar.length cp, .slice R1 rf.length cr, .slice M1 ac2.length cm] rfl rfl (new_cells V0 57 [vs nm, .slice (some ⟨w5.heap.size, 0, none⟩) ar.length cp, .slice R1 rf.length cr, .slice M1 ac2.length cm]) (by simp [Value.oneCell']) (by unfold maxLen; omega) (by omega) (by simp; omega) ?_)
              intro v' w' h2 hg _ h5
              obtain ⟨O4, oc4, hv4⟩ := own_form h2
              subst hv4
              have hrow : ∀ c, (Value.slice O1 k oc).ownBlock = some c → w3.heap.size + 1 ≤ c ∧ c < W0.heap.size := fun c hc => by
                have h1 := (HOWNO.out.lt c hc).1
                exact ⟨h1, HROW.out c hc⟩
              have hvs : (V0.alloc (.cells #[vs nm, .slice (some ⟨w5.heap.size, 0, none⟩) ar.length cp, .slice R1 rf.length cr, .slice M1 ac2.length cm] 57)).heap.size = V0.heap.size + 1 := by simp
              have hbelow : Below (w3.heap.size + 1) V0 w' := ((Below.refl (w3.heap.size + 1) V0).alloc (by omega) _).grown hg (by rw [hvs]; omega) (fun c hc => (hrow c hc).1)
              have hsz' : V0.heap.size ≤ w'.heap.size := hbelow.size
              have hbq' : Blk w' w3.heap.size 40 _ := Blk.below HBQ.out hbelow (by omega)
              have q5' := hbq'.cell 5; have g5' := hbq'.frozen 5
              simp only [List.getElem?_cons_zero, List.getElem?_cons_succ] at q5'
              have hr' : RdIs w' 125 w.heap.size (w.heap.size + 1) r3 := HR3.out.below hbelow (by omega)
              have hoq := (OnlyAt.refl w3.heap.size w').setCell 5 (.slice O4 (k + 1) oc4)
              have hfr : ∀ b, W0.heap.size < b → b < V0.heap.size → w3.heap.size < b ∧ b < (w'.setCell ⟨w3.heap.size, 5, none⟩ (.slice O4 (k + 1) oc4)).heap.size ∧ (Value.slice O4 (k + 1) oc4).ownBlock ≠ some b := fun b hb1 hb2 => by
                refine ⟨by omega, by rw [World.size_setCell]; omega, fun e => ?_⟩
                rcases h5 with h5 | h5
                · rw [h5] at e; have := (hrow b e).2; omega
                · rw [h5] at e; injection e with e; omega
              have hkeep : ∀ c, w3.heap.size < c → c < V0.heap.size → (Value.slice O1 k oc).ownBlock ≠ some c → (w'.setCell ⟨w3.heap.size, 5, none⟩ (.slice O4 (k + 1) oc4)).heap[c]? = V0.heap[c]? := fun c hc1 hc2 hne => by
                rw [Below.heap_setCell w' ⟨w3.heap.size, 5, none⟩ _ c (by simp only; omega), hg.block c (by rw [hvs]; omega) (fun e => hne e.symm), Below.heap_alloc V0 _ c hc2]
              have hsame : ∀ b, W0.heap.size < b → b < V0.heap.size → (w'.setCell ⟨w3.heap.size, 5, none⟩ (.slice O4 (k + 1) oc4)).heap[b]? = V0.heap[b]? := fun b hb1 hb2 => hkeep b (by omega) hb2 (fun e => by have := (hrow b e).2; omega)
              have hKEEP : Keep w3.heap.size (.slice O1 k oc) (.slice O4 (k + 1) oc4) W0 (w'.setCell ⟨w3.heap.size, 5, none⟩ (.slice O4 (k + 1) oc4)) := by
                refine ⟨by rw [World.size_setCell]; omega, fun c hc1 hc2 hne => ?_, fun c hc => ?_⟩
                · rw [hkeep c hc1 (by omega) hne]; exact HO8.out.other c hc2 (by omega)
                · rcases h5 with h5 | h5
                  · exact .inl (by rw [← h5]; exact hc)
                  · rw [h5] at hc; injection hc with hc; exact .inr (by omega)
              have hcne : ∀ c, (Value.slice O4 (k + 1) oc4).ownBlock = some c → (w'.setCell ⟨w3.heap.size, 5, none⟩ (.slice O4 (k + 1) oc4)).heap[c]? = w'.heap[c]? := fun c hc => Below.heap_setCell w' ⟨w3.heap.size, 5, none⟩ _ c (by have := (h2.lt c hc).1; simp only; omega)
              have HX9 : Hid (RtRel w (w.heap.size + 1) w3.heap.size n all p.length (k + 1) (w'.setCell ⟨w3.heap.size, 5, none⟩ (.slice O4 (k + 1) oc4))) := by
                refine ⟨⟨acc ++ [⟨nm, ar, rf, ac2⟩], cells ++ [vs nm, .slice (some ⟨w5.heap.size, 0, none⟩) ar.length cp, .slice R1 rf.length cr, .slice M1 ac2.length cm], .slice O4 (k + 1) oc4, r3, by simp [HACC.out], by rw [List.length_append, HCL.out]; simp; omega, ownsRow_keepG h2 hcne, ?_, ?_, hr'.only hoq (by omega) (by omega), HK3.out, by omega, HE.out⟩, ?_, ?_⟩
                · have := hbq'.set 5 (.slice O4 (k + 1) oc4)
                  simpa using this
                · intro i hi
                  by_cases hik : i < acc.length
                  · rw [List.getElem_append_left hik]
                    exact ((HDD.out i hik).keep hKEEP).app _
                  · have hik2 : i = acc.length := by simp at hi; omega
                    subst hik2
                    rw [List.getElem_append_right (Nat.le_refl _)]
                    simp only [Nat.sub_self, List.getElem_cons_zero]
                    have hcl2 : cells.length = acc.length * 4 := by rw [HCL.out, HACC.out]
                    refine ⟨some ⟨w5.heap.size, 0, none⟩, cp, R1, cr, M1, cm, ?_, ?_, ?_, ?_, ⟨HSA.out.sameAt (fun a ha => hsame _ (HAL.out a ha).1 (by have := (HAL.out a ha).2; omega)), HSR.out.sameAt (fun a ha => hsame _ (HRL.out a ha).1 (by have := (HRL.out a ha).2; omega)), HM.out.sameAt (fun a ha => hsame _ (by have := (HMR.out a ha).1; omega) (HMR.out a ha).2)⟩, fun a ha => hfr _ (HAL.out a ha).1 (by have := (HAL.out a ha).2; omega), fun a ha => hfr _ (HRL.out a ha).1 (by have := (HRL.out a ha).2; omega), fun a ha => hfr _ (by have := (HMR.out a ha).1; omega) (HMR.out a ha).2⟩
                    · rw [List.getElem?_append_right (by omega), hcl2, Nat.sub_self]; rfl
                    · rw [List.getElem?_append_right (by omega), hcl2, show acc.length * 4 + 1 - acc.length * 4 = 1 by omega]; rfl
                    · rw [List.getElem?_append_right (by omega), hcl2, show acc.length * 4 + 2 - acc.length * 4 = 2 by omega]; rfl
                    · rw [List.getElem?_append_right (by omega), hcl2, show acc.length * 4 + 3 - acc.length * 4 = 3 by omega]; rfl
                · exact (HZV.out.below hbelow (by omega)).other (by simp only; omega) _
                · exact (HBV.out.trans (hbelow.mono (by omega))).setCell (by simp only; omega) _
              clear h2 hg h5 hrow hvs hbelow hbq' hr' hoq hfr hkeep hsame hKEEP hcne HSA HSR HBQ HOWNO HM HMR HO8 HZV HBV HE HDD q5 b0 b1 b2 b3
              go_wp2_with fail
              go_roundw
              case rel => exact ⟨k + 1, by omega, by go_num, HX9.out⟩
              case measure => simp [intOf]; omega
      · obtain rfl : k = n := by omega
        have HE : Hid (all = some (acc, r1)) := by
          show _ = _
          rw [← HGO.out, Nat.sub_self]; rfl
        have HX : Hid (decV p = finR ⟨kindR p, [], [], [], [], acc⟩ r1) := by show _ = _; rw [HX0.out, HE.out]
        obtain ⟨O1, oc, hv, hO⟩ := outs_own HOWN.out HACC.out HDD.out
        subst hv
        have HQ6 : Hid (ReqN W0 (w.heap.size + 1) (.agg #[.int .u8 7, .string ⟨#[]⟩, .string ⟨#[]⟩, ns, ns, .slice O1 acc.length oc]) ⟨kindR p, [], [], [], [], acc⟩) := ⟨none, 0, none, 0, O1, oc, by rw [HKV.out]; rfl, SrcIs.nil _ _, New.none _, StrsIs.nil _ _, New.none _, hO.mono (by omega)⟩
        have HBOX6 := HBOX; have HBLK6 := HZ; have HB6 := HB; have HR6 := HR
        clear hO HBOX HZ HB HR HOWN HDD HGO HX0 HE
        rcases whole_end r1 with ⟨hw, -⟩ | ⟨hw, -⟩
        · have HE : Hid (wholeR r1 = true) := hw
          have HX2 : Hid (decV p = (⟨kindR p, [], [], [], [], acc⟩, 0)) := by show _ = _; rw [HX.out]; unfold finR; rw [if_pos hw]
          clear hw HX
          go_wp2_with fail
          with_reducible refine (whole_any w.heap.size (w.heap.size + 1) r1 _ HR6.out).mono ?_
          rintro e w7 ⟨rfl, rfl⟩
          rw [HE.out]
          have k0 := Blk.cell HBOX6.out 0; have k1 := Blk.cell HBOX6.out 1; have k2 := Blk.cell HBOX6.out 2; have k3 := Blk.cell HBOX6.out 3; have k4 := Blk.cell HBOX6.out 4; have k5 := Blk.cell HBOX6.out 5
          simp only [List.getElem?_cons_zero, List.getElem?_cons_succ] at k0 k1 k2 k3 k4 k5
          go_wp2_with (refine wpList_store_blk rfl (.tmp 2) (.tmp 113) rfl rfl (cs' := [.int .u8 7, .string ⟨#[]⟩, .string ⟨#[]⟩, ns, ns, .slice O1 acc.length oc]) rfl HBLK6.out rfl info40 rfl ?_)
          intro w8 hrs
          have d0 := hrs.blk.cell 0; have d1 := hrs.blk.cell 1; have d2 := hrs.blk.cell 2; have d3 := hrs.blk.cell 3; have d4 := hrs.blk.cell 4; have d5 := hrs.blk.cell 5
          simp only [List.getElem?_cons_zero, List.getElem?_cons_succ] at d0 d1 d2 d3 d4 d5
          have HB8 : Hid (Below w.heap.size w w8) := hrs.below _ _ HB6.out (Nat.le_refl _)
          have HQ8 : Hid (ReqN w8 (w.heap.size + 1) (.agg #[.int .u8 7, .string ⟨#[]⟩, .string ⟨#[]⟩, ns, ns, .slice O1 acc.length oc]) ⟨kindR p, [], [], [], [], acc⟩) := HQ6.out.only (RowSet.only hrs) (Nat.lt_succ_self _)
          clear hrs k0 k1 k2 k3 k4 k5
          go_wp2_with fail
          exact bodyPost_ret (v := .tuple #[.agg #[.int .u8 7, .string ⟨#[]⟩, .string ⟨#[]⟩, ns, ns, .slice O1 acc.length oc], .int .i64 0]) (by simp [results, Tryd.results55, go_sem, *]) rfl (dec_ok HX2.out HB8.out HQ8.out)
        · have HE : Hid (wholeR r1 = false) := hw
          have HX2 : Hid (decV p = (zeroV, 2)) := by show _ = _; rw [HX.out]; unfold finR; rw [if_neg (by rw [hw]; simp)]
          clear hw HX
          go_wp2_with fail
          with_reducible refine (whole_any w.heap.size (w.heap.size + 1) r1 _ HR6.out).mono ?_
          rintro e w7 ⟨rfl, rfl⟩
          rw [HE.out]
          go_wp2_with (refine wpList_store_blk rfl (.tmp 2) (.tmp 112) rfl rfl (cs' := [.int .u8 0, .string ⟨#[]⟩, .string ⟨#[]⟩, ns, ns, ns]) rfl HBLK6.out rfl info40 rfl ?_)
          intro w8 hrs
          have d0 := hrs.blk.cell 0; have d1 := hrs.blk.cell 1; have d2 := hrs.blk.cell 2; have d3 := hrs.blk.cell 3; have d4 := hrs.blk.cell 4; have d5 := hrs.blk.cell 5
          simp only [List.getElem?_cons_zero, List.getElem?_cons_succ] at d0 d1 d2 d3 d4 d5
          have HB8 : Hid (Below w.heap.size w w8) := hrs.below _ _ HB6.out (Nat.le_refl _)
          clear hrs
          go_wp2_with fail
          exact bodyPost_ret (v := .tuple #[.agg #[.int .u8 0, .string ⟨#[]⟩, .string ⟨#[]⟩, ns, ns, ns], .int .i64 2]) (by simp [results, Tryd.results55, go_sem, *]) rfl (dec_zero HX2.out HB8.out)
end Go.Proofs.YtggmogjgaoobjaaDoor
