/- The contract of Decode, one of its ways. -/
import Derived.Test.YtghbabnekalgpaaDoorQ7
namespace Go.Proofs.YtghbabnekalgpaaDoor
open Go.RowKit BaseMath WireMath ReqMath

set_option maxHeartbeats 4000000 in
set_option maxRecDepth 100000 in
theorem decode_4 (A : Option Addr) (c : Nat) (p : List By) (hp : p.length ≤ 70000) (hN : A = none → c = 0) (hlen : ¬ 2048 < p.length) (hkk : hasK (kindR p).toNat = 4) (w : World) (ht : KTab w) (hA : SrcIs w A p) :
    Calls Tryd.prog 18 #[.slice A p.length c] w (DecPost w (decV p)) := by
  have HT := Lib.hid ht; have HA := Lib.hid hA; have HN := Lib.hid hN
  have hts := ht.size
  clear ht hA hN
  have hl' : ¬ (2048 : Int) < p.length := by omega
  have hb1 : Below w.heap.size w (w.alloc (.cells #[.int .u8 0, .string ⟨#[]⟩, .string ⟨#[]⟩, ns, ns, ns] 40)) := (Below.refl _ _).alloc (Nat.le_refl _) _
  have HBLK := Lib.hid (Blk.new w 40 #[.int .u8 0, .string ⟨#[]⟩, .string ⟨#[]⟩, ns, ns, ns])
  have HB1 := Lib.hid hb1
  have HA1 := Lib.hid (HA.out.below hb1)
  have hsz1 : (w.alloc (.cells #[.int .u8 0, .string ⟨#[]⟩, .string ⟨#[]⟩, ns, ns, ns] 40)).heap.size = w.heap.size + 1 := by simp
  have HSZ1 := Lib.hid hsz1
  have HD : Hid (decV p = decK (kindR p) (after 1 ⟨p, false⟩)) := by show _ = _; unfold decV; rw [if_neg hlen]
  have HKV := Lib.hid (kind_vb p)
  clear hb1 hsz1
  go_enter Tryd.func18, Tryd.ntmps18
  go_wp2_with fail
  refine (reader_any A c p (by omega) HN.out _ HA1.out).mono ?_
  rintro e w2 ⟨g, rfl, hg, hr, hb⟩
  have hg' : w.heap.size + 1 ≤ g := by rw [← HSZ1.out]; exact hg
  have HB2 : Hid (Below w.heap.size w w2) := HB1.out.trans (hb.mono HB1.out.size)
  have HBLK2 := Lib.hid (HBLK.out.below hb HBLK.out.lt)
  have HR2 := Lib.hid hr
  clear hr hb hg HBLK HB1 HA1
  go_wp2_with fail
  refine (byte_any g g ⟨p, false⟩ (by simp only; omega) w2 HR2.out).mono ?_
  rintro e w3 ⟨rfl, h1, h2⟩
  have HB3 : Hid (Below w.heap.size w w3) := HB2.out.trans (h2.below (by omega) HB2.out.size)
  have HBLK3 := Lib.hid (Blk.only HBLK2.out h2 (by omega : w.heap.size ≠ g))
  have HR3 := Lib.hid h1
  have hal := after_len 1 ⟨p, false⟩
  have HOK : Hid (after 1 ⟨p, false⟩).ok := ok_after (fun h => by cases h) 1
  simp only at hal
  have hgw3 := h1.lt
  clear h1 h2 HR2 HBLK2 HB2
  rw [← HKV.out]
  generalize after 1 ⟨p, false⟩ = r at *
  generalize kindR p = k at *
  have hb4 : Below w3.heap.size w3 (w3.alloc (.cells #[vb k, .string ⟨#[]⟩, .string ⟨#[]⟩, ns, ns, ns] 40)) := (Below.refl _ _).alloc (Nat.le_refl _) _
  have HB4 : Hid (Below w.heap.size w (w3.alloc (.cells #[vb k, .string ⟨#[]⟩, .string ⟨#[]⟩, ns, ns, ns] 40))) := HB3.out.trans (hb4.mono HB3.out.size)
  have HBLK4 := Lib.hid (HBLK3.out.below hb4 HBLK3.out.lt)
  have HR4 := Lib.hid (HR3.out.below hb4 hgw3)
  have HBOX4 := Lib.hid (Blk.new w3 40 #[vb k, .string ⟨#[]⟩, .string ⟨#[]⟩, ns, ns, ns])
  have k0 := HBOX4.out.cell 0
  simp only [List.getElem?_cons_zero] at k0
  clear hb4 HBLK3 HR3 HB3
  go_wp2_with fail
  refine (lookup_any k _ (HT.out.below HB4.out hts)).mono ?_
  rintro e w5 ⟨rfl, hb⟩
  have HB5 : Hid (Below w.heap.size w w5) := HB4.out.trans (hb.mono HB4.out.size)
  have HBLK5 := Lib.hid (HBLK4.out.below hb HBLK4.out.lt)
  have HBOX5 := Lib.hid (HBOX4.out.below hb HBOX4.out.lt)
  have HR5 := Lib.hid (HR4.out.below hb (by simp; omega))
  have HK5 : Hid (decV p = if hasK k.toNat = 0 then (zeroV, 2) else if hasK k.toNat = 1 then finR ⟨k, [], [], [], [], []⟩ r else if hasK k.toNat = 2 then finR ⟨k, [], textR r, [], [], []⟩ (textA r) else if hasK k.toNat = 3 then finR ⟨k, iname r, [], iarch r, irefs r, []⟩ (itemA r)
    else match outsR r with
      | none => (zeroV, 2)
      | some (os, r') => finR ⟨k, [], [], [], [], os⟩ r') := HD.out
  have hw5 : w3.heap.size < w5.heap.size := HBOX5.out.lt
  have hd3 : w.heap.size < w3.heap.size := by have := HR5.out.le; omega
  clear hb HBLK4 HBOX4 HR4 HB4 HD k0
  rw [hkk] at HK5 ⊢
  clear hkk
  generalize nameK k.toNat = nn at *
  have HX0 : Hid (decV p = match outsR r with | none => (zeroV, 2) | some (os, r') => finR ⟨k, [], [], [], [], os⟩ r') := HK5.out
  clear HK5
  go_wp2_with fail
  refine (readouts_any g g r (by omega) HOK.out w5 HR5.out).mono ?_
  rintro e w6 ⟨h2, hcase⟩
  have hb6 : Blk w6 w3.heap.size 40 _ := Blk.only HBOX5.out h2 (by omega)
  have b5 := hb6.cell 5; have f5 := hb6.frozen 5
  simp only [List.getElem?_cons_zero, List.getElem?_cons_succ] at b5
  have hb6d : Blk w6 w.heap.size 40 _ := Blk.only HBLK5.out h2 (by omega)
  have hB6 : Below w.heap.size w w6 := HB5.out.trans (h2.below (by omega) HB5.out.size)
  rcases hcase with ⟨hnone, rfl⟩ | ⟨os, r6, O1, c1, hsome, rfl, hO, h1, hok6, hl6⟩
  · have HX : Hid (decV p = (zeroV, 2)) := by show _ = _; rw [HX0.out, hnone]
    have HBLK6 := Lib.hid (hb6d.other (p := ⟨w3.heap.size, 5, none⟩) (by simp only; omega) (.slice none 0 0))
    have HB6 : Hid (Below w.heap.size w (w6.setCell ⟨w3.heap.size, 5, none⟩ (.slice none 0 0))) := hB6.setCell (by simp only; omega) _
    clear hnone HX0 hb6 hb6d hB6 h2 HR5 HB5 HBLK5 HBOX5
    go_wp2_with (refine wpList_store_blk rfl (.tmp 2) (.tmp 53) rfl rfl (cs' := [.int .u8 0, .string ⟨#[]⟩, .string ⟨#[]⟩, ns, ns, ns]) rfl HBLK6.out rfl info40 rfl ?_)
    intro w8 hrs
    have d0 := hrs.blk.cell 0; have d1 := hrs.blk.cell 1; have d2 := hrs.blk.cell 2; have d3 := hrs.blk.cell 3; have d4 := hrs.blk.cell 4; have d5 := hrs.blk.cell 5
    simp only [List.getElem?_cons_zero, List.getElem?_cons_succ] at d0 d1 d2 d3 d4 d5
    have HB8 : Hid (Below w.heap.size w w8) := hrs.below _ _ HB6.out (Nat.le_refl _)
    clear hrs
    go_wp2_with fail
    exact bodyPost_ret (v := .tuple #[.agg #[.int .u8 0, .string ⟨#[]⟩, .string ⟨#[]⟩, ns, ns, ns], .int .i64 2]) (by simp [results, Tryd.results18, go_sem, *]) rfl (dec_zero HX.out HB8.out)
  · have HX : Hid (decV p = finR ⟨k, [], [], [], [], os⟩ r6) := by show _ = _; rw [HX0.out, hsome]
    have ho6 := (OnlyAt.refl w3.heap.size w6).setCell 5 (.slice O1 os.length c1)
    have HBOX6 := Lib.hid (hb6.set 5 (.slice O1 os.length c1))
    simp only [List.set_cons_zero, List.set_cons_succ] at HBOX6
    have HBLK6 := Lib.hid (hb6d.other (p := ⟨w3.heap.size, 5, none⟩) (by simp only; omega) (.slice O1 os.length c1))
    have HB6 : Hid (Below w.heap.size w (w6.setCell ⟨w3.heap.size, 5, none⟩ (.slice O1 os.length c1))) := hB6.setCell (by simp only; omega) _
    have HR6 : Hid (RdIs (w6.setCell ⟨w3.heap.size, 5, none⟩ (.slice O1 os.length c1)) 141 g g r6) := h1.only ho6 (by omega) (by omega)
    have HQ6 : Hid (ReqN (w6.setCell ⟨w3.heap.size, 5, none⟩ (.slice O1 os.length c1)) (w.heap.size + 1) (.agg #[vb k, .string ⟨#[]⟩, .string ⟨#[]⟩, ns, ns, .slice O1 os.length c1]) ⟨k, [], [], [], [], os⟩) := ⟨none, 0, none, 0, O1, c1, rfl, SrcIs.nil _ _, New.none _, StrsIs.nil _ _, New.none _, (hO.only ho6 (by omega)).mono (by omega)⟩
    clear hsome HX0 hb6 hb6d hB6 h2 h1 hO hok6 ho6 HR5 HB5 HBLK5 HBOX5
    rcases whole_end r6 with ⟨hw, he⟩ | ⟨hw, he⟩
    · have HE := Lib.hid he
      have HX2 : Hid (decV p = (⟨k, [], [], [], [], os⟩, 0)) := by show _ = _; rw [HX.out]; unfold finR; rw [if_pos hw]
      clear hw he HX
      go_wp2_with fail
      refine (end_any g g r6 _ HR6.out).mono ?_
      rintro e w7 ⟨rfl, rfl⟩
      rw [HE.out]
      have k0 := Blk.cell HBOX6.out 0; have k1 := Blk.cell HBOX6.out 1; have k2 := Blk.cell HBOX6.out 2; have k3 := Blk.cell HBOX6.out 3; have k4 := Blk.cell HBOX6.out 4; have k5 := Blk.cell HBOX6.out 5
      simp only [List.getElem?_cons_zero, List.getElem?_cons_succ] at k0 k1 k2 k3 k4 k5
      go_wp2_with (refine wpList_store_blk rfl (.tmp 2) (.tmp 54) rfl rfl (cs' := [vb k, .string ⟨#[]⟩, .string ⟨#[]⟩, ns, ns, .slice O1 os.length c1]) rfl HBLK6.out rfl info40 rfl ?_)
      intro w8 hrs
      have d0 := hrs.blk.cell 0; have d1 := hrs.blk.cell 1; have d2 := hrs.blk.cell 2; have d3 := hrs.blk.cell 3; have d4 := hrs.blk.cell 4; have d5 := hrs.blk.cell 5
      simp only [List.getElem?_cons_zero, List.getElem?_cons_succ] at d0 d1 d2 d3 d4 d5
      have HB8 : Hid (Below w.heap.size w w8) := hrs.below _ _ HB6.out (Nat.le_refl _)
      have HQ8 : Hid (ReqN w8 (w.heap.size + 1) (.agg #[vb k, .string ⟨#[]⟩, .string ⟨#[]⟩, ns, ns, .slice O1 os.length c1]) ⟨k, [], [], [], [], os⟩) := HQ6.out.only (RowSet.only hrs) (Nat.lt_succ_self _)
      clear hrs k0 k1 k2 k3 k4 k5
      go_wp2_with fail
      exact bodyPost_ret (v := .tuple #[.agg #[vb k, .string ⟨#[]⟩, .string ⟨#[]⟩, ns, ns, .slice O1 os.length c1], .int .i64 0]) (by simp [results, Tryd.results18, go_sem, *]) rfl (dec_ok HX2.out HB8.out HQ8.out)
    · have HE := Lib.hid he
      have HX2 : Hid (decV p = (zeroV, 2)) := by show _ = _; rw [HX.out]; unfold finR; rw [if_neg (by rw [hw]; simp)]
      clear hw he HX
      go_wp2_with fail
      refine (end_any g g r6 _ HR6.out).mono ?_
      rintro e w7 ⟨rfl, rfl⟩
      rw [HE.out]
      go_wp2_with (refine wpList_store_blk rfl (.tmp 2) (.tmp 53) rfl rfl (cs' := [.int .u8 0, .string ⟨#[]⟩, .string ⟨#[]⟩, ns, ns, ns]) rfl HBLK6.out rfl info40 rfl ?_)
      intro w8 hrs
      have d0 := hrs.blk.cell 0; have d1 := hrs.blk.cell 1; have d2 := hrs.blk.cell 2; have d3 := hrs.blk.cell 3; have d4 := hrs.blk.cell 4; have d5 := hrs.blk.cell 5
      simp only [List.getElem?_cons_zero, List.getElem?_cons_succ] at d0 d1 d2 d3 d4 d5
      have HB8 : Hid (Below w.heap.size w w8) := hrs.below _ _ HB6.out (Nat.le_refl _)
      clear hrs
      go_wp2_with fail
      exact bodyPost_ret (v := .tuple #[.agg #[.int .u8 0, .string ⟨#[]⟩, .string ⟨#[]⟩, ns, ns, ns], .int .i64 2]) (by simp [results, Tryd.results18, go_sem, *]) rfl (dec_zero HX2.out HB8.out)
end Go.Proofs.YtghbabnekalgpaaDoor
