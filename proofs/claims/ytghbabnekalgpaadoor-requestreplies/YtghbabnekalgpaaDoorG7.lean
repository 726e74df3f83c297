/- The contract of DecodeReply. -/
import Derived.Test.YtghbabnekalgpaaDoorG6
namespace Go.Proofs.YtghbabnekalgpaaDoor
open Go.RowKit BaseMath WireMath RealMath ReqMath

set_option maxHeartbeats 8000000 in
set_option maxRecDepth 100000 in
theorem decrep_any (A : Option Addr) (c : Nat) (p : List By) (hp : p.length ≤ 70000) (hN : A = none → c = 0) (w : World) (hA : SrcIs w A p) :
    Calls Tryd.prog 25 #[.slice A p.length c] w (DecRPost w (decRep p)) := by
  have HA := Lib.hid hA; have HN := Lib.hid hN
  clear hA hN
  have HDEC : Hid (decRep p = if 1 < numR 1 (after 1 ⟨p, false⟩) ∨ ofE (numR 8 (after 2 (after 1 (after 1 ⟨p, false⟩)))) ≠ 0 ∨ whole (textsA 255 (textA (after 8 (after 2 (after 1 (after 1 ⟨p, false⟩)))))) = false then (zeroRep, 2)
    else (⟨numR 1 ⟨p, false⟩, ((numR 1 (after 1 ⟨p, false⟩) : Nat) : Int) == 1, numR 2 (after 1 (after 1 ⟨p, false⟩)), ofV (numR 8 (after 2 (after 1 (after 1 ⟨p, false⟩)))), textR (after 8 (after 2 (after 1 (after 1 ⟨p, false⟩)))), textsR 255 (textA (after 8 (after 2 (after 1 (after 1 ⟨p, false⟩)))))⟩, 0)) := rfl
  have hok0 : Rd.ok ⟨p, false⟩ := fun h => by cases h
  have HK1 := Lib.hid (ok_after hok0 1); have HK2 := Lib.hid (ok_after HK1.out 1); have HK3 := Lib.hid (ok_after HK2.out 2); have HK4 := Lib.hid (ok_after HK3.out 8); have HK5 := Lib.hid (ok_textA HK4.out)
  have HK0 := Lib.hid hok0
  have l1 := after_len 1 ⟨p, false⟩; have l2 := after_len 1 (after 1 ⟨p, false⟩); have l3 := after_len 2 (after 1 (after 1 ⟨p, false⟩)); have l4 := after_len 8 (after 2 (after 1 (after 1 ⟨p, false⟩))); have l5 := textA_len (after 8 (after 2 (after 1 (after 1 ⟨p, false⟩))))
  simp only at l1
  have b1 : numR 1 ⟨p, false⟩ < 256 := numR_lt 1 _
  have b2 : numR 1 (after 1 ⟨p, false⟩) < 256 := numR_lt 1 _
  have b3 : numR 2 (after 1 (after 1 ⟨p, false⟩)) < 65536 := numR_lt 2 _
  have HB8 : Hid (numR 8 (after 2 (after 1 (after 1 ⟨p, false⟩))) < 18446744073709551616) := numR_u64 8 (by decide) _
  clear hok0
  have hb1 : Below w.heap.size w (w.alloc (.cells #[.int .i64 0, .bool false, .int .i64 0, .float .f64 0, ns, ns] 63)) := (Below.refl _ _).alloc (Nat.le_refl _) _
  have HZ : Hid (Blk (w.alloc (.cells #[.int .i64 0, .bool false, .int .i64 0, .float .f64 0, ns, ns] 63)) w.heap.size 63 ZR) := Blk.new w 63 _
  have hsz1 : (w.alloc (.cells #[.int .i64 0, .bool false, .int .i64 0, .float .f64 0, ns, ns] 63)).heap.size = w.heap.size + 1 := by simp
  have HSZ1 := Lib.hid hsz1
  have HB1 := Lib.hid hb1
  have HA1 := Lib.hid (HA.out.below hb1)
  clear hb1 hsz1
  go_enter Tryd.func25, Tryd.ntmps25
  go_wp2_with fail
  refine (reader_any A c p (by omega) HN.out _ HA1.out).mono ?_
  rintro e w2 ⟨g, rfl, hg, hr, hb⟩
  have hg' : w.heap.size < g := by have := HSZ1.out; omega
  have hb2 : Below w.heap.size w w2 := HB1.out.trans (hb.mono HB1.out.size)
  have hz2 := HZ.out.below hb HZ.out.lt
  have HR2 := Lib.hid hr; have HB2 := Lib.hid hb2; have HZ2 := Lib.hid hz2
  clear hr hb hg hb2 hz2 HZ HB1 HA1
  generalize hr1 : after 1 ⟨p, false⟩ = r1 at *
  go_wp2_with fail
  refine (byte_any g g ⟨p, false⟩ (by simp only; omega) w2 HR2.out).mono ?_
  rintro e w3 ⟨rfl, h1, h2⟩
  rw [hr1] at h1
  have hgw : g < w3.heap.size := h1.lt
  have hst : St w 141 g g w3.heap.size (w3.alloc (.cells #[.int .i64 (numR 1 ⟨p, false⟩ : Nat), .bool false, .int .i64 0, .float .f64 0, ns, ns] 63)) r1 [.int .i64 (numR 1 ⟨p, false⟩ : Nat), .bool false, .int .i64 0, .float .f64 0, ns, ns] := by
    have hb := (Below.refl w3.heap.size w3).alloc (Nat.le_refl _) (.cells #[.int .i64 (numR 1 ⟨p, false⟩ : Nat), .bool false, .int .i64 0, .float .f64 0, ns, ns] 63)
    have hB3 : Below w.heap.size w w3 := HB2.out.trans (h2.below (by omega) HB2.out.size)
    exact ⟨h1.below hb hgw, Blk.new w3 63 _, (Blk.only HZ2.out h2 (by omega)).below hb (Blk.lt (Blk.only HZ2.out h2 (by omega))), hB3.trans (hb.mono hB3.size), hgw, hg'⟩
  have HS0 := Lib.hid hst
  clear hr1 h1 h2 hst HR2 HB2 HZ2
  generalize numR 1 ⟨p, false⟩ = n0 at *
  go_wp2_with fail
  generalize w3.alloc (.cells #[.int .i64 (n0 : Nat), .bool false, .int .i64 0, .float .f64 0, ns, ns] 63) = V0 at *
  refine (byte_any g g r1 (by omega) _ HS0.out.rd).mono ?_
  rintro e V1 ⟨rfl, h1, h2⟩
  have HS1 := Lib.hid (HS0.out.read h1 h2)
  clear h1 h2 HS0
  generalize after 1 r1 = r2 at *
  generalize numR 1 r1 = n1 at *
  have c1 := HS1.out.box.cell 1; have f1 := HS1.out.box.frozen 1
  simp only [List.getElem?_cons_zero, List.getElem?_cons_succ] at c1
  have HS2 := Lib.hid (HS1.out.store 1 (.bool ((n1 : Int) == 1)))
  simp only [List.set_cons_zero, List.set_cons_succ] at HS2
  go_wp2_with fail
  clear c1 f1 HS1
  generalize V1.setCell ⟨w3.heap.size, 1, none⟩ (.bool ((n1 : Int) == 1)) = V2 at *
  refine (num_any g g r2 (by omega) _ HS2.out.rd).mono ?_
  rintro e V3 ⟨rfl, h1, h2⟩
  have HS3 := Lib.hid (HS2.out.read h1 h2)
  clear h1 h2 HS2
  generalize after 2 r2 = r3 at *
  generalize numR 2 r2 = n2 at *
  have c2 := HS3.out.box.cell 2; have f2 := HS3.out.box.frozen 2
  simp only [List.getElem?_cons_zero, List.getElem?_cons_succ] at c2
  have HS4 := Lib.hid (HS3.out.store 2 (.int .i64 (n2 : Nat)))
  simp only [List.set_cons_zero, List.set_cons_succ] at HS4
  go_wp2_with fail
  clear c2 f2 HS3
  generalize V3.setCell ⟨w3.heap.size, 2, none⟩ (.int .i64 (n2 : Nat)) = V4 at *
  refine (wide_any g g r3 (by omega) _ HS4.out.rd).mono ?_
  rintro e V5 ⟨rfl, h1, h2⟩
  have HS5 := Lib.hid (HS4.out.read h1 h2)
  clear h1 h2 HS4
  generalize after 8 r3 = r4 at *
  generalize numR 8 r3 = n3 at *
  go_wp2_with fail
  refine (of_any n3 HB8.out _).mono ?_
  rintro e V5' ⟨rfl, rfl⟩
  generalize hov : ofV n3 = ov at *
  generalize hoe : ofE n3 = oe at *
  have hoe2 : oe = 0 ∨ oe = 2 := by rw [← hoe]; exact ofE_cases n3
  clear hov hoe
  have c3 := HS5.out.box.cell 3; have f3 := HS5.out.box.frozen 3
  simp only [List.getElem?_cons_zero, List.getElem?_cons_succ] at c3
  have HS6 := Lib.hid (HS5.out.store 3 (.float .f64 ov))
  simp only [List.set_cons_zero, List.set_cons_succ] at HS6
  go_wp2_with fail
  clear c3 f3 HS5
  generalize V5.setCell ⟨w3.heap.size, 3, none⟩ (.float .f64 ov) = V6 at *
  refine (rtext_any g g r4 (by omega) _ HS6.out.rd).mono ?_
  rintro e V7 ⟨rfl, h1, h2⟩
  obtain ⟨cp, V8, hcv, hsrc, hb⟩ := str_bytes (textR r4) V7
  have hq7 : w3.heap.size < V7.heap.size := Nat.lt_of_lt_of_le HS6.out.box.lt h2.size
  have HS7 := Lib.hid ((HS6.out.read h1 h2).grow hb)
  have hSR := Lib.hid hsrc
  clear h1 h2 hsrc hb HS6
  generalize textA r4 = r5 at *
  generalize textR r4 = sm at *
  have c4 := HS7.out.box.cell 4; have f4 := HS7.out.box.frozen 4
  simp only [List.getElem?_cons_zero, List.getElem?_cons_succ] at c4
  have hnA : New (w3.heap.size + 1) (some ⟨V7.heap.size, 0, none⟩) := fun a ha => by cases ha; simp only; omega
  have HNA := Lib.hid hnA
  have HSA := Lib.hid (hSR.out.onlyN ((OnlyAt.refl w3.heap.size V8).setCell 4 (.slice (some ⟨V7.heap.size, 0, none⟩) sm.length cp)) hnA (by omega))
  have HS8 := Lib.hid (HS7.out.store 4 (.slice (some ⟨V7.heap.size, 0, none⟩) sm.length cp))
  simp only [List.set_cons_zero, List.set_cons_succ] at HS8
  clear hnA
  go_wp2_with fail
  clear c4 f4 hcv HS7 hSR
  generalize V8.setCell ⟨w3.heap.size, 4, none⟩ (.slice (some ⟨V7.heap.size, 0, none⟩) sm.length cp) = V9 at *
  refine (rtexts_any g g 255 r5 (by omega) HK5.out _ HS8.out.rd).mono ?_
  rintro e V10 ⟨v10, rfl, ho10, h1, h2⟩
  obtain ⟨R1, cr, rfl, hR, hRn⟩ := own_strs ho10
  have hq9 : w3.heap.size < V9.heap.size := HS8.out.box.lt
  have hgq : g < w3.heap.size := HS8.out.gq
  have HS10 := Lib.hid (HS8.out.read h1 h2)
  have HSA10 := Lib.hid (HSA.out.onlyN h2 HNA.out (by omega))
  have hRN : New (w3.heap.size + 1) R1 := fun a ha => by have := (hRn a ha).1; omega
  have HRN := Lib.hid hRN; have HRR := Lib.hid hR
  clear h1 h2 ho10 hR hRn hRN HS8 HSA
  generalize textsA 255 r5 = r6 at *
  generalize textsR 255 r5 = ps at *
  have c5 := HS10.out.box.cell 5; have f5 := HS10.out.box.frozen 5
  simp only [List.getElem?_cons_zero, List.getElem?_cons_succ] at c5
  have HS11 := Lib.hid (HS10.out.store 5 (.slice R1 ps.length cr))
  simp only [List.set_cons_zero, List.set_cons_succ] at HS11
  have hon := (OnlyAt.refl w3.heap.size V10).setCell 5 (.slice R1 ps.length cr)
  have HSA11 := Lib.hid (HSA10.out.onlyN hon HNA.out (by omega))
  have HRR11 := Lib.hid (HRR.out.onlyN hon HRN.out (by omega))
  have HC5 : Hid (V10.cell? ⟨w3.heap.size, 5, none⟩ = some ns) := c5
  have HF5 := Lib.hid f5
  clear c5 f5 hon HSA10 HRR HS10 HK0 HK1 HK2 HK3 HK4 HK5
  have c5 := HC5.out; have f5 := HF5.out
  by_cases hn1 : 1 < n1
  · have HX : Hid (decRep p = (zeroRep, 2)) := by show _ = _; rw [HDEC.out, if_pos (.inl hn1)]
    have g1 : (1 : Int) < n1 := by omega
    clear hn1
    go_wp2_with (refine wpList_store_blk rfl (.tmp 2) (.tmp 49) rfl rfl (cs' := [.int .i64 0, .bool false, .int .i64 0, .float .f64 0, ns, ns]) rfl HS11.out.zero rfl info63 rfl ?_)
    intro w8 hrs
    have d0 := hrs.blk.cell 0; have d1 := hrs.blk.cell 1; have d2 := hrs.blk.cell 2; have d3 := hrs.blk.cell 3; have d4 := hrs.blk.cell 4; have d5 := hrs.blk.cell 5
    simp only [List.getElem?_cons_zero, List.getElem?_cons_succ] at d0 d1 d2 d3 d4 d5
    have HB9 : Hid (Below w.heap.size w w8) := hrs.below _ _ HS11.out.below (Nat.le_refl _)
    clear hrs
    go_wp2_with fail
    exact bodyPost_ret (v := .tuple #[.agg #[.int .i64 0, .bool false, .int .i64 0, .float .f64 0, ns, ns], .int .i64 2]) (by simp [results, Tryd.results25, go_sem, *]) rfl (decr_zero HX.out HB9.out)
  · have g1 : ¬ (1 : Int) < n1 := by omega
    rcases hoe2 with rfl | rfl
    · rcases whole_end r6 with ⟨hw, he⟩ | ⟨hw, he⟩
      · have HE : Hid (endR r6 = 0) := he
        have HX : Hid (decRep p = (⟨n0, (n1 : Int) == 1, n2, ov, sm, ps⟩, 0)) := by
          show _ = _; rw [HDEC.out, if_neg]
          rintro (h | h | h)
          · exact hn1 h
          · exact h rfl
          · rw [hw] at h; cases h
        clear hn1 hw he
        go_wp2_with fail
        clear c5 f5
        with_reducible refine (end_any g g r6 _ HS11.out.rd).mono ?_
        rintro e w7 ⟨rfl, rfl⟩
        rw [HE.out]
        have k0 := Blk.cell HS11.out.box 0; have k1 := Blk.cell HS11.out.box 1; have k2 := Blk.cell HS11.out.box 2; have k3 := Blk.cell HS11.out.box 3; have k4 := Blk.cell HS11.out.box 4; have k5 := Blk.cell HS11.out.box 5
        simp only [List.getElem?_cons_zero, List.getElem?_cons_succ] at k0 k1 k2 k3 k4 k5
        go_wp2_with (refine wpList_store_blk rfl (.tmp 2) (.tmp 50) rfl rfl (cs' := [.int .i64 (n0 : Nat), .bool ((n1 : Int) == 1), .int .i64 (n2 : Nat), .float .f64 ov, .slice (some ⟨V7.heap.size, 0, none⟩) sm.length cp, .slice R1 ps.length cr]) rfl HS11.out.zero rfl info63 rfl ?_)
        intro w8 hrs
        have d0 := hrs.blk.cell 0; have d1 := hrs.blk.cell 1; have d2 := hrs.blk.cell 2; have d3 := hrs.blk.cell 3; have d4 := hrs.blk.cell 4; have d5 := hrs.blk.cell 5
        simp only [List.getElem?_cons_zero, List.getElem?_cons_succ] at d0 d1 d2 d3 d4 d5
        have HB9 : Hid (Below w.heap.size w w8) := hrs.below _ _ HS11.out.below (Nat.le_refl _)
        have hdq : w.heap.size < w3.heap.size + 1 := by omega
        have HA8 := Lib.hid (HSA11.out.onlyN (RowSet.only hrs) HNA.out hdq)
        have HR8 := Lib.hid (HRR11.out.onlyN (RowSet.only hrs) HRN.out hdq)
        clear hrs k0 k1 k2 k3 k4 k5
        go_wp2_with fail
        exact bodyPost_ret (v := .tuple #[.agg #[.int .i64 (n0 : Nat), .bool ((n1 : Int) == 1), .int .i64 (n2 : Nat), .float .f64 ov, .slice (some ⟨V7.heap.size, 0, none⟩) sm.length cp, .slice R1 ps.length cr], .int .i64 0]) (by simp [results, Tryd.results25, go_sem, *]) rfl (decr_ok HX.out HB9.out HA8.out HR8.out)
      · have HE : Hid (endR r6 = 2) := he
        have HX : Hid (decRep p = (zeroRep, 2)) := by show _ = _; rw [HDEC.out, if_pos (.inr (.inr hw))]
        clear hn1 hw he
        go_wp2_with fail
        clear c5 f5
        with_reducible refine (end_any g g r6 _ HS11.out.rd).mono ?_
        rintro e w7 ⟨rfl, rfl⟩
        rw [HE.out]
        go_wp2_with (refine wpList_store_blk rfl (.tmp 2) (.tmp 49) rfl rfl (cs' := [.int .i64 0, .bool false, .int .i64 0, .float .f64 0, ns, ns]) rfl HS11.out.zero rfl info63 rfl ?_)
        intro w8 hrs
        have d0 := hrs.blk.cell 0; have d1 := hrs.blk.cell 1; have d2 := hrs.blk.cell 2; have d3 := hrs.blk.cell 3; have d4 := hrs.blk.cell 4; have d5 := hrs.blk.cell 5
        simp only [List.getElem?_cons_zero, List.getElem?_cons_succ] at d0 d1 d2 d3 d4 d5
        have HB9 : Hid (Below w.heap.size w w8) := hrs.below _ _ HS11.out.below (Nat.le_refl _)
        clear hrs
        go_wp2_with fail
        exact bodyPost_ret (v := .tuple #[.agg #[.int .i64 0, .bool false, .int .i64 0, .float .f64 0, ns, ns], .int .i64 2]) (by simp [results, Tryd.results25, go_sem, *]) rfl (decr_zero HX.out HB9.out)
    · have HX : Hid (decRep p = (zeroRep, 2)) := by show _ = _; rw [HDEC.out, if_pos (.inr (.inl (by decide)))]
      clear hn1
      go_wp2_with (refine wpList_store_blk rfl (.tmp 2) (.tmp 49) rfl rfl (cs' := [.int .i64 0, .bool false, .int .i64 0, .float .f64 0, ns, ns]) rfl HS11.out.zero rfl info63 rfl ?_)
      intro w8 hrs
      have d0 := hrs.blk.cell 0; have d1 := hrs.blk.cell 1; have d2 := hrs.blk.cell 2; have d3 := hrs.blk.cell 3; have d4 := hrs.blk.cell 4; have d5 := hrs.blk.cell 5
      simp only [List.getElem?_cons_zero, List.getElem?_cons_succ] at d0 d1 d2 d3 d4 d5
      have HB9 : Hid (Below w.heap.size w w8) := hrs.below _ _ HS11.out.below (Nat.le_refl _)
      clear hrs
      go_wp2_with fail
      exact bodyPost_ret (v := .tuple #[.agg #[.int .i64 0, .bool false, .int .i64 0, .float .f64 0, ns, ns], .int .i64 2]) (by simp [results, Tryd.results25, go_sem, *]) rfl (decr_zero HX.out HB9.out)
end Go.Proofs.YtghbabnekalgpaaDoor
