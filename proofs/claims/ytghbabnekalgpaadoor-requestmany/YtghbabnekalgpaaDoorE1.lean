/- The contract of the reference's Decode: a bare kind. -/
import Derived.Test.YtghbabnekalgpaaDoorQ9
namespace Go.Proofs.YtghbabnekalgpaaDoor
open Go.RowKit BaseMath WireMath ReqMath

set_option maxHeartbeats 4000000 in
set_option maxRecDepth 100000 in
theorem rdecode_1 (A : Option Addr) (c : Nat) (p : List By) (hp : p.length ≤ 70000) (hN : A = none → c = 0) (hc : p.length ≤ c) (hlen : ¬ 2048 < p.length) (hkk : numR 1 ⟨p, false⟩ = 11 ∨ numR 1 ⟨p, false⟩ = 12) (w : World) (hA : SrcIs w A p) :
    Calls Tryd.prog 55 #[.slice A p.length c] w (DecPost w (decV p)) := by
  have HA := Lib.hid hA; have HN := Lib.hid hN
  clear hA hN
  have hl' : ¬ (2048 : Int) < p.length := by omega
  have HD : Hid (decV p = decK (kindR p) (after 1 ⟨p, false⟩)) := by show _ = _; unfold decV; rw [if_neg hlen]
  have HKV := Lib.hid (kind_vb p)
  have HKN : Hid ((kindR p).toNat = numR 1 ⟨p, false⟩) := by
    show _ = _
    have h : numR 1 ⟨p, false⟩ < 256 := numR_lt 1 _
    unfold kindR; rw [UInt8.toNat_ofNat_of_lt' h]
  have hb1 : Below w.heap.size w (w.alloc (.cells #[.int .u8 0, .string ⟨#[]⟩, .string ⟨#[]⟩, ns, ns, ns] 40)) := (Below.refl _ _).alloc (Nat.le_refl _) _
  have hb2 : Below w.heap.size w ((w.alloc (.cells #[.int .u8 0, .string ⟨#[]⟩, .string ⟨#[]⟩, ns, ns, ns] 40)).alloc (.cells #[.slice A p.length c, .bool false] 125)) := hb1.alloc hb1.size _
  have HBLK2 : Hid (Blk ((w.alloc (.cells #[.int .u8 0, .string ⟨#[]⟩, .string ⟨#[]⟩, ns, ns, ns] 40)).alloc (.cells #[.slice A p.length c, .bool false] 125)) w.heap.size 40 [.int .u8 0, .string ⟨#[]⟩, .string ⟨#[]⟩, ns, ns, ns]) := (Blk.new w 40 #[.int .u8 0, .string ⟨#[]⟩, .string ⟨#[]⟩, ns, ns, ns]).alloc _
  have HR2 : Hid (RdIs ((w.alloc (.cells #[.int .u8 0, .string ⟨#[]⟩, .string ⟨#[]⟩, ns, ns, ns] 40)).alloc (.cells #[.slice A p.length c, .bool false] 125)) 125 w.heap.size (w.heap.size + 1) ⟨p, false⟩) := by
    refine ⟨⟨A, c, ?_, HN.out, hc, HA.out.below hb2, fun h0 a ha => ?_⟩, by omega⟩
    · have := Blk.new (w.alloc (.cells #[.int .u8 0, .string ⟨#[]⟩, .string ⟨#[]⟩, ns, ns, ns] 40)) 125 #[.slice A p.length c, .bool false]
      rw [show (w.alloc (.cells #[.int .u8 0, .string ⟨#[]⟩, .string ⟨#[]⟩, ns, ns, ns] 40)).heap.size = w.heap.size + 1 by simp] at this
      exact this
    · obtain ⟨b, o, rfl, hb⟩ := HA.out h0
      cases ha
      exact hb.lt h0
  have HB2 := Lib.hid hb2
  clear hb1 hb2
  have hk256 : numR 1 ⟨p, false⟩ < 256 := numR_lt 1 _
  go_enter Tryd.func55, Tryd.ntmps55
  go_wp2_with fail
  refine (iwide_any w.heap.size (w.heap.size + 1) 1 (by decide) ⟨p, false⟩ (by simp only; omega) (fun h => by cases h) _ HR2.out).mono ?_
  rintro e w3 ⟨rfl, h1, h2⟩
  have HB3 : Hid (Below w.heap.size w w3) := HB2.out.trans (h2.below (by omega) HB2.out.size)
  have HBLK3 := Lib.hid (Blk.only HBLK2.out h2 (by omega : w.heap.size ≠ w.heap.size + 1))
  have HR3 := Lib.hid h1
  have hal := after_len 1 ⟨p, false⟩
  have HOK : Hid (after 1 ⟨p, false⟩).ok := ok_after (fun h => by cases h) 1
  simp only at hal
  have hgw3 : w.heap.size + 1 < w3.heap.size := h1.lt
  clear h1 h2 HR2 HBLK2 HB2
  generalize after 1 ⟨p, false⟩ = r at *
  generalize numR 1 ⟨p, false⟩ = k at *
  have hb4 : Below w3.heap.size w3 (w3.alloc (.cells #[.int .u8 (k : Int), .string ⟨#[]⟩, .string ⟨#[]⟩, ns, ns, ns] 40)) := (Below.refl _ _).alloc (Nat.le_refl _) _
  have HB5 : Hid (Below w.heap.size w (w3.alloc (.cells #[.int .u8 (k : Int), .string ⟨#[]⟩, .string ⟨#[]⟩, ns, ns, ns] 40))) := HB3.out.trans (hb4.mono HB3.out.size)
  have HBLK5 := Lib.hid (HBLK3.out.below hb4 HBLK3.out.lt)
  have HR5 := Lib.hid (HR3.out.below hb4 hgw3)
  have HBOX5 := Lib.hid (Blk.new w3 40 #[.int .u8 (k : Int), .string ⟨#[]⟩, .string ⟨#[]⟩, ns, ns, ns])
  have k0 := HBOX5.out.cell 0
  simp only [List.getElem?_cons_zero] at k0
  have hw5 : w3.heap.size < (w3.alloc (.cells #[.int .u8 (k : Int), .string ⟨#[]⟩, .string ⟨#[]⟩, ns, ns, ns] 40)).heap.size := by simp
  have HKR : Hid (hasK (kindR p).toNat = hasK k) := by show _ = _; rw [HKN.out]
  clear hb4 HBLK3 HR3 HB3
  have hka : ¬ (k : Int) < 1 := by omega
  have hkb : ¬ (12 : Int) < k := by omega
  have hk1 : ((k : Int) == 1) = false := by rw [beq_eq_false_iff_ne]; omega
  have hk7 : ((k : Int) == 7) = false := by rw [beq_eq_false_iff_ne]; omega
  have HX : Hid (decV p = finR ⟨kindR p, [], [], [], [], []⟩ r) := by
    show _ = _
    have hz : hasK k = 1 := by rcases has_cases k with h | h | h | h | h <;> omega
    rw [HD.out]; unfold decK; rw [if_neg (by rw [HKR.out, hz]; decide), if_pos (by rw [HKR.out]; exact hz)]
  have HP : Hid (∀ W, Calls Tryd.prog 46 #[.int .u8 (k : Int)] W fun e w' => e = .returned (.bool false) ∧ W = w') := fun W => pathed_no k hk256 (by omega) W
  have HQ6 : Hid (ReqN (w3.alloc (.cells #[.int .u8 (k : Int), .string ⟨#[]⟩, .string ⟨#[]⟩, ns, ns, ns] 40)) (w.heap.size + 1) (.agg #[.int .u8 (k : Int), .string ⟨#[]⟩, .string ⟨#[]⟩, ns, ns, ns]) ⟨kindR p, [], [], [], [], []⟩) := ⟨none, 0, none, 0, none, 0, by rw [HKV.out]; rfl, SrcIs.nil _ _, New.none _, StrsIs.nil _ _, New.none _, OutsN.nil _ _ _⟩
  have HR6 := HR5; have HB6 := HB5; have HBLK6 := HBLK5; have HBOX6 := HBOX5
  clear HR5 HB5 HBLK5 HBOX5 HD hkk
  go_wp2_with fail
  refine (HP.out _).mono ?_
  rintro e w6 ⟨rfl, rfl⟩
  rcases whole_end r with ⟨hw, -⟩ | ⟨hw, -⟩
  · have HE : Hid (wholeR r = true) := hw
    have HX2 : Hid (decV p = (⟨kindR p, [], [], [], [], []⟩, 0)) := by show _ = _; rw [HX.out]; unfold finR; rw [if_pos hw]
    clear hw HX
    go_wp2_with fail
    with_reducible refine (whole_any w.heap.size (w.heap.size + 1) r _ HR6.out).mono ?_
    rintro e w7 ⟨rfl, rfl⟩
    rw [HE.out]
    have k0 := Blk.cell HBOX6.out 0; have k1 := Blk.cell HBOX6.out 1; have k2 := Blk.cell HBOX6.out 2; have k3 := Blk.cell HBOX6.out 3; have k4 := Blk.cell HBOX6.out 4; have k5 := Blk.cell HBOX6.out 5
    simp only [List.getElem?_cons_zero, List.getElem?_cons_succ] at k0 k1 k2 k3 k4 k5
    go_wp2_with (refine wpList_store_blk rfl (.tmp 2) (.tmp 113) rfl rfl (cs' := [.int .u8 (k : Int), .string ⟨#[]⟩, .string ⟨#[]⟩, ns, ns, ns]) rfl HBLK6.out rfl info40 rfl ?_)
    intro w8 hrs
    have d0 := hrs.blk.cell 0; have d1 := hrs.blk.cell 1; have d2 := hrs.blk.cell 2; have d3 := hrs.blk.cell 3; have d4 := hrs.blk.cell 4; have d5 := hrs.blk.cell 5
    simp only [List.getElem?_cons_zero, List.getElem?_cons_succ] at d0 d1 d2 d3 d4 d5
    have HB8 : Hid (Below w.heap.size w w8) := hrs.below _ _ HB6.out (Nat.le_refl _)
    have HQ8 : Hid (ReqN w8 (w.heap.size + 1) (.agg #[.int .u8 (k : Int), .string ⟨#[]⟩, .string ⟨#[]⟩, ns, ns, ns]) ⟨kindR p, [], [], [], [], []⟩) := HQ6.out.only (RowSet.only hrs) (Nat.lt_succ_self _)
    clear hrs k0 k1 k2 k3 k4 k5
    go_wp2_with fail
    exact bodyPost_ret (v := .tuple #[.agg #[.int .u8 (k : Int), .string ⟨#[]⟩, .string ⟨#[]⟩, ns, ns, ns], .int .i64 0]) (by simp [results, Tryd.results55, go_sem, *]) rfl (dec_ok HX2.out HB8.out HQ8.out)
  · have HE : Hid (wholeR r = false) := hw
    have HX2 : Hid (decV p = (zeroV, 2)) := by show _ = _; rw [HX.out]; unfold finR; rw [if_neg (by rw [hw]; simp)]
    clear hw HX
    go_wp2_with fail
    with_reducible refine (whole_any w.heap.size (w.heap.size + 1) r _ HR6.out).mono ?_
    rintro e w7 ⟨rfl, rfl⟩
    rw [HE.out]
    go_wp2_with (refine wpList_store_blk rfl (.tmp 2) (.tmp 112) rfl rfl (cs' := [.int .u8 0, .string ⟨#[]⟩, .string ⟨#[]⟩, ns, ns, ns]) rfl HBLK6.out rfl info40 rfl ?_)
    intro w8 hrs
    have d0 := hrs.blk.cell 0; have d1 := hrs.blk.cell 1; have d2 := hrs.blk.cell 2; have d3 := hrs.blk.cell 3; have d4 := hrs.blk.cell 4; have d5 := hrs.blk.cell 5
    simp only [List.getElem?_cons_zero, List.getElem?_cons_succ] at d0 d1 d2 d3 d4 d5
    have HB8 : Hid (Below w.heap.size w w8) := hrs.below _ _ HB6.out (Nat.le_refl _)
    clear hrs
    go_wp2_with fail
    exact bodyPost_ret (v := .tuple #[.agg #[.int .u8 0, .string ⟨#[]⟩, .string ⟨#[]⟩, ns, ns, ns], .int .i64 2]) (by simp [results, Tryd.results55, go_sem, *]) rfl (dec_zero HX2.out HB8.out)
end Go.Proofs.YtghbabnekalgpaaDoor
