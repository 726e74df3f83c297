/- The contract of the reference's EncodeReply. -/
import Derived.Test.YtghbabnekalgpaaDoorG4
import Derived.Test.YtghbabnekalgpaaDoorF1
namespace Go.Proofs.YtghbabnekalgpaaDoor
open Go.RowKit BaseMath WireMath RealMath ReqMath

theorem row_of_blk5 {w : World} {base g n : Nat} {xs : List Value} (hb : Blk w g 5 xs) (hg : base ≤ g) (hl : xs.length = n) (hm : n ≤ 1000000) : w.ownsRow base 5 1 (.slice (some ⟨g, 0, none⟩) n n) n xs := by
  refine ⟨by simp [hl], .inr ⟨g, n, xs.toArray, rfl, hg, hb, Nat.le_refl _, by unfold maxLen; omega, by simp; omega, ?_⟩⟩
  rw [Nat.mul_one, ← hl]; simp
set_option maxHeartbeats 4000000 in
set_option maxRecDepth 100000 in
theorem rencrep_any (x : RepV) (hx : RepV.small x) (hp : x.paths.length ≤ 255) (hbd : (encRep x).length ≤ 400000) (va : Value) (w : World) (ha : RepIs w va x) :
    Calls Tryd.prog 26 #[va] w (EncPost w (encRep x)) := by
  obtain ⟨A, ca, R, cr, rfl, hA, hR⟩ := ha
  rw [encRep_length] at hbd
  have HCB : Hid (canonB x.stamp ≤ 18446744073709551615) := by show _ ≤ _; have := canonB_lt x.stamp hx.2.2; omega
  have hb1 : Below w.heap.size w (w.alloc (.cells #[.int .i64 x.e, .bool x.is, .int .i64 x.n, .float .f64 x.stamp, .slice A x.sum.length ca, .slice R x.paths.length cr] 63)) := (Below.refl _ _).alloc (Nat.le_refl _) _
  have HB1 := Lib.hid hb1
  have hsz1 : (w.alloc (.cells #[.int .i64 x.e, .bool x.is, .int .i64 x.n, .float .f64 x.stamp, .slice A x.sum.length ca, .slice R x.paths.length cr] 63)).heap.size = w.heap.size + 1 := by simp
  have HSZ := Lib.hid hsz1
  have HBOX : Hid (Blk (w.alloc (.cells #[.int .i64 x.e, .bool x.is, .int .i64 x.n, .float .f64 x.stamp, .slice A x.sum.length ca, .slice R x.paths.length cr] 63)) w.heap.size 63 [.int .i64 x.e, .bool x.is, .int .i64 x.n, .float .f64 x.stamp, .slice A x.sum.length ca, .slice R x.paths.length cr]) := Blk.new w 63 _
  have HA := Lib.hid hA; have HR := Lib.hid hR
  have k0 := HBOX.out.cell 0
  simp only [List.getElem?_cons_zero] at k0
  clear hb1 hsz1 hA hR hx
  go_enter Tryd.func26, Tryd.ntmps26
  go_upto_region 1 with fail
  generalize (w.alloc (.cells #[.int .i64 x.e, .bool x.is, .int .i64 x.n, .float .f64 x.stamp, .slice A x.sum.length ca, .slice R x.paths.length cr] 63)) = W1 at *
  have hw1 : w.heap.size < W1.heap.size := by have := HSZ.out; omega
  have HWB : Hid (∀ U, Below W1.heap.size W1 U → Below w.heap.size w U) := fun U hU => HB1.out.trans (hU.mono HB1.out.size)
  have HBX : Hid (∀ U, Below W1.heap.size W1 U → Blk U w.heap.size 63 [.int .i64 x.e, .bool x.is, .int .i64 x.n, .float .f64 x.stamp, .slice A x.sum.length ca, .slice R x.paths.length cr]) := fun U hU => Blk.below HBOX.out hU hw1
  have hba : Below W1.heap.size W1 (W1.alloc (.cells #[.int .u8 (x.e % 256), .int .u8 0] 5)) := (Below.refl _ _).alloc (Nat.le_refl _) _
  have k1 := (HBX.out _ hba).cell 1
  simp only [List.getElem?_cons_zero, List.getElem?_cons_succ] at k1
  have hwr : IntKind.u8.wrap x.e = x.e % 256 := by first | rfl | exact IntKind.wrap_u8 _
  have HENC : Hid (encRep x = [byteI x.e, flagB x.is] ++ numB x.n ++ wideB (canonB x.stamp) ++ textB x.sum ++ textsB x.paths) := by show _ = _; unfold encRep; simp
  generalize hfb : flagB x.is = fb at *
  replace hfb := hfb.symm
  clear HBOX hba
  cases h : x.is
  · have his : x.is = false := h
    have HW1 : Hid (RowRel W1 5 (([byteI x.e, fb] : List By).map vb) (.slice (some ⟨W1.heap.size, 0, none⟩) 2 2) ((W1.alloc (.cells #[.int .u8 (x.e % 256), .int .u8 0] 5)))) := by
      refine ⟨(Below.refl _ _).alloc (Nat.le_refl _) _, ?_⟩
      have h1 : Blk ((W1.alloc (.cells #[.int .u8 (x.e % 256), .int .u8 0] 5))) W1.heap.size 5 [.int .u8 (x.e % 256), .int .u8 0] := Blk.new W1 5 _
      have h2 : ([byteI x.e, fb] : List By).map vb = [.int .u8 (x.e % 256), .int .u8 0] := by rw [hfb, his]; simp [vb_byteI, flagB]
      rw [h2]
      exact row_of_blk5 h1 (Nat.le_refl _) rfl (by decide)
    have HFB := Lib.hid hfb
    clear hfb h
    have bx := HBX.out _ HW1.out.below
    have k2 := bx.cell 2
    simp only [List.getElem?_cons_zero, List.getElem?_cons_succ] at k2
    clear bx
    go_wp2_with fail
    clear his k2
    refine (rnum_any x.n _).mono ?_
    rintro e U1c ⟨v1c, rfl, hr⟩
    obtain ⟨A1c, c1c, rfl, hs1c, hn1c, hc1c, -⟩ := hr.src
    have HS1c := Lib.hid hs1c; have HN1c := Lib.hid hn1c
    have HR1c := Lib.hid (RowRel.below' HW1.out hr.below)
    clear hr hs1c hn1c hc1c
    have hlen0 : (numB x.n).length = 2 := numB_length _
    generalize hq : numB x.n = tn at *
    have HQtn := Lib.hid hq; have HLtn := Lib.hid hlen0
    clear hq hlen0
    have hbdd2 := (show ([byteI x.e, fb] : List By).length + tn.length ≤ 1000000 by have := HLtn.out; simp; omega)
    have HBDD2 := Lib.hid hbdd2
    clear hbdd2
    go_wp2_with (refine wpList_append_x rfl (.tmp 12) (.tmp 15) rfl W1.heap.size (.slice (some ⟨W1.heap.size, 0, none⟩) 2 2) _ rfl (row_own HR1c.out) A1c c1c tn rfl HN1c.out HS1c.out HBDD2.out (row_size HR1c.out) ?_)
    intro v2 U2 ho hg hk
    have HR2 := Lib.hid (row_app (x := tn) HR1c.out (by simpa using ho) hg)
    clear ho hg hk
    have bx := HBX.out _ HR2.out.below
    have k3 := bx.cell 3
    simp only [List.getElem?_cons_zero, List.getElem?_cons_succ] at k3
    clear bx
    go_wp2_with fail
    refine (refbits_any x.stamp _).mono ?_
    rintro e U ⟨rfl, rfl⟩
    generalize hcb : canonB x.stamp = cb at *
    clear hcb k3
    go_wp2_with fail
    refine (rwide_any cb HCB.out _).mono ?_
    rintro e U3c ⟨v3c, rfl, hr⟩
    obtain ⟨A3c, c3c, rfl, hs3c, hn3c, hc3c, -⟩ := hr.src
    have HS3c := Lib.hid hs3c; have HN3c := Lib.hid hn3c
    have HR3c := Lib.hid (RowRel.below' HR2.out hr.below)
    clear hr hs3c hn3c hc3c
    have hlen0 : (wideB cb).length = 8 := wideB_length _
    generalize hq : wideB cb = tw at *
    have HQtw := Lib.hid hq; have HLtw := Lib.hid hlen0
    clear hq hlen0
    have hbdd4 := (show ([byteI x.e, fb] ++ tn).length + tw.length ≤ 1000000 by have := HLtn.out; have := HLtw.out; simp; omega)
    have HBDD4 := Lib.hid hbdd4
    clear hbdd4
    go_wp2_with (refine wpList_append_x rfl (.tmp 17) (.tmp 21) rfl W1.heap.size v2 _ rfl (row_own HR3c.out) A3c c3c tw rfl HN3c.out HS3c.out HBDD4.out (row_size HR3c.out) ?_)
    intro v4 U4 ho hg hk
    have HR4 := Lib.hid (row_app (x := tw) HR3c.out (by simpa using ho) hg)
    clear ho hg hk
    have bx := HBX.out _ HR4.out.below
    have k4 := bx.cell 4
    simp only [List.getElem?_cons_zero, List.getElem?_cons_succ] at k4
    clear bx
    have hcv := run_text_src (cap := ca) (HA.out.below (HWB.out _ HR4.out.below))
    go_wp2_with fail
    clear hcv k4
    refine (rtextb_any x.sum (by omega) _).mono ?_
    rintro e U5c ⟨v5c, rfl, hr⟩
    obtain ⟨A5c, c5c, rfl, hs5c, hn5c, hc5c, -⟩ := hr.src
    have HS5c := Lib.hid hs5c; have HN5c := Lib.hid hn5c
    have HR5c := Lib.hid (RowRel.below' HR4.out hr.below)
    clear hr hs5c hn5c hc5c
    have hlen0 : (textB x.sum).length = 2 + x.sum.length := textB_length _
    generalize hq : textB x.sum = ts at *
    have HQts := Lib.hid hq; have HLts := Lib.hid hlen0
    clear hq hlen0
    have hbdd6 := (show ([byteI x.e, fb] ++ tn ++ tw).length + ts.length ≤ 1000000 by have := HLtn.out; have := HLtw.out; have := HLts.out; simp; omega)
    have HBDD6 := Lib.hid hbdd6
    clear hbdd6
    go_wp2_with (refine wpList_append_x rfl (.tmp 23) (.tmp 27) rfl W1.heap.size v4 _ rfl (row_own HR5c.out) A5c c5c ts rfl HN5c.out HS5c.out HBDD6.out (row_size HR5c.out) ?_)
    intro v6 U6 ho hg hk
    have HR6 := Lib.hid (row_app (x := ts) HR5c.out (by simpa using ho) hg)
    clear ho hg hk
    have bx := HBX.out _ HR6.out.below
    have k5 := bx.cell 5
    simp only [List.getElem?_cons_zero, List.getElem?_cons_succ] at k5
    clear bx
    go_wp2_with fail
    clear k5
    refine (rtextsb_any R cr x.paths hp (by omega) _ (HR.out.belowW (HWB.out _ HR6.out.below))).mono ?_
    rintro e U7c ⟨v7c, rfl, hr⟩
    obtain ⟨A7c, c7c, rfl, hs7c, hn7c, hc7c, -⟩ := hr.src
    have HS7c := Lib.hid hs7c; have HN7c := Lib.hid hn7c
    have HR7c := Lib.hid (RowRel.below' HR6.out hr.below)
    clear hr hs7c hn7c hc7c
    have hlen0 : (textsB x.paths).length = 1 + (x.paths.flatMap textB).length := by unfold textsB; simp; omega
    generalize hq : textsB x.paths = tp at *
    have HQtp := Lib.hid hq; have HLtp := Lib.hid hlen0
    clear hq hlen0
    have hbdd8 := (show ([byteI x.e, fb] ++ tn ++ tw ++ ts).length + tp.length ≤ 1000000 by have := HLtn.out; have := HLtw.out; have := HLts.out; have := HLtp.out; simp; omega)
    have HBDD8 := Lib.hid hbdd8
    clear hbdd8
    go_wp2_with (refine wpList_append_x rfl (.tmp 29) (.tmp 32) rfl W1.heap.size v6 _ rfl (row_own HR7c.out) A7c c7c tp rfl HN7c.out HS7c.out HBDD8.out (row_size HR7c.out) ?_)
    intro v8 U8 ho hg hk
    have HR8 := Lib.hid (row_app (x := tp) HR7c.out (by simpa using ho) hg)
    clear ho hg hk
    go_wp2_with fail
    go_ret
    exact ⟨_, rfl, by rw [HENC.out]; exact HR8.out.pre HB1.out⟩
  · have his : x.is = true := h
    have hst : Blk ((W1.alloc (.cells #[.int .u8 (x.e % 256), .int .u8 0] 5))) W1.heap.size 5 [.int .u8 (x.e % 256), .int .u8 0] := Blk.new W1 5 _
    have s1 := hst.cell 1; have sf := hst.frozen 1
    simp only [List.getElem?_cons_zero, List.getElem?_cons_succ] at s1
    have HW1 : Hid (RowRel W1 5 (([byteI x.e, fb] : List By).map vb) (.slice (some ⟨W1.heap.size, 0, none⟩) 2 2) (W1.alloc (.cells #[.int .u8 (x.e % 256), .int .u8 1] 5))) := by
      refine ⟨(Below.refl _ _).alloc (Nat.le_refl _) _, ?_⟩
      have h1 : Blk (W1.alloc (.cells #[.int .u8 (x.e % 256), .int .u8 1] 5)) W1.heap.size 5 [.int .u8 (x.e % 256), .int .u8 1] := Blk.new W1 5 _
      have h2 : ([byteI x.e, fb] : List By).map vb = [.int .u8 (x.e % 256), .int .u8 1] := by rw [hfb, his]; simp [vb_byteI, flagB]
      rw [h2]
      exact row_of_blk5 h1 (Nat.le_refl _) rfl (by decide)
    clear hst
    have HFB := Lib.hid hfb
    clear hfb h
    have bx := HBX.out _ HW1.out.below
    have k2 := bx.cell 2
    simp only [List.getElem?_cons_zero, List.getElem?_cons_succ] at k2
    clear bx
    go_wp2_with fail
    clear his k2 s1 sf
    refine (rnum_any x.n _).mono ?_
    rintro e U1c ⟨v1c, rfl, hr⟩
    obtain ⟨A1c, c1c, rfl, hs1c, hn1c, hc1c, -⟩ := hr.src
    have HS1c := Lib.hid hs1c; have HN1c := Lib.hid hn1c
    have HR1c := Lib.hid (RowRel.below' HW1.out hr.below)
    clear hr hs1c hn1c hc1c
    have hlen0 : (numB x.n).length = 2 := numB_length _
    generalize hq : numB x.n = tn at *
    have HQtn := Lib.hid hq; have HLtn := Lib.hid hlen0
    clear hq hlen0
    have hbdd2 := (show ([byteI x.e, fb] : List By).length + tn.length ≤ 1000000 by have := HLtn.out; simp; omega)
    have HBDD2 := Lib.hid hbdd2
    clear hbdd2
    go_wp2_with (refine wpList_append_x rfl (.tmp 12) (.tmp 15) rfl W1.heap.size (.slice (some ⟨W1.heap.size, 0, none⟩) 2 2) _ rfl (row_own HR1c.out) A1c c1c tn rfl HN1c.out HS1c.out HBDD2.out (row_size HR1c.out) ?_)
    intro v2 U2 ho hg hk
    have HR2 := Lib.hid (row_app (x := tn) HR1c.out (by simpa using ho) hg)
    clear ho hg hk
    have bx := HBX.out _ HR2.out.below
    have k3 := bx.cell 3
    simp only [List.getElem?_cons_zero, List.getElem?_cons_succ] at k3
    clear bx
    go_wp2_with fail
    refine (refbits_any x.stamp _).mono ?_
    rintro e U ⟨rfl, rfl⟩
    generalize hcb : canonB x.stamp = cb at *
    clear hcb k3
    go_wp2_with fail
    refine (rwide_any cb HCB.out _).mono ?_
    rintro e U3c ⟨v3c, rfl, hr⟩
    obtain ⟨A3c, c3c, rfl, hs3c, hn3c, hc3c, -⟩ := hr.src
    have HS3c := Lib.hid hs3c; have HN3c := Lib.hid hn3c
    have HR3c := Lib.hid (RowRel.below' HR2.out hr.below)
    clear hr hs3c hn3c hc3c
    have hlen0 : (wideB cb).length = 8 := wideB_length _
    generalize hq : wideB cb = tw at *
    have HQtw := Lib.hid hq; have HLtw := Lib.hid hlen0
    clear hq hlen0
    have hbdd4 := (show ([byteI x.e, fb] ++ tn).length + tw.length ≤ 1000000 by have := HLtn.out; have := HLtw.out; simp; omega)
    have HBDD4 := Lib.hid hbdd4
    clear hbdd4
    go_wp2_with (refine wpList_append_x rfl (.tmp 17) (.tmp 21) rfl W1.heap.size v2 _ rfl (row_own HR3c.out) A3c c3c tw rfl HN3c.out HS3c.out HBDD4.out (row_size HR3c.out) ?_)
    intro v4 U4 ho hg hk
    have HR4 := Lib.hid (row_app (x := tw) HR3c.out (by simpa using ho) hg)
    clear ho hg hk
    have bx := HBX.out _ HR4.out.below
    have k4 := bx.cell 4
    simp only [List.getElem?_cons_zero, List.getElem?_cons_succ] at k4
    clear bx
    have hcv := run_text_src (cap := ca) (HA.out.below (HWB.out _ HR4.out.below))
    go_wp2_with fail
    clear hcv k4
    refine (rtextb_any x.sum (by omega) _).mono ?_
    rintro e U5c ⟨v5c, rfl, hr⟩
    obtain ⟨A5c, c5c, rfl, hs5c, hn5c, hc5c, -⟩ := hr.src
    have HS5c := Lib.hid hs5c; have HN5c := Lib.hid hn5c
    have HR5c := Lib.hid (RowRel.below' HR4.out hr.below)
    clear hr hs5c hn5c hc5c
    have hlen0 : (textB x.sum).length = 2 + x.sum.length := textB_length _
    generalize hq : textB x.sum = ts at *
    have HQts := Lib.hid hq; have HLts := Lib.hid hlen0
    clear hq hlen0
    have hbdd6 := (show ([byteI x.e, fb] ++ tn ++ tw).length + ts.length ≤ 1000000 by have := HLtn.out; have := HLtw.out; have := HLts.out; simp; omega)
    have HBDD6 := Lib.hid hbdd6
    clear hbdd6
    go_wp2_with (refine wpList_append_x rfl (.tmp 23) (.tmp 27) rfl W1.heap.size v4 _ rfl (row_own HR5c.out) A5c c5c ts rfl HN5c.out HS5c.out HBDD6.out (row_size HR5c.out) ?_)
    intro v6 U6 ho hg hk
    have HR6 := Lib.hid (row_app (x := ts) HR5c.out (by simpa using ho) hg)
    clear ho hg hk
    have bx := HBX.out _ HR6.out.below
    have k5 := bx.cell 5
    simp only [List.getElem?_cons_zero, List.getElem?_cons_succ] at k5
    clear bx
    go_wp2_with fail
    clear k5
    refine (rtextsb_any R cr x.paths hp (by omega) _ (HR.out.belowW (HWB.out _ HR6.out.below))).mono ?_
    rintro e U7c ⟨v7c, rfl, hr⟩
    obtain ⟨A7c, c7c, rfl, hs7c, hn7c, hc7c, -⟩ := hr.src
    have HS7c := Lib.hid hs7c; have HN7c := Lib.hid hn7c
    have HR7c := Lib.hid (RowRel.below' HR6.out hr.below)
    clear hr hs7c hn7c hc7c
    have hlen0 : (textsB x.paths).length = 1 + (x.paths.flatMap textB).length := by unfold textsB; simp; omega
    generalize hq : textsB x.paths = tp at *
    have HQtp := Lib.hid hq; have HLtp := Lib.hid hlen0
    clear hq hlen0
    have hbdd8 := (show ([byteI x.e, fb] ++ tn ++ tw ++ ts).length + tp.length ≤ 1000000 by have := HLtn.out; have := HLtw.out; have := HLts.out; have := HLtp.out; simp; omega)
    have HBDD8 := Lib.hid hbdd8
    clear hbdd8
    go_wp2_with (refine wpList_append_x rfl (.tmp 29) (.tmp 32) rfl W1.heap.size v6 _ rfl (row_own HR7c.out) A7c c7c tp rfl HN7c.out HS7c.out HBDD8.out (row_size HR7c.out) ?_)
    intro v8 U8 ho hg hk
    have HR8 := Lib.hid (row_app (x := tp) HR7c.out (by simpa using ho) hg)
    clear ho hg hk
    go_wp2_with fail
    go_ret
    exact ⟨_, rfl, by rw [HENC.out]; exact HR8.out.pre HB1.out⟩
end Go.Proofs.YtghbabnekalgpaaDoor
