/- The contract of EncodeReply. -/
import Derived.Test.YtghbabnekalgpaaDoorG3
import Derived.Test.YtghbabnekalgpaaDoorQ4
import Derived.Deep.RegionHeld3
namespace Go.Proofs.YtghbabnekalgpaaDoor
open Go.RowKit BaseMath WireMath RealMath ReqMath

def flagB (b : Bool) : By := if b then 1 else 0
def encRep (x : RepV) : List By := [byteI x.e] ++ [flagB x.is] ++ numB x.n ++ wideB (canonB x.stamp) ++ textB x.sum ++ textsB x.paths
theorem wideB_length (x : Nat) : (wideB x).length = 8 := by unfold wideB; simp
theorem encRep_length (x : RepV) : (encRep x).length = 15 + x.sum.length + (x.paths.flatMap textB).length := by
  unfold encRep textsB
  simp only [List.length_append, List.length_cons, List.length_nil, wideB_length, textB_length, numB_length]; omega
set_option maxRecDepth 100000 in
theorem flag_any (b : Bool) (w : World) : Calls Tryd.prog 57 #[.bool b] w fun e w' => e = .returned (vb (flagB b)) ∧ w = w' := by
  cases b
  · go_enter Tryd.func57, Tryd.ntmps57
    go_wp2
    go_ret
    exact ⟨rfl, rfl⟩
  · go_enter Tryd.func57, Tryd.ntmps57
    go_wp2
    go_ret
    exact ⟨rfl, rfl⟩
set_option maxHeartbeats 4000000 in
set_option maxRecDepth 100000 in
theorem encrep_any (x : RepV) (hx : RepV.small x) (hp : x.paths.length ≤ 255) (hbd : (encRep x).length ≤ 400000) (va : Value) (w : World) (ha : RepIs w va x) :
    Calls Tryd.prog 24 #[va] w (EncPost w (encRep x)) := by
  obtain ⟨A, ca, R, cr, rfl, hA, hR⟩ := ha
  rw [encRep_length] at hbd
  have HST := Lib.hid hx.2.2
  have HCB := Lib.hid (canonB_lt x.stamp hx.2.2)
  have hb1 : Below w.heap.size w (w.alloc (.cells #[.int .i64 x.e, .bool x.is, .int .i64 x.n, .float .f64 x.stamp, .slice A x.sum.length ca, .slice R x.paths.length cr] 63)) := (Below.refl _ _).alloc (Nat.le_refl _) _
  have HB1 := Lib.hid hb1
  have hsz1 : (w.alloc (.cells #[.int .i64 x.e, .bool x.is, .int .i64 x.n, .float .f64 x.stamp, .slice A x.sum.length ca, .slice R x.paths.length cr] 63)).heap.size = w.heap.size + 1 := by simp
  have HBOX : Hid (Blk (w.alloc (.cells #[.int .i64 x.e, .bool x.is, .int .i64 x.n, .float .f64 x.stamp, .slice A x.sum.length ca, .slice R x.paths.length cr] 63)) w.heap.size 63 [.int .i64 x.e, .bool x.is, .int .i64 x.n, .float .f64 x.stamp, .slice A x.sum.length ca, .slice R x.paths.length cr]) := Blk.new w 63 _
  have HSZ1 := Lib.hid hsz1
  have HA := Lib.hid hA; have HR := Lib.hid hR
  clear hb1 hsz1 hA hR hx
  have HFL : Hid (∀ W, Calls Tryd.prog 57 #[.bool x.is] W fun e w' => e = .returned (vb (flagB x.is)) ∧ W = w') := fun W => flag_any x.is W
  have HBT : Hid (∀ W, Calls Tryd.prog 60 #[.float .f64 x.stamp] W fun e w' => e = .returned (.int .u64 (canonB x.stamp : Nat)) ∧ W = w') := fun W => bits_any x.stamp HST.out W
  go_enter Tryd.func24, Tryd.ntmps24
  go_upto_region 1 with fail
  generalize (w.alloc (.cells #[.int .i64 x.e, .bool x.is, .int .i64 x.n, .float .f64 x.stamp, .slice A x.sum.length ca, .slice R x.paths.length cr] 63)) = W1 at *
  have hwW : w.heap.size < W1.heap.size := by have := HSZ1.out; omega
  have HW : Hid (WrIs (W1.alloc (.cells #[.slice none 0 0] 88)).drew W1.heap.size W1.heap.size (.slice none 0 0) []) := (writer_nil W1).below (Below.refl _ _).drew
  have hwr : IntKind.u8.wrap x.e = x.e % 256 := by first | rfl | exact IntKind.wrap_u8 _
  have hbelowA : Below W1.heap.size W1 (W1.alloc (.cells #[.slice none 0 0] 88)).drew := ((Below.refl _ _).alloc (Nat.le_refl _) _).drew
  have HS : Hid (∀ W, Below W1.heap.size W1 W → W.cell? ⟨w.heap.size, 0, none⟩ = some (.int .i64 x.e) ∧ W.cell? ⟨w.heap.size, 1, none⟩ = some (.bool x.is) ∧ W.cell? ⟨w.heap.size, 2, none⟩ = some (.int .i64 x.n) ∧ W.cell? ⟨w.heap.size, 3, none⟩ = some (.float .f64 x.stamp)) := fun W hW => by
    have hb := Blk.below HBOX.out hW (by omega)
    exact ⟨hb.cell 0, hb.cell 1, hb.cell 2, hb.cell 3⟩
  have HB5 : Hid (∀ W, Below W1.heap.size W1 W → Blk W w.heap.size 63 [.int .i64 x.e, .bool x.is, .int .i64 x.n, .float .f64 x.stamp, .slice A x.sum.length ca, .slice R x.paths.length cr]) := fun W hW => Blk.below HBOX.out hW (by omega)
  have HWB : Hid (∀ W, Below W1.heap.size W1 W → Below w.heap.size w W) := fun W hW => HB1.out.trans (hW.mono (by omega))
  have HBA := Lib.hid hbelowA
  have k0 := HS.out W1.drew (Below.refl _ _).drew
  have k1 := HS.out _ HBA.out
  clear hbelowA HBOX
  have HC0 : Hid (Calls Tryd.prog 39 #[.pointer (some ⟨W1.heap.size, 0, none⟩), .int .u8 (x.e % 256)] (W1.alloc (.cells #[.slice none 0 0] 88)).drew (WrPost (W1.alloc (.cells #[.slice none 0 0] 88)).drew W1.heap.size W1.heap.size (.slice none 0 0) ([byteI x.e]))) := by
    have := wbyte_any W1.heap.size W1.heap.size (.slice none 0 0) [] (byteI x.e) (by simp) _ HW.out
    rw [vb_byteI] at this; exact this
  have HENC : Hid (encRep x = [byteI x.e] ++ [flagB x.is] ++ numB x.n ++ wideB (canonB x.stamp) ++ textB x.sum ++ textsB x.paths) := rfl
  generalize flagB x.is = fb at *
  generalize canonB x.stamp = cb at *
  go_region_held3 (fun W => W.cell? ⟨w.heap.size, 0, none⟩ = some (.int .i64 x.e) ∧ W.cell? ⟨w.heap.size, 1, none⟩ = some (.bool x.is) ∧ W.cell? ⟨w.heap.size, 2, none⟩ = some (.int .i64 x.n) ∧ W.cell? ⟨w.heap.size, 3, none⟩ = some (.float .f64 x.stamp))
    (first | with_reducible exact k0 | with_reducible exact k1 | with_reducible exact k2 | with_reducible exact k3 | with_reducible exact k4 | with_reducible exact k5 | go_keep)
    (first
      | (go_at_call 57
         refine (HFL.out _).mono ?_
         rintro e w9 ⟨rfl, rfl⟩)
      | (go_at_call 60
         refine (HBT.out _).mono ?_
         rintro e w9 ⟨rfl, rfl⟩)
      | (go_at_call 39
         with_reducible refine (HC0.out).mono ?_
         rintro e w2 ⟨rfl, v2, h1, h2⟩
         have HB2 : Hid (Below W1.heap.size W1 w2) := HBA.out.trans (h2.below HW.out HW.out.base_lt)
         have H2 := Lib.hid h1
         have k2 := HS.out w2 HB2.out
         clear h1 h2)
      | (go_at_call 39
         refine (wbyte_any W1.heap.size W1.heap.size v2 [byteI x.e] fb ?hh w2 H2.out).mono ?_
         case hh => simp
         rintro e w3 ⟨rfl, v3, h1, h2⟩
         have HB3 : Hid (Below W1.heap.size W1 w3) := HB2.out.trans (h2.below H2.out H2.out.base_lt)
         have H3 := Lib.hid h1
         have k3 := HS.out w3 HB3.out
         clear h1 h2)
      | (go_at_call 58
         refine (wnum_any W1.heap.size W1.heap.size v3 ([byteI x.e] ++ [fb]) x.n ?hh w3 H3.out).mono ?_
         case hh => simp
         rintro e w4 ⟨rfl, v4, h1, h2⟩
         have HB4 : Hid (Below W1.heap.size W1 w4) := HB3.out.trans (h2.below H3.out H3.out.base_lt)
         have H4 := Lib.hid h1
         have k4 := HS.out w4 HB4.out
         clear h1 h2)
      | (go_at_call 59
         refine (wwide_any W1.heap.size W1.heap.size v4 ([byteI x.e] ++ [fb] ++ numB x.n) cb ?hh ?hg w4 H4.out).mono ?_
         case hh => have := HCB.out; omega
         case hg => simp [numB_length]
         rintro e w5 ⟨rfl, v5, h1, h2⟩
         have HB5' : Hid (Below W1.heap.size W1 w5) := HB4.out.trans (h2.below H4.out H4.out.base_lt)
         have H5 := Lib.hid h1
         have k5 := HS.out w5 HB5'.out
         clear h1 h2)
      | fail)
  all_goals
    clear k0 k1 k2 k3 k4 k5
    go_upto_region 2 with fail
    have HL : Hid (([byteI x.e] ++ [fb] ++ numB x.n ++ wideB cb).length = 12) := by show _ = _; simp [numB_length, wideB_length]
    have HE : Hid (encRep x = [byteI x.e] ++ [fb] ++ numB x.n ++ wideB cb ++ textB x.sum ++ textsB x.paths) := HENC.out
    clear HENC
    generalize [byteI x.e] ++ [fb] ++ numB x.n ++ wideB cb = L at *
    have HC5 : Hid (∀ W, Below W1.heap.size W1 W → W.cell? ⟨w.heap.size, 4, none⟩ = some (.slice A x.sum.length ca) ∧ W.cell? ⟨w.heap.size, 5, none⟩ = some (.slice R x.paths.length cr) ∧ (convert 37 9 (.slice A x.sum.length ca)).run Tryd.prog W = .ok (vs x.sum) W) := fun W hW => ⟨(HB5.out W hW).cell 4, (HB5.out W hW).cell 5, run_text_src (HA.out.below (HWB.out W hW))⟩
    have HD5 : Hid (Below W1.heap.size W1 w5.drew) := HB5'.out.drew
    have H5' : Hid (WrIs w5.drew W1.heap.size W1.heap.size v5 L) := H5.out.below (Below.refl _ _).drew
    have k0 := HC5.out w5.drew HD5.out
    have HRL : Hid (0 < x.paths.length → ∀ a, R = some a → a.block < W1.heap.size) := fun h0 a ha => Nat.lt_trans (HR.out.lt h0 a ha) hwW
    go_region_held3 (fun W => W.cell? ⟨w.heap.size, 4, none⟩ = some (.slice A x.sum.length ca) ∧ W.cell? ⟨w.heap.size, 5, none⟩ = some (.slice R x.paths.length cr) ∧ (convert 37 9 (.slice A x.sum.length ca)).run Tryd.prog W = .ok (vs x.sum) W)
      (first | with_reducible exact k0 | with_reducible exact k1 | with_reducible exact k2 | with_reducible exact k3)
      (first
        | (go_at_call 41
           refine (wtext_any W1.heap.size W1.heap.size v5 L x.sum ?hh w5.drew H5'.out).mono ?_
           case hh => have := HL.out; omega
           rintro e w6 ⟨rfl, v6, h1, h2⟩
           have HB6 : Hid (Below W1.heap.size W1 w6) := HD5.out.trans (h2.below H5'.out H5'.out.base_lt)
           have H6 := Lib.hid h1
           have k1 := HC5.out w6 HB6.out
           clear h1 h2)
        | (go_at_call 61
           refine (wtexts_any W1.heap.size W1.heap.size v6 (L ++ textB x.sum) R cr x.paths hp ?hh w6 H6.out (HR.out.belowW (HWB.out w6 HB6.out)) HRL.out).mono ?_
           case hh => have := HL.out; rw [List.length_append, textB_length]; omega
           rintro e w7 ⟨rfl, v7, h1, h2⟩
           have HB7 : Hid (Below W1.heap.size W1 w7) := HB6.out.trans (h2.below H6.out H6.out.base_lt)
           have H7 := Lib.hid h1
           have k2 := HC5.out w7 HB7.out
           clear h1 h2)
        | (go_at_call 44
           refine (wbytes_any W1.heap.size W1.heap.size v7 (L ++ textB x.sum ++ textsB x.paths) ?hh w7 H7.out).mono ?_
           case hh => have := HL.out; unfold textsB; rw [List.length_append, List.length_append, textB_length, List.length_append]; simp only [List.length_cons, List.length_nil]; omega
           rintro e w8 ⟨v8, rfl, hr⟩
           have HN := Lib.hid (hr.pre (HWB.out w7 HB7.out))
           have k3 := HC5.out w8 (HB7.out.trans (hr.below.mono HB7.out.size))
           clear hr)
        | fail)
    all_goals
      clear k0 k1 k2 k3
      go_wp2_with fail
      go_ret
      exact ⟨_, rfl, by rw [HE.out]; exact HN.out⟩
end Go.Proofs.YtghbabnekalgpaaDoor
