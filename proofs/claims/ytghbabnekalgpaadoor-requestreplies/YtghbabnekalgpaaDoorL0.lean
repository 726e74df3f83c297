/- The document's example of request: lone answers true. -/
import Derived.Test.YtghbabnekalgpaaDoorQ4
import Derived.Test.YtghbabnekalgpaaDoorQ8
namespace Go.Proofs.YtghbabnekalgpaaDoor
open Go.RowKit BaseMath WireMath ReqMath

theorem enc_lone : encB ⟨11, [], [], [], [], []⟩ = [11] := by decide +kernel
theorem dec_nil : decV [] = (zeroV, 2) := by
  have hk : kindR [] = 0 := by decide +kernel
  unfold decV; rw [if_neg (by decide), hk]; unfold decK
  rw [if_pos (by decide)]
set_option maxHeartbeats 4000000 in
set_option maxRecDepth 100000 in
theorem lone_any (w : World) (ht : KTab w) : Calls Tryd.prog 10 #[] w fun e w' => e = .returned (.bool true) ∧ Below w.heap.size w w' := by
  have HT := Lib.hid ht
  have HC1 : Hid (Calls Tryd.prog 15 #[.agg #[.int .u8 11, .string ⟨#[]⟩, .string ⟨#[]⟩, ns, ns, ns]] w (EncPost w [11])) := by
    have h := encode_any ⟨11, [], [], [], [], []⟩ (.agg #[.int .u8 11, .string ⟨#[]⟩, .string ⟨#[]⟩, ns, ns, ns]) (by simp) (by simp) (by rw [enc_lone]; simp) w ht ⟨none, 0, none, 0, none, 0, rfl, SrcIs.nil _ _, StrsIs.nil _ _, OutsAt.nil _ _⟩
    rw [enc_lone] at h; exact h
  clear ht
  go_enter Tryd.func10, Tryd.ntmps10
  go_wp2_with fail
  refine HC1.out.mono ?_
  rintro e w1 ⟨v1, rfl, hr⟩
  obtain ⟨A1, c1, rfl, hs1, hn1, hc1, -⟩ := RowRel.src hr
  have HB1 := Lib.hid hr.below; have HS1 := Lib.hid hs1
  clear hr hs1 hn1 hc1 HC1
  have HC2 : Hid (Calls Tryd.prog 18 #[.slice none 0 0] w1 (DecPost w1 (zeroV, 2))) := by
    have h := decode_any none 0 [] (by simp) (fun _ => rfl) w1 (HT.out.belowS HB1.out) (SrcIs.nil _ _)
    rw [dec_nil] at h; exact h
  go_wp2_with fail
  refine HC2.out.mono ?_
  rintro e w2 ⟨hb2, v2, rfl, hv2⟩
  obtain ⟨A2, c2, R2, r2, O2, o2, rfl, -⟩ := hv2
  have HB2 : Hid (Below w.heap.size w w2) := HB1.out.trans (hb2.mono HB1.out.size)
  have HS2 := Lib.hid (HS1.out.below hb2)
  clear hb2 HS1 HC2
  have e1 : (UInt8.toNat zeroV.kind : Int) = 0 := rfl
  have hb3 : Below w2.heap.size w2 ((w2.alloc (.cells #[vb zeroV.kind, vs zeroV.name, vs zeroV.path, .slice A2 zeroV.arch.length c2, .slice R2 zeroV.refs.length r2, .slice O2 zeroV.outs.length o2] 40)).alloc (.cells #[.int .u8 11] 5)) := ((Below.refl _ _).alloc (Nat.le_refl _) _).alloc (by simp) _
  have HB3 : Hid (Below w.heap.size w _) := HB2.out.trans (hb3.mono HB2.out.size)
  have HS3 := Lib.hid (HS2.out.below hb3)
  have HS4 : Hid (SrcIs ((w2.alloc (.cells #[vb zeroV.kind, vs zeroV.name, vs zeroV.path, .slice A2 zeroV.arch.length c2, .slice R2 zeroV.refs.length r2, .slice O2 zeroV.outs.length o2] 40)).alloc (.cells #[.int .u8 11] 5)) (some ⟨w2.heap.size + 1, 0, none⟩) [11]) := by
    have := new_src (w2.alloc (.cells #[vb zeroV.kind, vs zeroV.name, vs zeroV.path, .slice A2 zeroV.arch.length c2, .slice R2 zeroV.refs.length r2, .slice O2 zeroV.outs.length o2] 40)) [11]
    rw [show (w2.alloc (.cells #[vb zeroV.kind, vs zeroV.name, vs zeroV.path, .slice A2 zeroV.arch.length c2, .slice R2 zeroV.refs.length r2, .slice O2 zeroV.outs.length o2] 40)).heap.size = w2.heap.size + 1 by simp] at this
    exact this
  clear hb3 HS2 HB2
  go_wp2_with fail
  refine (bytes_same A1 (some ⟨w2.heap.size + 1, 0, none⟩) c1 1 [11] (by simp) _ HS3.out HS4.out).mono ?_
  rintro e w4 ⟨rfl, q, rfl⟩
  have HB4 := Lib.hid (below_drewN HB3.out q)
  have hK : (nameK (1 : By).toNat) = [97, 100, 100] := by decide +kernel
  have HC3 : Hid (∀ W, Below w.heap.size w W → Calls Tryd.prog 30 #[.int .u8 1] W fun e w' => e = .returned (vs [97, 100, 100]) ∧ Below W.heap.size W w') := fun W hW => by
    have h := kind_any 1 W (HT.out.belowS hW)
    rw [hK] at h; exact h
  clear hK HB3 HS3 HS4
  go_wp2_with fail
  refine (HC3.out _ HB4.out).mono ?_
  rintro e w5 ⟨rfl, hb5⟩
  have HB5 : Hid (Below w.heap.size w w5) := HB4.out.trans (hb5.mono HB4.out.size)
  clear hb5 HC3
  go_wp2_with fail
  go_ret
  exact ⟨rfl, HB5.out⟩
end Go.Proofs.YtghbabnekalgpaaDoor
