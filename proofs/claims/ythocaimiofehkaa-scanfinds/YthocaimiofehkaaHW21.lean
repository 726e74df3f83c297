/- The contract of the reference's Sum. -/
import Derived.Test.YthocaimiofehkaaHW20
namespace Go.Proofs.Ythocaimiofehkaa.Hs
open Go.RowKit HashMath

set_option maxHeartbeats 40000000 in
set_option maxRecDepth 100000 in
theorem refSum_any (A : Option Addr) (cap : Nat) (p : List By) (hp : p.length ≤ 1000) (hN : A = none → cap = 0) (t : Value) (w : World) (ht : HasherIs w t) (hA : SrcIs w A p) :
    Calls Try.prog 33 #[t, .slice A p.length cap] w fun e w' => ∃ v, e = .returned v ∧ w'.ownsRow w.heap.size 5 1 v 32 ((sum p).map vb) ∧ Below w.heap.size w w' := by
  obtain ⟨i0, hi, hz0, hz1, hz2⟩ := info_parts info5
  obtain ⟨gh, ch, gk, ck, rfl, hth, htk⟩ := ht
  have HTH := Lib.hid hth; have HTK := Lib.hid htk; have HA := Lib.hid hA; have HN := Lib.hid hN
  clear hth htk hA hN
  go_enter Try.func33, Try.ntmps33
  go_upto_region 2 with fail
  generalize hW1 : w.alloc (.cells #[.slice (some ⟨gh, 0, none⟩) 8 ch, .slice (some ⟨gk, 0, none⟩) 64 ck] 47) = w1
  have HB1 : Hid (Below w.heap.size w w1) := by show Below _ _ _; rw [← hW1]; exact (Below.refl _ _).alloc (Nat.le_refl _) _
  have HBox : Hid (Blk w1 w.heap.size 47 [.slice (some ⟨gh, 0, none⟩) 8 ch, .slice (some ⟨gk, 0, none⟩) 64 ck]) := by show Blk _ _ _ _; rw [← hW1]; exact Blk.new w 47 _
  clear hW1
  go_upto_region 3 with (refine wpList_append_src rfl (.tmp 28) (.tmp 29) rfl w1.heap.size (.slice none 0 0) 0 [] rfl (World.ownsRow_nil _ _ _ _) A cap p rfl HN.out (HA.out.below HB1.out) (by omega) (Nat.le_refl _) ?_)
  intro v1 w2 ho1 hg1
  have HQ1 : Hid (RowRel w1 5 (p.map vb) v1 w2) := src_row ho1 ((Below.refl _ _).grown hg1 (Nat.le_refl _) (by simp [Value.ownBlock]))
  clear ho1 hg1
  go_wp2_with (refine wpList_push Try.underlying26 info5 rfl (by decide) rfl (.tmp 31) (.tmp 32) rfl HQ1.out rfl [.int .u8 128] 1 rfl rfl rfl (by simp; omega) ?_)
  intro v2 w3 hr
  have HQ2 : Hid (RowRel w1 5 ((padN p 0).map vb) v2 w3) := by rw [padN_zero]; exact hr
  clear hr HQ1
  go_wp2_with fail
  go_loopw [5] (fun v wr => ∃ z : Nat, z ≤ zeros p.length ∧ Hid (RowRel w1 5 ((padN p z).map vb) v wr)) (fun v _ => match v with | .slice _ n _ => p.length + 1 + zeros p.length - n | _ => 0)
  case atStart => exact ⟨0, Nat.zero_le _, HQ2.out⟩
  case round =>
    clear HQ2
    obtain ⟨z, hz, HQ⟩ := hrel
    rename World => W0
    obtain ⟨g, c, rfl, hg1, hg2, hrg, hc⟩ := HQ.out.at (by rw [List.length_map, padN_length]; omega)
    rw [List.length_map, padN_length] at hc ⊢
    have HM : Hid (p.length + 1 + z = (padN p z).length) := (padN_length p z).symm
    have hn9 : p.length + 1 + z ≤ 2000 := by unfold zeros at hz; omega
    by_cases hlt : z < zeros p.length
    · have hne : ¬ (p.length + 1 + z) % 64 = 56 := by unfold zeros at hlt; omega
      have HNE := Lib.hid hne; clear hne
      generalize hnn : p.length + 1 + z = n at *
      have HNN := Lib.hid hnn; clear hnn
      have hne2 : ((n : Int) % 64 != 56) = true := by have := HNE.out; simp; omega
      clear hrg
      go_wp2_with (refine wpList_push Try.underlying26 info5 rfl (by decide) rfl (.tmp 38) (.tmp 39) rfl HQ.out (by rw [List.length_map, ← HM.out]; rfl) [.int .u8 0] 1 rfl rfl rfl (by rw [List.length_map, ← HM.out]; omega) ?_)
      intro v' w' hr
      have HR2 : Hid (RowRel w1 5 ((padN p (z + 1)).map vb) v' w') := by rw [padN_more]; exact hr
      clear hr HQ
      obtain ⟨g2, c2, rfl, _, _, _, _⟩ := HR2.out.at (by rw [List.length_map, padN_length]; omega)
      have HL2 : Hid (((padN p (z + 1)).map vb).length = n + 1) := by have := HNN.out; show _ = _; rw [List.length_map, padN_length]; omega
      rw [HL2.out] at HR2 ⊢
      go_wp2_with fail
      go_roundw
      case rel => exact ⟨z + 1, by omega, HR2.out⟩
      case measure => have := HNN.out; simp; omega
    · obtain rfl : z = zeros p.length := by omega
      have heq : (p.length + 1 + zeros p.length) % 64 = 56 := by unfold zeros; omega
      have HEQ := Lib.hid heq; clear heq
      generalize hnn : p.length + 1 + zeros p.length = n at *
      have HNN := Lib.hid hnn; clear hnn
      have hne2 : ((n : Int) % 64 != 56) = false := by have := HEQ.out; simp; omega
      have h8 : IntKind.u64.wrap ((p.length : Int) * 8) = (p.length : Int) * 8 := by rw [IntKind.wrap_u64]; omega
      clear hrg hlt
      go_wp2_with fail
      go_loopw [5, 7] (fun v vi wr => ∃ k : Nat, k ≤ 8 ∧ vi = .int .i64 k ∧ Hid (RowRel w1 5 ((padN p (zeros p.length) ++ (be8 (8 * p.length)).take k).map vb) v wr)) (fun _ vi _ => 8 - (intOf vi).toNat)
      case atStart => exact ⟨0, Nat.zero_le _, rfl, by rw [List.take_zero, List.append_nil]; have := HQ.out; rw [List.length_map, ← HM.out] at this; exact this⟩
      case round =>
        clear HQ
        rename World => W00
        obtain ⟨k, hk, rfl, HQ⟩ := hrel
        by_cases hlt : k < 8
        · have HT8 : Hid ((padN p (zeros p.length) ++ (be8 (8 * p.length)).take (k + 1)).map vb = (padN p (zeros p.length) ++ (be8 (8 * p.length)).take k).map vb ++ [vb (BitVec.ofNat 8 (8 * p.length / 2 ^ (56 - 8 * k)))]) := by
            show _ = _; rw [be8_take _ k hlt, ← List.append_assoc, List.map_append]; rfl
          have hby := byte_shr8 p.length (56 - 8 * k)
          have HLn : Hid (((padN p (zeros p.length) ++ (be8 (8 * p.length)).take k).map vb).length ≤ 3000) := by
            have h1 : ((be8 (8 * p.length)).take k).length ≤ 8 := by simp [be8]; omega
            have h2 := padN_length p (zeros p.length)
            have h3 := HNN.out
            show _ ≤ _
            rw [List.length_map, List.length_append]; omega
          generalize BitVec.ofNat 8 (8 * p.length / 2 ^ (56 - 8 * k)) = xb at *
          generalize (padN p (zeros p.length) ++ (be8 (8 * p.length)).take k).map vb = ql at *
          go_wp2_with (refine wpList_push Try.underlying26 info5 rfl (by decide) rfl (.tmp 49) (.tmp 56) rfl HQ.out rfl [vb xb] 1 rfl rfl rfl (by have := HLn.out; omega) ?_)
          intro v' w' hr
          have HR2 := Lib.hid hr; clear hr HQ
          go_wp2_with fail
          go_roundw
          case rel => exact ⟨k + 1, by omega, by go_num, by rw [HT8.out]; exact HR2.out⟩
          case measure => simp [intOf]; omega
        · have HK8 : Hid (k = 8) := (by omega : k = 8)
          have hq := HQ.out
          rw [HK8.out, show (be8 (8 * p.length)).take 8 = be8 (8 * p.length) from rfl, ← pad_eq] at hq
          have HP := Lib.hid hq; clear hq HQ
          have HPL : Hid ((pad p).length ≤ 2100) := by have := pad_length p; show _ ≤ _; unfold zeros at this; omega
          have HPM := Lib.hid (pad_mod p)
          obtain ⟨gq, cq, rfl, hgq1, hgq2, hqr, hcq⟩ := HP.out.at (by rw [List.length_map, pad_length]; omega)
          rw [List.length_map] at hcq ⊢
          have HQr := Lib.hid hqr
          clear hqr
          go_upto_region 11 with fail
          have HBel := Lib.hid HP.out.below
          have hw01 : w.heap.size < w1.heap.size := HBox.out.lt
          have hwq : w1.heap.size ≤ W00.heap.size := HBel.out.size
          have HBw : Hid (Below w.heap.size w W00) := HB1.out.trans (HBel.out.mono HB1.out.size)
          have hbx0 : W00.cell? ⟨w.heap.size, 0, none⟩ = some (.slice (some ⟨gh, 0, none⟩) 8 ch) := by rw [HBel.out.cell (p := ⟨w.heap.size, 0, none⟩) hw01, HBox.out.cell]; rfl
          have HBx1 : Hid (W00.cell? ⟨w.heap.size, 1, none⟩ = some (.slice (some ⟨gk, 0, none⟩) 64 ck)) := by show _ = _; rw [HBel.out.cell (p := ⟨w.heap.size, 1, none⟩) hw01, HBox.out.cell]; rfl
          have HTH2 := Lib.hid (rangeAt_below HTH.out HBw.out (rangeAt_lt HTH.out (by simp)))
          have HTK2 := Lib.hid (rangeAt_below HTK.out HBw.out (rangeAt_lt HTK.out (by simp [K0_length])))
          have HBy : Hid (BytesAt W00 gq 0 (pad p)) := by
            intro k hk
            have := HQr.out k (vb (pad p)[k]) (by rw [List.getElem?_map, List.getElem?_eq_getElem hk]; rfl)
            exact this
          clear HP HQr HTH HTK HB1 HBox HA HN HM
          obtain ⟨j0, hj, hj0, hj1, hj2⟩ := info_parts info38
          go_wp2_with (at_builtin; refine wpList_append_own _ rfl _ _ 45 rfl W00.heap.size 68 j0 (.int .u32 0) 1 4 Try.underlying45 hj hj0 hj1 hj2 rfl (by decide) _ _ _ rfl (World.ownsRow_nil _ _ _ _) ⟨gh, 0, none⟩ 8 ch (cellsS H0) rfl rfl ?c1 ?c2 ?c3 ?c4 ?c5 ?_)
          case c1 =>
            intro j y hj
            rw [Addr.add_mid]; exact HTH2.out j y hj
          case c2 => intro y hy; simp at hy; rcases hy with rfl | rfl | rfl | rfl | rfl | rfl | rfl | rfl <;> rfl
          case c3 => unfold maxLen; omega
          case c4 => omega
          case c5 => exact Nat.le_refl _
          intro v8 w4 ho8 hg8 _
          have hR8 : RowRel W00 68 (cellsS H0) v8 w4 := append_nil_row ho8 hg8
          obtain ⟨gh0, ch0, hv8, _, _, hrng, _⟩ := hR8.at (by simp)
          rw [show (cellsS H0).length = 8 from rfl] at hv8
          subst hv8
          have HH0 : Hid (HRel W00 gh0 H0 w4) := ⟨hR8.below, hrng⟩
          clear ho8 hg8 hR8 hrng hbx0 HTH2
          have hw0q : w.heap.size < W00.heap.size := by omega
          go_upto_region 12 with fail
          refine tailB p w W00 w4 gq cq gh0 ch0 gk ck HPL.out hcq hgq2 hw0q HBw.out HBx1.out HTK2.out HBy.out HH0.out ?_ ?_
          · assumption
          · assumption
end Go.Proofs.Ythocaimiofehkaa.Hs
