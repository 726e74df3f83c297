/- The walk of the law HashLengths. -/
import Derived.Test.YtdhcmhggooiboaaDoorW21
import Derived.Test.YtdhcmhggooiboaaDoorL4
namespace Go.Proofs.YtdhcmhggooiboaaDoor
open Go.RowKit HashMath

set_option maxHeartbeats 1000000 in
set_option maxRecDepth 100000 in
theorem lengths_all (n : Nat) (hn : n < 65536) (b : By) (w : World) (ht : Tabs w) :
    Calls Tryd.prog 4 #[.int .u16 n, vb b] w fun e w' => e = .returned (.bool true) ∧ Below w.heap.size w w' := by
  have HT := Lib.hid ht; clear ht
  go_enter Tryd.func4, Tryd.ntmps4
  go_wp2_with fail
  refine (bare_any w HT.out).mono ?_
  rintro e w1 ⟨rfl, hb1⟩
  have HT1 := Lib.hid (HT.out.below hb1 HT.out.size)
  have HB1 := Lib.hid hb1
  clear hb1 HT
  have hm : n % 300 < 300 := Nat.mod_lt _ (by decide)
  have hrem : (n : Int) % 300 = ((n % 300 : Nat) : Int) := by rw [Int.natCast_emod]; rfl
  have htm : (n : Int).tmod 300 = ((n % 300 : Nat) : Int) := by rw [Int.tmod_eq_emod_of_nonneg (by omega), Int.natCast_emod]; rfl
  generalize n % 300 = m at *
  go_wp2_with fail
  go_loopw [5, 6] (fun v vi wr => ∃ k : Nat, k ≤ m ∧ vi = .int .i64 k ∧ Hid (RowRel w1 5 ((List.replicate k b).map vb) v wr)) (fun _ vi _ => m - (intOf vi).toNat)
  case atStart => exact ⟨0, Nat.zero_le _, rfl, RowRel.none _ _⟩
  case round =>
    obtain ⟨k, hk, rfl, HR⟩ := hrel
    rename World => W0
    by_cases hlt : k < m
    · have HST : Hid ((List.replicate (k + 1) b).map vb = (List.replicate k b).map vb ++ [vb b]) := by show _ = _; rw [List.replicate_succ', List.map_append]; rfl
      have HLn : Hid (((List.replicate k b).map vb).length = k) := by show _ = _; simp
      have hkm : (k : Int) < (m : Int) := by omega
      go_wp2_with (refine wpList_push Tryd.underlying22 info5 rfl (by decide) rfl (.tmp 16) (.tmp 18) rfl HR.out rfl [vb b] 1 rfl rfl rfl (by have := HLn.out; omega) ?_)
      intro v' w' hr
      have HR2 : Hid (RowRel w1 5 ((List.replicate (k + 1) b).map vb) v' w') := by rw [HST.out, List.map_replicate]; exact hr
      clear hr HR
      go_wp2_with fail
      go_roundw
      case rel => exact ⟨k + 1, by omega, by go_num, HR2.out⟩
      case measure => simp [intOf]; omega
    · have hkm : ¬ (k : Int) < (m : Int) := by omega
      obtain ⟨A, c, hv, hs, hN, hc, _⟩ := own_src (l := List.replicate k b) (n := k) (by have := HR.out.own; rw [List.length_map, List.length_replicate] at this; exact this) (by simp)
      subst hv
      have hpl : (List.replicate k b).length ≤ 1000 := by rw [List.length_replicate]; omega
      have HPL := Lib.hid hpl; clear hpl
      have HSr := Lib.hid hs; have HN' := Lib.hid hN; have HC := Lib.hid hc
      have HBr := Lib.hid HR.out.below
      clear hs hN hc HR
      generalize List.replicate k b = p at *
      have HTr := Lib.hid (HT1.out.below HBr.out HT1.out.size)
      go_wp2_with fail
      refine (sum_new A c p HPL.out HC.out W0 HTr.out HSr.out).mono ?_
      rintro e w2 ⟨g2, c2, tl2, rfl, hg2, hblk2, hc2, hb2⟩
      have HB2 := Lib.hid hb2; have HX2 := Lib.hid hblk2
      clear hb2 hblk2
      go_wp2_with fail
      refine (new_any w2).mono ?_
      rintro e w3 ⟨t, rfl, ht3, hb3⟩
      have HB3 := Lib.hid hb3; have HH3 := Lib.hid ht3
      clear hb3 ht3
      go_wp2_with fail
      refine (refSum_any A c p HPL.out HN'.out t w3 HH3.out ((HSr.out.below HB2.out).below HB3.out)).mono ?_
      rintro e w4 ⟨v4, rfl, ho4, hb4⟩
      obtain ⟨A4, c4, hv4, hs4, _, _, _⟩ := own_src (l := sum p) ho4 (sum_length p)
      subst hv4
      have HB4 := Lib.hid hb4; have HS4 := Lib.hid hs4
      have HX4 := Lib.hid ((HX2.out.below HB3.out HX2.out.lt).below hb4 (Nat.lt_of_lt_of_le HX2.out.lt HB3.out.size))
      clear ho4 hb4 hs4
      go_wp2_with fail
      refine (bytes_same (some ⟨g2, 0, none⟩) A4 c2 c4 (sum p) (by rw [sum_length]; omega) w4 (fun _ => ⟨g2, 0, rfl, HX4.out.bytes_app⟩) HS4.out).mono ?_
      rintro e w5 ⟨rfl, q, rfl⟩
      go_wp2
      go_ret
      have h1 := HB1.out.trans (HBr.out.mono HB1.out.size)
      have h2 := h1.trans (HB2.out.mono h1.size)
      have h3 := h2.trans (HB3.out.mono h2.size)
      have h4 := h3.trans (HB4.out.mono h3.size)
      exact ⟨rfl, below_drewN h4 q⟩
end Go.Proofs.YtdhcmhggooiboaaDoor
