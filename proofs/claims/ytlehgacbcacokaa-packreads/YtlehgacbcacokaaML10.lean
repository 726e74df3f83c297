/- PackReads: the walk. -/
import Derived.Test.YtlehgacbcacokaaG26
namespace Go.Proofs.Ytlehgacbcacokaa
open Go.RowKit TreeMath RealMath WireMath PackMath

set_option maxHeartbeats 4000000 in
set_option maxRecDepth 100000 in
theorem preads_all (A : Option Addr) (c : Nat) (p : List By) (W : World) (hm : p.length ≤ maxLen) (hc : p.length ≤ c) (hN : A = none → c = 0) (hA : SrcIs W A p) :
    Calls Try.prog 10 #[.slice A p.length c] W fun e w' => e = .returned (.bool true) ∧ Below W.heap.size W w' := by
  have HA := Lib.hid hA; have HN := Lib.hid hN
  unfold maxLen at hm
  clear hA hN
  by_cases h4 : 400 < p.length
  · have h4' : decide ((400 : Int) < p.length) = true := decide_eq_true (by omega)
    go_enter Try.func10, Try.ntmps10
    go_wp2_with fail
    refine (points_any W).mono ?_
    rintro e w1 ⟨rfl, hb⟩
    have HB := Lib.hid hb; clear hb
    go_wp2_with fail
    refine (points_any w1).mono ?_
    rintro e w2 ⟨rfl, hb⟩
    have HB2 := Lib.hid hb; clear hb
    go_wp2_with fail
    go_ret
    exact ⟨rfl, HB.out.trans (HB2.out.mono HB.out.size)⟩
  · have h4' : decide ((400 : Int) < p.length) = false := decide_eq_false (by omega)
    have HL : Hid (p.length ≤ 400) := by show _ ≤ _; omega
    go_enter Try.func10, Try.ntmps10
    go_wp2_with fail
    refine (points_any W).mono ?_
    rintro e w1 ⟨rfl, hb⟩
    have HB := Lib.hid hb; clear hb
    go_wp2_with fail
    refine (reads_any A c p (by omega) HN.out hc w1 (HA.out.below HB.out)).mono ?_
    rintro e w2 ⟨rfl, hb⟩
    have HB2 := Lib.hid (HB.out.trans (hb.mono HB.out.size)); clear hb HB
    go_wp2_with fail
    refine (rtextb_any magic (by decide) w2).mono ?_
    rintro e w3 ⟨u, rfl, hu⟩
    obtain ⟨A3, c3, rfl, hA3, hN3, -, -⟩ := hu.src
    have HA3 := Lib.hid hA3; have HN3 := Lib.hid hN3; have HB3 := Lib.hid (HB2.out.trans (hu.below.mono HB2.out.size))
    clear hu hA3 hN3 HB2
    go_wp2_with fail
    refine (join_any A3 A c3 c (textB magic) p (by have := HL.out; have : (textB magic).length = 9 := rfl; omega) HN3.out HN.out w3 HA3.out (HA.out.below HB3.out)).mono ?_
    rintro e w4 ⟨u, rfl, hu⟩
    obtain ⟨A4, c4, rfl, hA4, hN4, hc4, -⟩ := hu.src
    have HA4 := Lib.hid hA4; have HN4 := Lib.hid hN4; have HB4 := Lib.hid (HB3.out.trans (hu.below.mono HB3.out.size))
    clear hu hA4 hN4 HB3
    have HC : Hid (Calls Try.prog 41 #[.slice A4 ((textB magic).length + p.length) c4] w4 fun e w' => e = .returned (.bool true) ∧ Below w4.heap.size w4 w') := by
      have := reads_any A4 c4 (textB magic ++ p) (by have := HL.out; have : (textB magic).length = 9 := rfl; rw [List.length_append]; omega) HN4.out hc4 w4 HA4.out
      rw [List.length_append] at this; exact this
    go_wp2_with fail
    refine HC.out.mono ?_
    rintro e w5 ⟨rfl, hb⟩
    have HB5 := Lib.hid (HB4.out.trans (hb.mono HB4.out.size)); clear hb HB4
    go_wp2_with fail
    go_ret
    exact ⟨rfl, HB5.out⟩
end Go.Proofs.Ytlehgacbcacokaa
