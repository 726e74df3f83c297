/- The walk of the law RealCanons. -/
import Derived.Test.YtgbnbbgiaaealaaDoorW7
namespace Go.Proofs.YtgbnbbgiaaealaaDoor
open Go.RowKit RealMath

set_option maxHeartbeats 1000000 in
theorem canons_walk (b : Nat) (hb : b < 18446744073709551616) (w : World) (ht : Tab w) :
    Calls Tryd.prog 3 #[.int .u64 b] w fun e w' => e = .returned (.bool true) ∧ Below w.heap.size w w' := by
  have c1 := of_any (b : Int)
  rw [Int.toNat_natCast] at c1
  have c2 := canon_any b hb
  have c14 := refbits_any b
  have c15 := bits_any b hb
  have c15c := bits_any (canonB b) (canonB_lt b hb)
  rw [canonB_canonB] at c15c
  have n1 : (FloatKind.f64.format.order b b != some Ordering.eq) = isNan b := ne_self b hb
  have n2 : isNan b = false → (FloatKind.f64.format.order (canonB b) b == some Ordering.eq) = true := canon_eq b hb
  have C1 := Lib.hid c1; have C2 := Lib.hid c2; have C14 := Lib.hid c14; have C15 := Lib.hid c15; have C15c := Lib.hid c15c
  have N2 := Lib.hid n2
  clear c1 c2 c14 c15 c15c n2 hb
  generalize canonB b = c at *
  cases hn : isNan b
  · rw [hn] at n1
    have n3 := N2.out hn
    have HN := Lib.hid hn; clear hn N2
    go_enter Tryd.func3, Tryd.ntmps3
    go_wp2_with fail
    refine (C1.out _).mono ?_
    rintro e w' ⟨rfl, rfl⟩
    go_wp2_with fail
    refine (C2.out _).mono ?_
    rintro e w' ⟨rfl, rfl⟩
    go_wp2_with fail
    refine (noughts_any w ht).mono ?_
    rintro e w1 ⟨rfl, hb1⟩
    go_wp2_with fail
    refine (C14.out _).mono ?_
    rintro e w' ⟨rfl, rfl⟩
    go_wp2_with fail
    refine (C15.out _).mono ?_
    rintro e w' ⟨rfl, rfl⟩
    go_wp2_with fail
    refine (C14.out _).mono ?_
    rintro e w' ⟨rfl, rfl⟩
    go_wp2_with fail
    refine (C15c.out _).mono ?_
    rintro e w' ⟨rfl, rfl⟩
    go_wp2_with fail
    refine (C15.out _).mono ?_
    rintro e w' ⟨rfl, rfl⟩
    go_wp2
    go_ret
    exact ⟨rfl, hb1⟩
  · rw [hn] at n1
    have HN := Lib.hid hn; clear hn N2
    go_enter Tryd.func3, Tryd.ntmps3
    go_wp2_with fail
    refine (C1.out _).mono ?_
    rintro e w' ⟨rfl, rfl⟩
    go_wp2_with fail
    refine (C2.out _).mono ?_
    rintro e w' ⟨rfl, rfl⟩
    go_wp2_with fail
    refine (noughts_any w ht).mono ?_
    rintro e w1 ⟨rfl, hb1⟩
    go_wp2_with fail
    refine (C14.out _).mono ?_
    rintro e w' ⟨rfl, rfl⟩
    go_wp2_with fail
    refine (C15.out _).mono ?_
    rintro e w' ⟨rfl, rfl⟩
    go_wp2_with fail
    refine (C14.out _).mono ?_
    rintro e w' ⟨rfl, rfl⟩
    go_wp2_with fail
    refine (C15c.out _).mono ?_
    rintro e w' ⟨rfl, rfl⟩
    go_wp2_with fail
    refine (C15.out _).mono ?_
    rintro e w' ⟨rfl, rfl⟩
    go_wp2
    go_ret
    exact ⟨rfl, hb1⟩
end Go.Proofs.YtgbnbbgiaaealaaDoor
