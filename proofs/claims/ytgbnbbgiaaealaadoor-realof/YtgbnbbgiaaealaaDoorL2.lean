/- The walk of the law RealOf. -/
import Derived.Test.YtgbnbbgiaaealaaDoorW7
import Derived.Test.YtgbnbbgiaaealaaDoorW8
namespace Go.Proofs.YtgbnbbgiaaealaaDoor
open Go.RowKit RealMath

set_option maxHeartbeats 1000000 in
theorem of_walk (b : Nat) (hb : b < 18446744073709551616) (w : World) (ht : Tab w) :
    Calls Tryd.prog 4 #[.int .u64 b] w fun e w' => e = .returned (.bool true) ∧ Below w.heap.size w w' := by
  have c1 := of_any (b : Int)
  rw [Int.toNat_natCast] at c1
  have c15 := bits_any b hb
  have cz := of_yes (canonB b) (canonB_lt b hb) (canonB_canonB b)
  have cs := same_any (canonB b) b (canonB_lt b hb) hb
  rw [show sameB (canonB b) b = true by unfold sameB; rw [canonB_canonB]; simp] at cs
  have C1 := Lib.hid c1; have C15 := Lib.hid c15; have CZ := Lib.hid cz; have CS := Lib.hid cs
  clear c1 c15 cz cs
  by_cases h : canonB b = b
  · have CA := Lib.hid (of_yes b hb h); have CB := Lib.hid (refof_yes b h)
    rw [h] at C15 CS
    clear h hb CZ
    go_enter Tryd.func4, Tryd.ntmps4
    go_wp2_with fail
    refine (CA.out _).mono ?_
    rintro e w' ⟨rfl, rfl⟩
    go_wp2_with fail
    refine (CB.out _).mono ?_
    rintro e w' ⟨rfl, rfl⟩
    go_wp2_with fail
    refine (C1.out _).mono ?_
    rintro e w' ⟨rfl, rfl⟩
    go_wp2_with fail
    refine (C15.out _).mono ?_
    rintro e w' ⟨rfl, rfl⟩
    go_wp2_with fail
    refine (CA.out _).mono ?_
    rintro e w' ⟨rfl, rfl⟩
    go_wp2_with fail
    refine (noughts_any w ht).mono ?_
    rintro e w1 ⟨rfl, hb1⟩
    go_wp2_with fail
    refine (C1.out _).mono ?_
    rintro e w' ⟨rfl, rfl⟩
    go_wp2_with fail
    refine (CS.out _).mono ?_
    rintro e w' ⟨rfl, rfl⟩
    go_wp2_with fail
    refine (C15.out _).mono ?_
    rintro e w' ⟨rfl, rfl⟩
    go_wp2
    go_ret
    exact ⟨rfl, hb1⟩
  · have CA := Lib.hid (of_no b hb h); have CB := Lib.hid (refof_no b h)
    clear h hb
    generalize canonB b = c at *
    go_enter Tryd.func4, Tryd.ntmps4
    go_wp2_with fail
    refine (CA.out _).mono ?_
    rintro e w' ⟨rfl, rfl⟩
    go_wp2_with fail
    refine (CB.out _).mono ?_
    rintro e w' ⟨rfl, rfl⟩
    go_wp2_with fail
    refine (C1.out _).mono ?_
    rintro e w' ⟨rfl, rfl⟩
    go_wp2_with fail
    refine (C15.out _).mono ?_
    rintro e w' ⟨rfl, rfl⟩
    go_wp2_with fail
    refine (CZ.out _).mono ?_
    rintro e w' ⟨rfl, rfl⟩
    go_wp2_with fail
    refine (noughts_any w ht).mono ?_
    rintro e w1 ⟨rfl, hb1⟩
    go_wp2_with fail
    refine (C1.out _).mono ?_
    rintro e w' ⟨rfl, rfl⟩
    go_wp2_with fail
    refine (CS.out _).mono ?_
    rintro e w' ⟨rfl, rfl⟩
    go_wp2
    go_ret
    exact ⟨rfl, hb1⟩
end Go.Proofs.YtgbnbbgiaaealaaDoor
