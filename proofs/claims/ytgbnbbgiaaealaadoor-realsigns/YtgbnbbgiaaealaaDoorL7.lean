/- The walk of the law RealSigns. -/
import Derived.Test.YtgbnbbgiaaealaaDoorW5
import Derived.Test.YtgbnbbgiaaealaaDoorW7
import Derived.Test.YtgbnbbgiaaealaaDoorW8
namespace Go.Proofs.YtgbnbbgiaaealaaDoor
open Go.RowKit RealMath

set_option maxHeartbeats 4000000 in
theorem signs_walk (a b : Nat) (ha : a < 18446744073709551616) (hb : b < 18446744073709551616) (w : World) (ht : Tab w) :
    Calls Tryd.prog 9 #[.int .u64 a, .int .u64 b] w fun e w' => e = .returned (.bool true) ∧ Below w.heap.size w w' := by
  have cof : ∀ n : Nat, ∀ w, Calls Tryd.prog 10 #[.int .u64 n] w fun e w' => e = .returned (.float .f64 n) ∧ w = w' := fun n => by
    have := of_any (n : Int)
    rw [Int.toNat_natCast] at this
    exact this
  have COF := Lib.hid cof; clear cof
  have e1 : (FloatKind.f64.format.order a a == some Ordering.eq) = !isNan a := eq_self a ha
  have e2 : (FloatKind.f64.format.order a a != some Ordering.eq) = isNan a := ne_self a ha
  have e3 : (FloatKind.f64.format.order b b != some Ordering.eq) = isNan b := ne_self b hb
  have u1 := unary_negf a ha
  have u2 := unary_negf b hb
  have na := negB_lt a ha
  have nb := negB_lt b hb
  cases h1 : isNan a
  · cases h2 : isNan b
    · have s1 := less_neg ha hb h1 h2
      have s2 : sameB a (negB a) = (FloatKind.f64.format.order a 0 == some Ordering.eq) := same_neg ha h1
      rw [h1] at e1 e2
      rw [h2] at e3
      simp only [Bool.not_false] at e1
      clear h1 h2
      generalize negB a = a' at *
      generalize negB b = b' at *
      generalize hl : lessB a b = l at *
      generalize hz : (FloatKind.f64.format.order a 0 == some Ordering.eq) = z at *
      go_enter Tryd.func9, Tryd.ntmps9
      go_wp2_with (first
        | (go_at_call 10; refine (COF.out _ _).mono ?_; rintro e w' ⟨rfl, rfl⟩)
        | (go_at_call 19; refine (less_any _ _ (by assumption) (by assumption) _).mono ?_; rintro e w' ⟨rfl, rfl⟩)
        | (go_at_call 18; refine (same_any _ _ (by assumption) (by assumption) _).mono ?_; rintro e w' ⟨rfl, rfl⟩)
        | (go_at_call 12; refine (noughts_any _ ht).mono ?_; rintro e w1 ⟨rfl, hb1⟩))
      go_ret
      exact ⟨rfl, hb1⟩
    · rw [h1] at e1 e2
      rw [h2] at e3
      simp only [Bool.not_false] at e1
      clear h1 h2
      generalize negB a = a' at *
      generalize negB b = b' at *
      go_enter Tryd.func9, Tryd.ntmps9
      go_wp2_with (first
        | (go_at_call 10; refine (COF.out _ _).mono ?_; rintro e w' ⟨rfl, rfl⟩)
        | (go_at_call 12; refine (noughts_any _ ht).mono ?_; rintro e w1 ⟨rfl, hb1⟩))
      go_ret
      exact ⟨rfl, hb1⟩
  · have s2 := same_neg_nan ha h1
    rw [h1] at e1 e2
    simp only [Bool.not_true] at e1
    clear h1
    generalize negB a = a' at *
    generalize negB b = b' at *
    go_enter Tryd.func9, Tryd.ntmps9
    go_wp2_with (first
      | (go_at_call 10; refine (COF.out _ _).mono ?_; rintro e w' ⟨rfl, rfl⟩)
      | (go_at_call 18; refine (same_any _ _ (by assumption) (by assumption) _).mono ?_; rintro e w' ⟨rfl, rfl⟩)
      | (go_at_call 12; refine (noughts_any _ ht).mono ?_; rintro e w1 ⟨rfl, hb1⟩))
    go_ret
    exact ⟨rfl, hb1⟩
end Go.Proofs.YtgbnbbgiaaealaaDoor
