/- The walk of the law RealOrder. -/
import Derived.Test.YtgbnbbgiaaealaaDoorW7
import Derived.Test.YtgbnbbgiaaealaaDoorW8
namespace Go.Proofs.YtgbnbbgiaaealaaDoor
open Go.RowKit RealMath

set_option maxHeartbeats 4000000 in
theorem order_walk (a b c : Nat) (ha : a < 18446744073709551616) (hb : b < 18446744073709551616) (hc : c < 18446744073709551616) (w : World) (ht : Tab w) :
    Calls Tryd.prog 5 #[.int .u64 a, .int .u64 b, .int .u64 c] w fun e w' => e = .returned (.bool true) ∧ Below w.heap.size w w' := by
  have cof : ∀ n : Nat, ∀ w, Calls Tryd.prog 10 #[.int .u64 n] w fun e w' => e = .returned (.float .f64 n) ∧ w = w' := fun n => by
    have := of_any (n : Int)
    rw [Int.toNat_natCast] at this
    exact this
  have COF := Lib.hid cof; clear cof
  have n1 : (FloatKind.f64.format.order a a == some Ordering.eq) = !isNan a := eq_self a ha
  have lxx := less_irr a
  have hs := same_iff a b ha hb
  have hasym := @less_asym a b
  have htr := @less_trans a b c
  have hna : isNan a = true → lessB a b = false := fun h => less_nan b h
  have A1 := Lib.hid hasym; have A2 := Lib.hid htr; have A3 := Lib.hid hna; have N1 := Lib.hid n1
  clear hasym htr hna n1
  have key : ∀ (l1 l2 l3 l4 nn : Bool), lessB a b = l1 → lessB b a = l2 → lessB b c = l3 → lessB a c = l4 → isNan a = nn → (l1 = true → l2 = false) → (l1 = true → l3 = true → l4 = true) → (nn = true → l1 = false) →
      Calls Tryd.prog 5 #[.int .u64 a, .int .u64 b, .int .u64 c] w fun e w' => e = .returned (.bool true) ∧ Below w.heap.size w w' := by
    intro l1 l2 l3 l4 nn e1 e2 e3 e4 e5 g1 g2 g3
    have n1 := N1.out
    rw [e5] at n1
    rw [e1, e2] at hs
    clear e5 A1 A2 A3 N1
    cases l1 <;> cases l2 <;> cases l3 <;> cases l4 <;> cases nn <;> simp only [Bool.not_true, Bool.not_false, Bool.and_self, Bool.and_true, Bool.and_false] at hs n1 <;> first | (exfalso; simp at g1 g2 g3; done) | skip
    all_goals
      clear g1 g2 g3
      go_enter Tryd.func5, Tryd.ntmps5
      go_wp2_with (first
        | (go_at_call 10; refine (COF.out _ _).mono ?_; rintro e w' ⟨rfl, rfl⟩)
        | (go_at_call 19; refine (less_any _ _ (by assumption) (by assumption) _).mono ?_; rintro e w' ⟨rfl, rfl⟩)
        | (go_at_call 20; refine (refless_any _ _ (by assumption) (by assumption) _).mono ?_; rintro e w' ⟨rfl, rfl⟩)
        | (go_at_call 18; refine (same_any _ _ (by assumption) (by assumption) _).mono ?_; rintro e w' ⟨rfl, rfl⟩)
        | (go_at_call 12; refine (noughts_any _ ht).mono ?_; rintro e w1 ⟨rfl, hb1⟩))
      go_ret
      exact ⟨rfl, hb1⟩
  exact key _ _ _ _ _ rfl rfl rfl rfl rfl A1.out A2.out A3.out
end Go.Proofs.YtgbnbbgiaaealaaDoor
