/- The contracts of layer 1's leaves here: IsNaN, Canon, Bits, Same of the program, Bits of the reference. -/
import Derived.Test.YtlehgacbcacokaaK1
namespace Go.Proofs.Ytlehgacbcacokaa
open Go.RowKit RealMath TreeMath

theorem run_frombits (n : Int) (w : World) : (callFunc 28 #[.int .u64 n]).run Try.prog w = .ok (.value (.float .f64 n.toNat)) w := by
  rw [run_callFunc_extern Try.func28 (by kernel_rfl) (by kernel_rfl) (by kernel_rfl) (e := Extern.MathFloatBits.float64frombits) (by kernel_rfl)]
  rfl
theorem run_bits (b : Nat) (w : World) : (callFunc 32 #[.float .f64 b]).run Try.prog w = .ok (.value (.int .u64 b)) w := by
  rw [run_callFunc_extern Try.func32 (by kernel_rfl) (by kernel_rfl) (by kernel_rfl) (e := Extern.MathFloatBits.float64bits) (by kernel_rfl)]
  rfl
attribute [go_sem] run_frombits run_bits

set_option maxHeartbeats 400000 in
theorem isnan_raw (b : Nat) (w : World) :
    Calls Try.prog 89 #[.float .f64 b] w fun e w' => e = .returned (.bool (Ieee.double.order b b != some .eq)) ∧ w = w' := by
  go_enter Try.func89, Try.ntmps89
  go_wp2
  go_ret
  exact ⟨rfl, rfl⟩

theorem isnan_any (b : Nat) (hb : b < 18446744073709551616) (w : World) :
    Calls Try.prog 89 #[.float .f64 b] w fun e w' => e = .returned (.bool (isNan b)) ∧ w = w' :=
  (isnan_raw b w).mono fun _ _ ⟨he, hw⟩ => ⟨by rw [he, ne_self b hb], hw⟩
theorem isnan_yes (b : Nat) (hb : b < 18446744073709551616) (h : isNan b = true) (w : World) :
    Calls Try.prog 89 #[.float .f64 b] w fun e w' => e = .returned (.bool true) ∧ w = w' :=
  (isnan_any b hb w).mono fun _ _ ⟨he, hw⟩ => ⟨by rw [he, h], hw⟩
theorem isnan_no (b : Nat) (hb : b < 18446744073709551616) (h : isNan b = false) (w : World) :
    Calls Try.prog 89 #[.float .f64 b] w fun e w' => e = .returned (.bool false) ∧ w = w' :=
  (isnan_any b hb w).mono fun _ _ ⟨he, hw⟩ => ⟨by rw [he, h], hw⟩

set_option maxHeartbeats 400000 in
theorem canon_nan (b : Nat) (hb : b < 18446744073709551616) (h : isNan b = true) (w : World) :
    Calls Try.prog 62 #[.float .f64 b] w fun e w' => e = .returned (.float .f64 NAN) ∧ w = w' := by
  have H := Lib.hid h; clear h
  go_enter Try.func62, Try.ntmps62
  go_wp2_with (go_at_call 89; refine (isnan_yes b hb H.out _).mono ?_; rintro e w' ⟨rfl, rfl⟩)
  go_ret
  exact ⟨rfl, rfl⟩
set_option maxHeartbeats 400000 in
theorem canon_zero (b : Nat) (hb : b < 18446744073709551616) (h : isNan b = false) (hz : (FloatKind.f64.format.order b 0 == some Ordering.eq) = true) (w : World) :
    Calls Try.prog 62 #[.float .f64 b] w fun e w' => e = .returned (.float .f64 0) ∧ w = w' := by
  have H := Lib.hid h; clear h
  go_enter Try.func62, Try.ntmps62
  go_wp2_with (go_at_call 89; refine (isnan_no b hb H.out _).mono ?_; rintro e w' ⟨rfl, rfl⟩)
  go_ret
  exact ⟨rfl, rfl⟩
set_option maxHeartbeats 400000 in
theorem canon_num (b : Nat) (hb : b < 18446744073709551616) (h : isNan b = false) (hz : (FloatKind.f64.format.order b 0 == some Ordering.eq) = false) (w : World) :
    Calls Try.prog 62 #[.float .f64 b] w fun e w' => e = .returned (.float .f64 b) ∧ w = w' := by
  have H := Lib.hid h; clear h
  go_enter Try.func62, Try.ntmps62
  go_wp2_with (go_at_call 89; refine (isnan_no b hb H.out _).mono ?_; rintro e w' ⟨rfl, rfl⟩)
  go_ret
  exact ⟨rfl, rfl⟩
theorem canon_any (b : Nat) (hb : b < 18446744073709551616) (w : World) :
    Calls Try.prog 62 #[.float .f64 b] w fun e w' => e = .returned (.float .f64 (canonB b)) ∧ w = w' := by
  by_cases h : isNan b = true
  · rw [canonB_nan h]; exact canon_nan b hb h w
  · have h' : isNan b = false := by simpa using h
    by_cases h0 : b = 0
    · rw [show canonB b = 0 by rw [h0]; decide]
      exact canon_zero b hb h' (zero_yes b (Or.inl h0)) w
    · by_cases h1 : b = SW
      · rw [show canonB b = 0 by rw [h1]; decide]
        exact canon_zero b hb h' (zero_yes b (Or.inr h1)) w
      · rw [canonB_num h' h1]
        exact canon_num b hb h' (zero_no b hb h0 h1) w
set_option maxHeartbeats 400000 in
theorem bits_any (b : Nat) (hb : b < 18446744073709551616) (w : World) :
    Calls Try.prog 85 #[.float .f64 b] w fun e w' => e = .returned (.int .u64 (canonB b)) ∧ w = w' := by
  go_enter Try.func85, Try.ntmps85
  go_wp2_with (go_at_call 62; refine (canon_any b hb _).mono ?_; rintro e w' ⟨rfl, rfl⟩)
  go_ret
  exact ⟨rfl, rfl⟩
set_option maxHeartbeats 400000 in
theorem refbits_any (b : Nat) (w : World) :
    Calls Try.prog 33 #[.float .f64 b] w fun e w' => e = .returned (.int .u64 (canonB b)) ∧ w = w' := by
  go_enter Try.func33, Try.ntmps33
  go_wp2
  all_goals go_ret
  · exact ⟨ret_int (ref_nan ‹_›), rfl⟩
  · exact ⟨ret_int (ref_zero ‹_›), rfl⟩
  · exact ⟨ret_int (ref_num ‹_› ‹_›), rfl⟩
theorem nat_eq_int (a b : Nat) : ((a : Int) == (b : Int)) = decide (a = b) := by
  by_cases h : a = b
  · simp [h]
  · rw [decide_eq_false h, beq_eq_false_iff_ne]; omega
set_option maxHeartbeats 400000 in
theorem rsame_any (a b : Nat) (ha : a < 18446744073709551616) (hb : b < 18446744073709551616) (w : World) :
    Calls Try.prog 56 #[.float .f64 a, .float .f64 b] w fun e w' => e = .returned (.bool (decide (canonB a = canonB b))) ∧ w = w' := by
  go_enter Try.func56, Try.ntmps56
  go_wp2_with fail
  refine (bits_any a ha w).mono ?_
  rintro e w' ⟨rfl, rfl⟩
  go_wp2_with fail
  refine (bits_any b hb w).mono ?_
  rintro e w' ⟨rfl, rfl⟩
  go_wp2_with fail
  go_ret
  exact ⟨by rw [nat_eq_int]; rfl, rfl⟩
end Go.Proofs.Ytlehgacbcacokaa
