/- The contracts of Same, Less, Of, of the program and of the reference. -/
import Derived.Test.YtgbnbbgiaaealaaDoorW1
import Derived.Test.YtgbnbbgiaaealaaDoorOrder
namespace Go.Proofs.YtgbnbbgiaaealaaDoor
open Go.RowKit RealMath

theorem ret_bool {a b : Bool} (h : a = b) : Ending.returned (.bool a) = .returned (.bool b) := by rw [h]
theorem beq_cast (a b : Nat) : ((a : Int) == (b : Int)) = decide (a = b) := by
  by_cases h : a = b
  · subst h; simp
  · simp [h]; omega

set_option maxHeartbeats 400000 in
theorem same_any (x y : Nat) (hx : x < 18446744073709551616) (hy : y < 18446744073709551616) (w : World) :
    Calls Tryd.prog 18 #[.float .f64 x, .float .f64 y] w fun e w' => e = .returned (.bool (sameB x y)) ∧ w = w' := by
  have e : sameB x y = ((canonB x : Int) == (canonB y : Int)) := (beq_cast _ _).symm
  rw [e]
  clear e
  go_enter Tryd.func18, Tryd.ntmps18
  go_wp2_with (go_at_call 15; refine (bits_any _ (by assumption) _).mono ?_; rintro e w' ⟨rfl, rfl⟩)
  go_ret
  exact ⟨rfl, rfl⟩

set_option maxHeartbeats 400000 in
theorem less_any (x y : Nat) (hx : x < 18446744073709551616) (hy : y < 18446744073709551616) (w : World) :
    Calls Tryd.prog 19 #[.float .f64 x, .float .f64 y] w fun e w' => e = .returned (.bool (lessB x y)) ∧ w = w' := by
  cases h : isNan x
  · cases h2 : isNan y
    · have hl : (FloatKind.f64.format.order x y == some Ordering.lt) = lessB x y := lt_num hx hy h h2
      have C1 := Lib.hid (isnan_no x hx h); have C2 := Lib.hid (isnan_no y hy h2)
      clear h h2 hx hy
      generalize lessB x y = r at *
      go_enter Tryd.func19, Tryd.ntmps19
      go_wp2_with fail
      refine (C1.out _).mono ?_
      rintro e w' ⟨rfl, rfl⟩
      go_wp2_with fail
      refine (C2.out _).mono ?_
      rintro e w' ⟨rfl, rfl⟩
      go_wp2
      go_ret
      exact ⟨rfl, rfl⟩
    · rw [less_to_nan h h2]
      have C1 := Lib.hid (isnan_no x hx h); have C2 := Lib.hid (isnan_yes y hy h2)
      clear h h2 hx hy
      go_enter Tryd.func19, Tryd.ntmps19
      go_wp2_with fail
      refine (C1.out _).mono ?_
      rintro e w' ⟨rfl, rfl⟩
      go_wp2_with fail
      refine (C2.out _).mono ?_
      rintro e w' ⟨rfl, rfl⟩
      go_wp2
      go_ret
      exact ⟨rfl, rfl⟩
  · rw [less_nan y h]
    have C1 := Lib.hid (isnan_yes x hx h)
    clear h hx hy
    go_enter Tryd.func19, Tryd.ntmps19
    go_wp2_with fail
    refine (C1.out _).mono ?_
    rintro e w' ⟨rfl, rfl⟩
    go_wp2
    go_ret
    exact ⟨rfl, rfl⟩

set_option maxHeartbeats 400000 in
theorem key_any (b : Nat) (hb : b < 18446744073709551616) (w : World) :
    Calls Tryd.prog 29 #[.float .f64 b] w fun e w' => e = .returned (.int .u64 (rkey b)) ∧ w = w' := by
  have hl := canonB_lt b hb
  have hn : canonB b = NAN ↔ isNan b = true := by
    refine ⟨fun h => ?_, canonB_nan⟩
    rw [← isNan_canonB, h]; rfl
  have C := Lib.hid (refbits_any b)
  unfold rkey
  clear hb
  generalize canonB b = c at *
  have HN := Lib.hid hn; clear hn
  by_cases h1 : c = 9221120237041090561
  · rw [if_pos (HN.out.1 h1)]
    subst h1
    go_enter Tryd.func29, Tryd.ntmps29
    go_wp2_with (go_at_call 14; refine (C.out _).mono ?_; rintro e w' ⟨rfl, rfl⟩)
    go_ret
    exact ⟨rfl, rfl⟩
  · rw [if_neg (fun h => h1 (HN.out.2 h))]
    have hne : ((c : Int) == 9221120237041090561) = false := beq_eq_false_iff_ne.2 (by omega)
    have HL := Lib.hid hl
    clear hl h1
    generalize hr : ((if SW ≤ c then 18446744073709551615 - c else c + SW : Nat) : Int) = r
    have HR := Lib.hid hr; clear hr
    by_cases h : SW ≤ c
    · have h2 : (decide ((9223372036854775808 : Int) ≤ c)) = true := decide_eq_true (by unfold SW at h; omega)
      have hr : IntKind.u64.wrap (18446744073709551615 - (c : Int)) = r := by rw [IntKind.wrap_u64, ← HR.out, if_pos h]; have := HL.out; unfold SW at h; omega
      have HR2 := Lib.hid hr; clear hr h
      go_enter Tryd.func29, Tryd.ntmps29
      go_wp2_with fail
      refine (C.out _).mono ?_
      rintro e w' ⟨rfl, rfl⟩
      go_wp2_with fail
      go_ret
      exact ⟨ret_int HR2.out, rfl⟩
    · have h2 : (decide ((9223372036854775808 : Int) ≤ c)) = false := decide_eq_false (by unfold SW at h; omega)
      have hr : IntKind.u64.wrap ((c : Int) + 9223372036854775808) = r := by rw [IntKind.wrap_u64, ← HR.out, if_neg h]; have := HL.out; unfold SW at h ⊢; omega
      have HR2 := Lib.hid hr; clear hr h
      go_enter Tryd.func29, Tryd.ntmps29
      go_wp2_with fail
      refine (C.out _).mono ?_
      rintro e w' ⟨rfl, rfl⟩
      go_wp2_with fail
      go_ret
      exact ⟨ret_int HR2.out, rfl⟩

set_option maxHeartbeats 400000 in
theorem refless_any (x y : Nat) (hx : x < 18446744073709551616) (hy : y < 18446744073709551616) (w : World) :
    Calls Tryd.prog 20 #[.float .f64 x, .float .f64 y] w fun e w' => e = .returned (.bool (lessB x y)) ∧ w = w' := by
  rw [← rkey_lt x y hx hy]
  have C1 := Lib.hid (key_any x hx); have C2 := Lib.hid (key_any y hy)
  clear hx hy
  generalize rkey x = a at *
  generalize rkey y = b at *
  go_enter Tryd.func20, Tryd.ntmps20
  go_wp2_with fail
  refine (C1.out _).mono ?_
  rintro e w' ⟨rfl, rfl⟩
  go_wp2_with fail
  refine (C2.out _).mono ?_
  rintro e w' ⟨rfl, rfl⟩
  go_wp2
  go_ret
  exact ⟨ret_bool (by simp), rfl⟩

/-- are these a number's own bits? -/
theorem of_yes (b : Nat) (hb : b < 18446744073709551616) (h : canonB b = b) (w : World) :
    Calls Tryd.prog 16 #[.int .u64 b] w fun e w' => e = .returned (.tuple #[.float .f64 b, .int .i64 0]) ∧ w = w' := by
  have C := Lib.hid (bits_any b hb)
  rw [h] at C
  clear h hb
  go_enter Tryd.func16, Tryd.ntmps16
  go_wp2_with (go_at_call 15; refine (C.out _).mono ?_; rintro e w' ⟨rfl, rfl⟩)
  go_ret2
  exact ⟨rfl, rfl⟩
theorem of_no (b : Nat) (hb : b < 18446744073709551616) (h : canonB b ≠ b) (w : World) :
    Calls Tryd.prog 16 #[.int .u64 b] w fun e w' => e = .returned (.tuple #[.float .f64 0, .int .i64 2]) ∧ w = w' := by
  have C := Lib.hid (bits_any b hb)
  have hne : ((canonB b : Int) != (b : Int)) = true := by rw [bne_iff_ne]; omega
  clear h hb
  generalize canonB b = c at *
  go_enter Tryd.func16, Tryd.ntmps16
  go_wp2_with (go_at_call 15; refine (C.out _).mono ?_; rintro e w' ⟨rfl, rfl⟩)
  go_ret2
  exact ⟨rfl, rfl⟩
theorem refof_yes (b : Nat) (h : canonB b = b) (w : World) :
    Calls Tryd.prog 17 #[.int .u64 b] w fun e w' => e = .returned (.tuple #[.float .f64 b, .int .i64 0]) ∧ w = w' := by
  have h1 : b ≠ SW := by intro hc; exact canon_ne_sw b (h.trans hc)
  have e3 : ((b : Int) == 9223372036854775808) = false := beq_eq_false_iff_ne.2 (by unfold SW at h1; omega)
  by_cases hn : isNan b = true
  · have hb : b = NAN := by rw [← h]; exact canonB_nan hn
    have e1 : (decide ((9218868437227405312 : Int) < (b : Int) % 9223372036854775808)) = true := decide_eq_true (by have := (isNan_iff b).1 hn; omega)
    have e2 : ((b : Int) != 9221120237041090561) = false := by rw [hb]; rfl
    clear h h1 hn hb
    go_enter Tryd.func17, Tryd.ntmps17
    go_wp2
    go_ret2
    exact ⟨rfl, rfl⟩
  · have e1 : (decide ((9218868437227405312 : Int) < (b : Int) % 9223372036854775808)) = false := decide_eq_false (by intro hc; exact hn ((isNan_iff b).2 (by omega)))
    clear h h1 hn
    go_enter Tryd.func17, Tryd.ntmps17
    go_wp2
    go_ret2
    exact ⟨rfl, rfl⟩
theorem refof_no (b : Nat) (h : canonB b ≠ b) (w : World) :
    Calls Tryd.prog 17 #[.int .u64 b] w fun e w' => e = .returned (.tuple #[.float .f64 0, .int .i64 2]) ∧ w = w' := by
  by_cases hn : isNan b = true
  · have hb : b ≠ NAN := by rintro hc; exact h (by rw [canonB_nan hn, hc])
    have e1 : (decide ((9218868437227405312 : Int) < (b : Int) % 9223372036854775808)) = true := decide_eq_true (by have := (isNan_iff b).1 hn; omega)
    have e2 : ((b : Int) != 9221120237041090561) = true := by rw [bne_iff_ne]; unfold NAN at hb; omega
    clear h hn hb
    go_enter Tryd.func17, Tryd.ntmps17
    go_wp2
    go_ret2
    exact ⟨rfl, rfl⟩
  · have h1 : b = SW := by
      by_cases hc : b = SW
      · exact hc
      · exact absurd (canonB_num (by simpa using hn) hc) h
    have e1 : (decide ((9218868437227405312 : Int) < (b : Int) % 9223372036854775808)) = false := decide_eq_false (by intro hc; exact hn ((isNan_iff b).2 (by omega)))
    have e3 : ((b : Int) == 9223372036854775808) = true := by rw [h1]; rfl
    clear h h1 hn
    go_enter Tryd.func17, Tryd.ntmps17
    go_wp2
    go_ret2
    exact ⟨rfl, rfl⟩
end Go.Proofs.YtgbnbbgiaaealaaDoor
