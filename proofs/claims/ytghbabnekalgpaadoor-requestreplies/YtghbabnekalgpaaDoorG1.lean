/- The contracts of layer 1's leaves here: IsNaN, Canon, Bits, Of, Same of the program, Bits and Of of the reference. -/
import Derived.Test.YtghbabnekalgpaaDoorB1
import Derived.Test.YtghbabnekalgpaaDoorRMath
namespace Go.Proofs.YtghbabnekalgpaaDoor
open Go.RowKit RealMath

def ofOk (x : Nat) : Bool := decide (canonB x = x)
set_option maxRecDepth 100000 in
theorem run_frombits (n : Int) (w : World) : (callFunc 23 #[.int .u64 n]).run Tryd.prog w = .ok (.value (.float .f64 n.toNat)) w := by
  rw [run_callFunc_extern Tryd.func23 (by kernel_rfl) (by kernel_rfl) (by kernel_rfl) (e := Extern.MathFloatBits.float64frombits) (by kernel_rfl)]
  rfl
set_option maxRecDepth 100000 in
theorem run_bits (b : Nat) (w : World) : (callFunc 92 #[.float .f64 b]).run Tryd.prog w = .ok (.value (.int .u64 b)) w := by
  rw [run_callFunc_extern Tryd.func92 (by kernel_rfl) (by kernel_rfl) (by kernel_rfl) (e := Extern.MathFloatBits.float64bits) (by kernel_rfl)]
  rfl
attribute [go_sem] run_frombits run_bits

set_option maxRecDepth 100000 in
set_option maxHeartbeats 400000 in
theorem isnan_raw (b : Nat) (w : World) :
    Calls Tryd.prog 105 #[.float .f64 b] w fun e w' => e = .returned (.bool (Ieee.double.order b b != some .eq)) ∧ w = w' := by
  go_enter Tryd.func105, Tryd.ntmps105
  go_wp2
  go_ret
  exact ⟨rfl, rfl⟩

set_option maxRecDepth 100000 in
theorem isnan_any (b : Nat) (hb : b < 18446744073709551616) (w : World) :
    Calls Tryd.prog 105 #[.float .f64 b] w fun e w' => e = .returned (.bool (isNan b)) ∧ w = w' :=
  (isnan_raw b w).mono fun _ _ ⟨he, hw⟩ => ⟨by rw [he, ne_self b hb], hw⟩
set_option maxRecDepth 100000 in
theorem isnan_yes (b : Nat) (hb : b < 18446744073709551616) (h : isNan b = true) (w : World) :
    Calls Tryd.prog 105 #[.float .f64 b] w fun e w' => e = .returned (.bool true) ∧ w = w' :=
  (isnan_any b hb w).mono fun _ _ ⟨he, hw⟩ => ⟨by rw [he, h], hw⟩
set_option maxRecDepth 100000 in
theorem isnan_no (b : Nat) (hb : b < 18446744073709551616) (h : isNan b = false) (w : World) :
    Calls Tryd.prog 105 #[.float .f64 b] w fun e w' => e = .returned (.bool false) ∧ w = w' :=
  (isnan_any b hb w).mono fun _ _ ⟨he, hw⟩ => ⟨by rw [he, h], hw⟩

set_option maxRecDepth 100000 in
set_option maxHeartbeats 400000 in
theorem canon_nan (b : Nat) (hb : b < 18446744073709551616) (h : isNan b = true) (w : World) :
    Calls Tryd.prog 93 #[.float .f64 b] w fun e w' => e = .returned (.float .f64 NAN) ∧ w = w' := by
  have H := Lib.hid h; clear h
  go_enter Tryd.func93, Tryd.ntmps93
  go_wp2_with (go_at_call 105; refine (isnan_yes b hb H.out _).mono ?_; rintro e w' ⟨rfl, rfl⟩)
  go_ret
  exact ⟨rfl, rfl⟩
set_option maxRecDepth 100000 in
set_option maxHeartbeats 400000 in
theorem canon_zero (b : Nat) (hb : b < 18446744073709551616) (h : isNan b = false) (hz : (FloatKind.f64.format.order b 0 == some Ordering.eq) = true) (w : World) :
    Calls Tryd.prog 93 #[.float .f64 b] w fun e w' => e = .returned (.float .f64 0) ∧ w = w' := by
  have H := Lib.hid h; clear h
  go_enter Tryd.func93, Tryd.ntmps93
  go_wp2_with (go_at_call 105; refine (isnan_no b hb H.out _).mono ?_; rintro e w' ⟨rfl, rfl⟩)
  go_ret
  exact ⟨rfl, rfl⟩
set_option maxRecDepth 100000 in
set_option maxHeartbeats 400000 in
theorem canon_num (b : Nat) (hb : b < 18446744073709551616) (h : isNan b = false) (hz : (FloatKind.f64.format.order b 0 == some Ordering.eq) = false) (w : World) :
    Calls Tryd.prog 93 #[.float .f64 b] w fun e w' => e = .returned (.float .f64 b) ∧ w = w' := by
  have H := Lib.hid h; clear h
  go_enter Tryd.func93, Tryd.ntmps93
  go_wp2_with (go_at_call 105; refine (isnan_no b hb H.out _).mono ?_; rintro e w' ⟨rfl, rfl⟩)
  go_ret
  exact ⟨rfl, rfl⟩
set_option maxRecDepth 100000 in
theorem canon_any (b : Nat) (hb : b < 18446744073709551616) (w : World) :
    Calls Tryd.prog 93 #[.float .f64 b] w fun e w' => e = .returned (.float .f64 (canonB b)) ∧ w = w' := by
  by_cases h : isNan b = true
  · rw [canonB_nan h]; exact canon_nan b hb h w
  · have h' : isNan b = false := by simpa using h
    by_cases h0 : b = 0
    · rw [show canonB b = 0 by rw [h0]; decide]
      exact canon_zero b hb h' (zero_yes b (Or.inl h0)) w
    · by_cases h1 : b = SW
      · rw [show canonB b = 0 by rw [h1]; decide]
        exact canon_zero b hb h' (zero_yes b (Or.inr h1)) w
      · rw [canonB_num h' h1]
        exact canon_num b hb h' (zero_no b hb h0 h1) w
set_option maxRecDepth 100000 in
set_option maxHeartbeats 400000 in
theorem bits_any (b : Nat) (hb : b < 18446744073709551616) (w : World) :
    Calls Tryd.prog 60 #[.float .f64 b] w fun e w' => e = .returned (.int .u64 (canonB b)) ∧ w = w' := by
  go_enter Tryd.func60, Tryd.ntmps60
  go_wp2_with (go_at_call 93; refine (canon_any b hb _).mono ?_; rintro e w' ⟨rfl, rfl⟩)
  go_ret
  exact ⟨rfl, rfl⟩
set_option maxRecDepth 100000 in
set_option maxHeartbeats 400000 in
theorem refbits_any (b : Nat) (w : World) :
    Calls Tryd.prog 67 #[.float .f64 b] w fun e w' => e = .returned (.int .u64 (canonB b)) ∧ w = w' := by
  go_enter Tryd.func67, Tryd.ntmps67
  go_wp2
  all_goals go_ret
  · exact ⟨ret_int (ref_nan ‹_›), rfl⟩
  · exact ⟨ret_int (ref_zero ‹_›), rfl⟩
  · exact ⟨ret_int (ref_num ‹_› ‹_›), rfl⟩
set_option maxRecDepth 100000 in
theorem nat_eq_int (a b : Nat) : ((a : Int) == (b : Int)) = decide (a = b) := by
  by_cases h : a = b
  · simp [h]
  · rw [decide_eq_false h, beq_eq_false_iff_ne]; omega
set_option maxRecDepth 100000 in
set_option maxHeartbeats 400000 in
theorem rsame_any (a b : Nat) (ha : a < 18446744073709551616) (hb : b < 18446744073709551616) (w : World) :
    Calls Tryd.prog 68 #[.float .f64 a, .float .f64 b] w fun e w' => e = .returned (.bool (decide (canonB a = canonB b))) ∧ w = w' := by
  go_enter Tryd.func68, Tryd.ntmps68
  go_wp2_with fail
  refine (bits_any a ha w).mono ?_
  rintro e w' ⟨rfl, rfl⟩
  go_wp2_with fail
  refine (bits_any b hb w).mono ?_
  rintro e w' ⟨rfl, rfl⟩
  go_wp2_with fail
  go_ret
  exact ⟨by rw [nat_eq_int]; rfl, rfl⟩
/-- a number of bits, and its error -/
def ofV (x : Nat) : Nat := if ofOk x then x else 0
def ofE (x : Nat) : Int := if ofOk x then 0 else 2
set_option maxRecDepth 100000 in
theorem ofOk_yes {x : Nat} (h : canonB x = x) : ofOk x = true := decide_eq_true h
set_option maxRecDepth 100000 in
theorem ofOk_no {x : Nat} (h : canonB x ≠ x) : ofOk x = false := decide_eq_false h
set_option maxRecDepth 100000 in
set_option maxHeartbeats 1000000 in
theorem of_any (x : Nat) (hx : x < 18446744073709551616) (w : World) :
    Calls Tryd.prog 63 #[.int .u64 x] w fun e w' => e = .returned (.tuple #[.float .f64 (ofV x), .int .i64 (ofE x)]) ∧ w = w' := by
  have hfb := fun w => run_frombits (x : Int) w
  have HX := Lib.hid hx
  by_cases h : canonB x = x
  · have h1 : ((canonB x : Int) != (x : Int)) = false := by rw [h]; simp
    have HE : Hid (ofV x = x ∧ ofE x = 0) := by refine (?_ : _ ∧ _); unfold ofV ofE; rw [ofOk_yes h]; exact ⟨rfl, rfl⟩
    clear h
    go_enter Tryd.func63, Tryd.ntmps63
    go_wp2_with fail
    refine (bits_any x HX.out w).mono ?_
    rintro e w1 ⟨rfl, rfl⟩
    go_wp2_with fail
    go_ret2
    rw [HE.out.1, HE.out.2]; exact ⟨rfl, rfl⟩
  · have h1 : ((canonB x : Int) != (x : Int)) = true := by rw [bne_iff_ne]; omega
    have HE : Hid (ofV x = 0 ∧ ofE x = 2) := by refine (?_ : _ ∧ _); unfold ofV ofE; rw [ofOk_no h]; exact ⟨rfl, rfl⟩
    clear h
    go_enter Tryd.func63, Tryd.ntmps63
    go_wp2_with fail
    refine (bits_any x HX.out w).mono ?_
    rintro e w1 ⟨rfl, rfl⟩
    go_wp2_with fail
    go_ret2
    rw [HE.out.1, HE.out.2]; exact ⟨rfl, rfl⟩
set_option maxRecDepth 100000 in
set_option maxHeartbeats 1000000 in
theorem rof_any (x : Nat) (hx : x < 18446744073709551616) (w : World) :
    Calls Tryd.prog 72 #[.int .u64 x] w fun e w' => e = .returned (.tuple #[.float .f64 (ofV x), .int .i64 (ofE x)]) ∧ w = w' := by
  have hfb := fun w => run_frombits (x : Int) w
  by_cases h1 : isNan x = true
  · have g1 : decide ((9218868437227405312 : Int) < (x : Int) % 9223372036854775808) = true := by
      unfold isNan INF SW at h1; simp only [decide_eq_true_eq] at h1 ⊢; omega
    by_cases h2 : x = NAN
    · have HE : Hid (ofV x = x ∧ ofE x = 0) := by refine (?_ : _ ∧ _); unfold ofV ofE; rw [ofOk_yes (by rw [canonB_nan h1, h2])]; exact ⟨rfl, rfl⟩
      have g2 : ((x : Int) != 9221120237041090561) = false := by rw [h2]; rfl
      have g3 : ((x : Int) == 9223372036854775808) = false := by rw [beq_eq_false_iff_ne, h2]; decide
      clear h1 h2
      go_enter Tryd.func72, Tryd.ntmps72
      go_wp2_with fail
      go_ret2
      rw [HE.out.1, HE.out.2]; exact ⟨rfl, rfl⟩
    · have HE : Hid (ofV x = 0 ∧ ofE x = 2) := by refine (?_ : _ ∧ _); unfold ofV ofE; rw [ofOk_no (by rw [canonB_nan h1]; exact fun e => h2 e.symm)]; exact ⟨rfl, rfl⟩
      have g2 : ((x : Int) != 9221120237041090561) = true := by rw [bne_iff_ne]; intro e; exact h2 (by unfold NAN; omega)
      clear h1 h2
      go_enter Tryd.func72, Tryd.ntmps72
      go_wp2_with fail
      go_ret2
      rw [HE.out.1, HE.out.2]; exact ⟨rfl, rfl⟩
  · have h1' : isNan x = false := by simpa using h1
    have g1 : decide ((9218868437227405312 : Int) < (x : Int) % 9223372036854775808) = false := by
      unfold isNan INF SW at h1; simp only [decide_eq_true_eq] at h1; exact decide_eq_false (by omega)
    by_cases h2 : x = SW
    · have HE : Hid (ofV x = 0 ∧ ofE x = 2) := by refine (?_ : _ ∧ _); unfold ofV ofE; rw [ofOk_no (by rw [h2, canonB_sw]; decide)]; exact ⟨rfl, rfl⟩
      have g3 : ((x : Int) == 9223372036854775808) = true := by rw [h2]; rfl
      clear h1 h2
      go_enter Tryd.func72, Tryd.ntmps72
      go_wp2_with fail
      go_ret2
      rw [HE.out.1, HE.out.2]; exact ⟨rfl, rfl⟩
    · have HE : Hid (ofV x = x ∧ ofE x = 0) := by refine (?_ : _ ∧ _); unfold ofV ofE; rw [ofOk_yes (canonB_num h1' h2)]; exact ⟨rfl, rfl⟩
      have g3 : ((x : Int) == 9223372036854775808) = false := by rw [beq_eq_false_iff_ne]; intro e; exact h2 (by unfold SW; omega)
      clear h1 h2 h1'
      go_enter Tryd.func72, Tryd.ntmps72
      go_wp2_with fail
      go_ret2
      rw [HE.out.1, HE.out.2]; exact ⟨rfl, rfl⟩
end Go.Proofs.YtghbabnekalgpaaDoor
