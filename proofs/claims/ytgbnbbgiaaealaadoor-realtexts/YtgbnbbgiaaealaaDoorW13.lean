/- The contract of the reference's Text. -/
import Derived.Test.YtgbnbbgiaaealaaDoorW12
namespace Go.Proofs.YtgbnbbgiaaealaaDoor
open Go.RowKit RealMath

theorem geq_lo (b : Nat) (hb : b < 18446744073709551616) : (Ieee.double.order b 14069245235905429504 == some .gt || Ieee.double.order b 14069245235905429504 == some .eq) = geLo b := by
  unfold geLo
  rw [order_eq _ b (by decide) hb, order_eq b _ hb (by decide), Bool.or_comm (isNan b)]
  cases (isNan 14069245235905429504 || isNan b)
  · rw [if_neg (by simp), if_neg (by simp)]
    unfold ord
    generalize ikey b = x
    generalize ikey 14069245235905429504 = y
    rcases Int.lt_trichotomy x y with h | h | h
    · rw [if_pos h, if_neg (by omega), if_neg (by omega)]; rfl
    · subst h; simp
    · rw [if_neg (by omega), if_neg (by omega), if_pos h]; rfl
  · rfl

theorem canon_ne {b k : Nat} (h : b ≠ k) (hs : k ≠ 0) (hn : isNan k = false) : canonB b ≠ k := by
  intro hc
  by_cases h1 : isNan b = true
  · have := isNan_canonB b
    rw [hc, hn, h1] at this; cases this
  · by_cases h2 : b = SW
    · rw [h2, canonB_sw] at hc; exact hs hc.symm
    · rw [canonB_num (by simpa using h1) h2] at hc; exact h hc

/-- the reference's first tests, behind a number that is one, and finite -/
theorem ref_ne {b : Nat} (h1 : isNan b = false) (h2 : b ≠ INF) (h3 : b ≠ NINF) : ((canonB b : Int) == 9221120237041090561) = false ∧ ((canonB b : Int) == 9218868437227405312) = false ∧ ((canonB b : Int) == 18442240474082181120) = false := by
  refine ⟨beq_eq_false_iff_ne.2 ?_, beq_eq_false_iff_ne.2 ?_, beq_eq_false_iff_ne.2 ?_⟩
  · intro hc
    have : canonB b = NAN := by unfold NAN; omega
    have hx := isNan_canonB b
    rw [this, h1] at hx
    revert hx; decide
  · intro hc
    exact canon_ne (k := INF) h2 (by decide) (by decide) (by unfold INF; omega)
  · intro hc
    exact canon_ne (k := NINF) h3 (by decide) (by decide) (by unfold NINF; omega)

set_option maxHeartbeats 400000 in
theorem reftext_nan (b : Nat) (h1 : isNan b = true) (w : World) :
    Calls Tryd.prog 25 #[.float .f64 b] w fun e w' => e = .returned (.string ⟨#[110, 97, 110]⟩) ∧ Below w.heap.size w w' := by
  have c := refbits_any b
  rw [canonB_nan h1] at c
  have C := Lib.hid c
  clear c h1
  go_enter Tryd.func25, Tryd.ntmps25
  go_wp2_with (go_at_call 14; refine (C.out _).mono ?_; rintro e w' ⟨rfl, rfl⟩)
  go_ret
  exact ⟨rfl, Below.refl _ _⟩
set_option maxHeartbeats 400000 in
theorem reftext_inf (w : World) :
    Calls Tryd.prog 25 #[.float .f64 9218868437227405312] w fun e w' => e = .returned (.string ⟨#[105, 110, 102]⟩) ∧ Below w.heap.size w w' := by
  have c := refbits_any 9218868437227405312
  rw [show canonB 9218868437227405312 = 9218868437227405312 by decide] at c
  have C := Lib.hid c
  clear c
  go_enter Tryd.func25, Tryd.ntmps25
  go_wp2_with (go_at_call 14; refine (C.out _).mono ?_; rintro e w' ⟨rfl, rfl⟩)
  go_ret
  exact ⟨rfl, Below.refl _ _⟩
set_option maxHeartbeats 400000 in
theorem reftext_ninf (w : World) :
    Calls Tryd.prog 25 #[.float .f64 18442240474082181120] w fun e w' => e = .returned (.string ⟨#[45, 105, 110, 102]⟩) ∧ Below w.heap.size w w' := by
  have c := refbits_any 18442240474082181120
  rw [show canonB 18442240474082181120 = 18442240474082181120 by decide] at c
  have C := Lib.hid c
  clear c
  go_enter Tryd.func25, Tryd.ntmps25
  go_wp2_with (go_at_call 14; refine (C.out _).mono ?_; rintro e w' ⟨rfl, rfl⟩)
  go_ret
  exact ⟨rfl, Below.refl _ _⟩

/-- the tests' outcomes, as the walk asks them -/
theorem lo_no {b : Nat} (hb : b < 18446744073709551616) (h : geLo b = false) : (FloatKind.f64.format.order b 14069245235905429504 == some Ordering.gt) = false ∧ (FloatKind.f64.format.order b 14069245235905429504 == some Ordering.eq) = false := by
  rw [← geq_lo b hb] at h
  exact Bool.or_eq_false_iff.1 h
theorem hi_no {b : Nat} (h : leHi b = false) : (FloatKind.f64.format.order b 4845873199050653696 == some Ordering.lt) = false ∧ (FloatKind.f64.format.order b 4845873199050653696 == some Ordering.eq) = false := Bool.or_eq_false_iff.1 h
theorem lo_yes {b : Nat} (hb : b < 18446744073709551616) (h : geLo b = true) : (FloatKind.f64.format.order b 14069245235905429504 == some Ordering.gt) = true ∨ ((FloatKind.f64.format.order b 14069245235905429504 == some Ordering.gt) = false ∧ (FloatKind.f64.format.order b 14069245235905429504 == some Ordering.eq) = true) := by
  rw [← geq_lo b hb] at h
  exact or_cases h
theorem hi_yes {b : Nat} (h : leHi b = true) : (FloatKind.f64.format.order b 4845873199050653696 == some Ordering.lt) = true ∨ ((FloatKind.f64.format.order b 4845873199050653696 == some Ordering.lt) = false ∧ (FloatKind.f64.format.order b 4845873199050653696 == some Ordering.eq) = true) := or_cases h

set_option maxHeartbeats 2000000 in
theorem reftext_hex (b : Nat) (hb : b < 18446744073709551616) (h1 : isNan b = false) (h2 : b ≠ INF) (h3 : b ≠ NINF) (h4 : shortB b = false) (w : World) :
    Calls Tryd.prog 25 #[.float .f64 b] w fun e w' => e = .returned (.string ⟨(48 :: 120 :: hexL 16 (canonB b)).toArray⟩) ∧ Below w.heap.size w w' := by
  obtain ⟨t1, t2, t3⟩ := ref_ne h1 h2 h3
  have C := Lib.hid (refbits_any b)
  have hc := canonB_lt b hb
  have CH := Lib.hid (digits_any (canonB b) hc)
  have hll : (hexL 16 (canonB b)).length ≤ 16 := by rw [hexL_length]; omega
  generalize hexL 16 (canonB b) = l at *
  generalize canonB b = c at *
  clear h2 h3 hc
  cases k1 : geLo b
  · obtain ⟨g1, g2⟩ := lo_no hb k1
    clear k1 h4 h1 hb
    go_enter Tryd.func25, Tryd.ntmps25
    go_wp2_with fail
    refine (C.out _).mono ?_
    rintro e w' ⟨rfl, rfl⟩
    go_wp2_with fail
    refine (CH.out _).mono ?_
    rintro e w1 ⟨rfl, hb1⟩
    go_wp2
    go_ret
    exact ⟨congrArg (fun a => Ending.returned (Value.string a)) (cat_eq [48, 120] l), hb1⟩
  · have g := lo_yes hb k1
    cases k2 : leHi b
    · obtain ⟨g1, g2⟩ := hi_no k2
      clear k1 k2 h4 h1 hb
      rcases g with g | ⟨g, g3⟩
      all_goals
        go_enter Tryd.func25, Tryd.ntmps25
        go_wp2_with fail
        refine (C.out _).mono ?_
        rintro e w' ⟨rfl, rfl⟩
        go_wp2_with fail
        refine (CH.out _).mono ?_
        rintro e w1 ⟨rfl, hb1⟩
        go_wp2
        go_ret
        exact ⟨congrArg (fun a => Ending.returned (Value.string a)) (cat_eq [48, 120] l), hb1⟩
    · have k := hi_yes k2
      have hr := (range_num hb k1 k2).1
      have hcv := conv_int 3 Tryd.underlying3 b hr
      have hw : isWhole b = false := by unfold shortB at h4; rw [k1, k2] at h4; simpa using h4
      have hbk : (FloatKind.f64.format.order (floatOfInt .f64 (wholeI b)) b == some Ordering.eq) = false := (back_whole b hb (by have := R53_lt; omega)).trans hw
      have bd := wholeI_bd hr
      clear k1 k2 h4 h1 hb hr hw
      generalize wholeI b = n at *
      rcases g with g | ⟨g, g3⟩ <;> rcases k with k | ⟨k, k3⟩
      all_goals
        go_enter Tryd.func25, Tryd.ntmps25
        go_wp2_with fail
        refine (C.out _).mono ?_
        rintro e w' ⟨rfl, rfl⟩
        go_wp2_with fail
        refine (CH.out _).mono ?_
        rintro e w1 ⟨rfl, hb1⟩
        go_wp2
        go_ret
        exact ⟨congrArg (fun a => Ending.returned (Value.string a)) (cat_eq [48, 120] l), hb1⟩

set_option maxHeartbeats 2000000 in
theorem reftext_short (b : Nat) (hb : b < 18446744073709551616) (h2 : b ≠ INF) (h3 : b ≠ NINF) (h4 : shortB b = true) (w : World) :
    Calls Tryd.prog 25 #[.float .f64 b] w fun e w' => e = .returned (.string ⟨(Lib.itoa (wholeI b)).toArray⟩) ∧ Below w.heap.size w w' := by
  obtain ⟨k1, k2, hw, hr, h1⟩ := short_parts hb h4
  obtain ⟨t1, t2, t3⟩ := ref_ne h1 h2 h3
  have C := Lib.hid (refbits_any b)
  have g := lo_yes hb k1
  have k := hi_yes k2
  have hcv := conv_int 3 Tryd.underlying3 b hr
  have hbk : (FloatKind.f64.format.order (floatOfInt .f64 (wholeI b)) b == some Ordering.eq) = true := (back_whole b hb (by have := R53_lt; omega)).trans hw
  have bd := wholeI_bd hr
  have CD := Lib.hid (dec_any (wholeI b) bd.1 bd.2)
  generalize canonB b = c at *
  clear k1 k2 h4 h1 hb hr hw h2 h3
  generalize wholeI b = n at *
  generalize Lib.itoa n = l at *
  rcases g with g | ⟨g, g3⟩ <;> rcases k with k | ⟨k, k3⟩
  all_goals
    go_enter Tryd.func25, Tryd.ntmps25
    go_wp2_with fail
    refine (C.out _).mono ?_
    rintro e w' ⟨rfl, rfl⟩
    go_wp2_with fail
    refine (CD.out _).mono ?_
    rintro e w1 ⟨rfl, hb1⟩
    go_wp2
    go_ret
    exact ⟨rfl, hb1⟩

theorem reftext_any (b : Nat) (hb : b < 18446744073709551616) (w : World) :
    Calls Tryd.prog 25 #[.float .f64 b] w fun e w' => e = .returned (.string ⟨(textL b).toArray⟩) ∧ Below w.heap.size w w' := by
  unfold textL
  by_cases h1 : isNan b = true
  · rw [if_pos h1]; exact reftext_nan b h1 w
  · rw [if_neg h1]
    by_cases h2 : b = INF
    · rw [if_pos h2]; subst h2; exact reftext_inf w
    · rw [if_neg h2]
      by_cases h3 : b = NINF
      · rw [if_pos h3]; subst h3; exact reftext_ninf w
      · rw [if_neg h3]
        by_cases h4 : shortB b = true
        · rw [if_pos h4]; exact reftext_short b hb h2 h3 h4 w
        · rw [if_neg h4]; exact reftext_hex b hb (by simpa using h1) h2 h3 (by simpa using h4) w
end Go.Proofs.YtgbnbbgiaaealaaDoor
