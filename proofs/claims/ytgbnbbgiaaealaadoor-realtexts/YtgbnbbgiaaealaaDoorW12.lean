/- The contracts of Text, of the program and of the reference, at every number. -/
import Derived.Test.YtgbnbbgiaaealaaDoorW5
import Derived.Test.YtgbnbbgiaaealaaDoorW11
import Derived.Test.YtgbnbbgiaaealaaDoorWhole
namespace Go.Proofs.YtgbnbbgiaaealaaDoor
open Go.RowKit RealMath

/-- what Text answers -/
def textL (b : Nat) : List UInt8 :=
  if isNan b then [110, 97, 110] else if b = INF then [105, 110, 102] else if b = NINF then [45, 105, 110, 102]
  else if shortB b then Lib.itoa (wholeI b) else 48 :: 120 :: hexL 16 (canonB b)

/-- the tables that Text leans on -/
structure Tab2 (w : World) : Prop where
  tab : Tab w
  pow : Lib.TabIs Tryd.prog w "internal/strconv.uint64pow10" .u64 Lib.pow10Tab

theorem gPow' : Tryd.prog.globalNamed "internal/strconv.uint64pow10" = some 1 := by kernel_rfl
theorem Tab2.below {w w' : World} (h : Tab2 w) (hb : Below w.heap.size w w') : Tab2 w' :=
  ⟨h.tab.below hb, var?_below hb gPow' (by have := h.tab.big; omega) h.pow⟩

theorem below_grow (w : World) (k : Nat) (os : Array Obj) : Below w.heap.size w (Sort.grow (w.drewN k) os) :=
  ⟨rfl, rfl, rfl, by simp [Sort.grow, World.drewN], fun i hi => by simp [Sort.grow, World.drewN, Array.getElem?_append_left hi]⟩

set_option maxHeartbeats 400000 in
theorem text_nan (b : Nat) (hb : b < 18446744073709551616) (h1 : isNan b = true) (w : World) :
    Calls Tryd.prog 24 #[.float .f64 b] w fun e w' => e = .returned (.string ⟨#[110, 97, 110]⟩) ∧ Below w.heap.size w w' := by
  have C1 := Lib.hid (isnan_yes b hb h1)
  clear h1 hb
  go_enter Tryd.func24, Tryd.ntmps24
  go_wp2_with fail
  refine (C1.out _).mono ?_
  rintro e w' ⟨rfl, rfl⟩
  go_wp2_with fail
  go_ret
  exact ⟨rfl, Below.refl _ _⟩
set_option maxHeartbeats 400000 in
theorem text_inf (w : World) :
    Calls Tryd.prog 24 #[.float .f64 9218868437227405312] w fun e w' => e = .returned (.string ⟨#[105, 110, 102]⟩) ∧ Below w.heap.size w w' := by
  have C1 := Lib.hid (isnan_no 9218868437227405312 (by decide) (by decide))
  have c2 := isinf_pos 9218868437227405312 (by decide)
  rw [show decide (9218868437227405312 = INF) = true by decide] at c2
  have C2 := Lib.hid c2; clear c2
  go_enter Tryd.func24, Tryd.ntmps24
  go_wp2_with fail
  refine (C1.out _).mono ?_
  rintro e w' ⟨rfl, rfl⟩
  go_wp2_with fail
  refine (C2.out _).mono ?_
  rintro e w' ⟨rfl, rfl⟩
  go_wp2_with fail
  go_ret
  exact ⟨rfl, Below.refl _ _⟩
set_option maxHeartbeats 400000 in
theorem text_ninf (w : World) :
    Calls Tryd.prog 24 #[.float .f64 18442240474082181120] w fun e w' => e = .returned (.string ⟨#[45, 105, 110, 102]⟩) ∧ Below w.heap.size w w' := by
  have C1 := Lib.hid (isnan_no 18442240474082181120 (by decide) (by decide))
  have c2 := isinf_pos 18442240474082181120 (by decide)
  rw [show decide (18442240474082181120 = INF) = false by decide] at c2
  have c3 := isinf_neg 18442240474082181120 (by decide)
  rw [show decide (18442240474082181120 = NINF) = true by decide] at c3
  have C2 := Lib.hid c2; have C3 := Lib.hid c3; clear c2 c3
  go_enter Tryd.func24, Tryd.ntmps24
  go_wp2_with fail
  refine (C1.out _).mono ?_
  rintro e w' ⟨rfl, rfl⟩
  go_wp2_with fail
  refine (C2.out _).mono ?_
  rintro e w' ⟨rfl, rfl⟩
  go_wp2_with fail
  refine (C3.out _).mono ?_
  rintro e w' ⟨rfl, rfl⟩
  go_wp2_with fail
  go_ret
  exact ⟨rfl, Below.refl _ _⟩

theorem short_parts {b : Nat} (hb : b < 18446744073709551616) (h : shortB b = true) : geLo b = true ∧ leHi b = true ∧ isWhole b = true ∧ b % SW ≤ R53 ∧ isNan b = false := by
  unfold shortB at h
  simp only [Bool.and_eq_true] at h
  have := range_num hb h.1.1 h.1.2
  exact ⟨h.1.1, h.1.2, h.2, this.1, this.2⟩

/-- a number cut to an integer -/
theorem conv_int (dst : TypeId) (hd : Tryd.prog.underlying dst = some (.int .i64)) (b : Nat) (h : b % SW ≤ R53) (w : World) :
    (convert 23 dst (.float .f64 b)).run Tryd.prog w = .ok (.int .i64 (wholeI b)) w := by
  refine run_convert_float_int w 23 dst .f64 .i64 b (wholeI b) (by rw [Tryd.underlying23]; rfl) hd ?_
  have ht : (FloatKind.f64.decode b).toInt .zero = some (wholeI b) := toInt_num b (by have := R53_lt; omega)
  have bd := wholeI_bd h
  unfold floatToIntVal
  rw [ht]
  simp only
  rw [if_pos]
  show (-9223372036854775808 : Int) ≤ _ ∧ _ ≤ (9223372036854775807 : Int)
  omega

set_option maxHeartbeats 800000 in
theorem text_short (b : Nat) (hb : b < 18446744073709551616) (h2 : b ≠ INF) (h3 : b ≠ NINF) (h4 : shortB b = true) (w : World) (ht : Tab2 w) :
    Calls Tryd.prog 24 #[.float .f64 b] w fun e w' => e = .returned (.string ⟨(Lib.itoa (wholeI b)).toArray⟩) ∧ Below w.heap.size w w' := by
  obtain ⟨_, _, _, hr, hn⟩ := short_parts hb h4
  have c1 := isnan_no b hb hn
  have c2 := isinf_pos b hb
  have c3 := isinf_neg b hb
  have c4 := short_any b hb
  rw [show decide (b = INF) = false by simp [h2]] at c2
  rw [show decide (b = NINF) = false by simp [h3]] at c3
  rw [h4] at c4
  have hcv := conv_int 2 Tryd.underlying2 b hr
  have bd := wholeI_bd hr
  have C1 := Lib.hid c1; have C2 := Lib.hid c2; have C3 := Lib.hid c3; have C4 := Lib.hid c4
  have C5 := Lib.hid (Tryd.strconv_FormatInt_10 (wholeI b) (by omega) (by omega) w ht.pow)
  clear c1 c2 c3 c4 h2 h3 h4 hb hr hn
  generalize wholeI b = n at *
  generalize Lib.itoa n = l at *
  go_enter Tryd.func24, Tryd.ntmps24
  go_wp2_with fail
  refine (C1.out _).mono ?_
  rintro e w' ⟨rfl, rfl⟩
  go_wp2_with fail
  refine (C2.out _).mono ?_
  rintro e w' ⟨rfl, rfl⟩
  go_wp2_with fail
  refine (C3.out _).mono ?_
  rintro e w' ⟨rfl, rfl⟩
  go_wp2_with fail
  refine (C4.out _).mono ?_
  rintro e w' ⟨rfl, rfl⟩
  go_wp2_with fail
  refine C5.out.mono ?_
  rintro e w1 ⟨rfl, k, os, rfl⟩
  go_wp2
  go_ret
  exact ⟨rfl, below_grow _ _ _⟩

theorem text_any (b : Nat) (hb : b < 18446744073709551616) (w : World) (ht : Tab2 w) :
    Calls Tryd.prog 24 #[.float .f64 b] w fun e w' => e = .returned (.string ⟨(textL b).toArray⟩) ∧ Below w.heap.size w w' := by
  unfold textL
  by_cases h1 : isNan b = true
  · rw [if_pos h1]; exact text_nan b hb h1 w
  · rw [if_neg h1]
    by_cases h2 : b = INF
    · rw [if_pos h2]; subst h2; exact text_inf w
    · rw [if_neg h2]
      by_cases h3 : b = NINF
      · rw [if_pos h3]; subst h3; exact text_ninf w
      · rw [if_neg h3]
        by_cases h4 : shortB b = true
        · rw [if_pos h4]; exact text_short b hb h2 h3 h4 w ht
        · rw [if_neg h4]; exact text_hex b hb (by simpa using h1) h2 h3 (by simpa using h4) w ht.tab
end Go.Proofs.YtgbnbbgiaaealaaDoor
