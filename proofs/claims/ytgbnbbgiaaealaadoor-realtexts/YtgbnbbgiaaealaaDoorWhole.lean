/- Plain facts on whole numbers among float64: cut towards 0, from an integer and back. No program is named. -/
import Derived.Test.YtgbnbbgiaaealaaDoorOrder
import Derived.Laws.FloatBits
namespace RealMath
open Ieee

theorem cut_zero (s : Bool) (n drop : Nat) : Toward.zero.cut s n drop = n / 2 ^ drop := by
  unfold Toward.cut
  simp only [Bool.toNat_false, Nat.add_zero, Nat.shiftLeft_eq, Nat.one_mul]
  by_cases h : drop ≤ n.log2 + 2
  · rw [Nat.min_eq_left h]
  · rw [Nat.min_eq_right (by omega)]
    have h1 : n < 2 ^ (n.log2 + 1) := Nat.lt_log2_self
    have h2 : n < 2 ^ (n.log2 + 2) := Nat.lt_of_lt_of_le h1 (Nat.pow_le_pow_right (by decide) (by omega))
    have h3 : n < 2 ^ drop := Nat.lt_of_lt_of_le h1 (Nat.pow_le_pow_right (by decide) (by omega))
    rw [Nat.div_eq_of_lt h2, Nat.div_eq_of_lt h3]

/-- the least place's exponent, 1074, behind a name -/
def E : Nat := 1074
theorem hE : E = 1074 := rfl
theorem dL : Ieee.double.leastPlace = -(E : Int) := by decide +kernel

/-- the whole part of a word's magnitude -/
def whole (b : Nat) : Nat := V (b % SW) / 2 ^ E

theorem pow_split (a b : Nat) (h : a ≤ b) : 2 ^ b = 2 ^ a * 2 ^ (b - a) := by
  rw [← Nat.pow_add, Nat.add_sub_cancel' h]
theorem integral_num (b : Nat) (h : b % SW < INF) : (Ieee.double.read b).integral .zero = .number (neg b) (whole b) 0 := by
  rw [read_num b h, dL]
  unfold Datum.integral
  simp only [cut_zero]
  congr 1
  unfold whole
  rw [← MK, Nat.shiftLeft_eq]
  generalize M (b % SW) = m
  generalize K (b % SW) = k
  by_cases hk : E ≤ k
  · have e1 : (-(E : Int) + (k : Int)).toNat = k - E := by omega
    have e2 : (-(-(E : Int) + (k : Int))).toNat = 0 := by omega
    rw [e1, e2, Nat.pow_zero, Nat.div_one]
    have : 2 ^ k = 2 ^ (k - E) * 2 ^ E := by rw [Nat.mul_comm]; exact pow_split E k hk
    rw [this, ← Nat.mul_assoc, Nat.mul_div_cancel _ (Nat.two_pow_pos _)]
  · have e1 : (-(E : Int) + (k : Int)).toNat = 0 := by omega
    have e2 : (-(-(E : Int) + (k : Int))).toNat = E - k := by omega
    rw [e1, e2, Nat.pow_zero, Nat.mul_one]
    have : 2 ^ E = 2 ^ k * 2 ^ (E - k) := pow_split k E (by omega)
    rw [this, Nat.mul_comm m, Nat.mul_div_mul_left _ _ (Nat.two_pow_pos _)]

/-- the whole part with its sign -/
def wholeI (b : Nat) : Int := if neg b then -(whole b : Int) else (whole b : Int)

theorem toInt_num (b : Nat) (h : b % SW < INF) : (Ieee.double.read b).toInt .zero = some (wholeI b) := by
  unfold Datum.toInt
  rw [integral_num b h]
  simp only [signed, Nat.shiftLeft_zero, wholeI]

theorem truncB_num (b : Nat) (h : b % SW < INF) : truncB b = Ieee.double.nearest (neg b) (whole b) 0 := by
  unfold truncB
  rw [integral_num b h]
  rfl

theorem nearest_zero (s : Bool) : Ieee.double.nearest s 0 0 = if s then SW else 0 := by
  cases s <;> decide +kernel
theorem nearest_lt (s : Bool) (m : Nat) : Ieee.double.nearest s m 0 < 18446744073709551616 := Format.nearest_lt Ieee.double s m 0

theorem order_zero (b : Nat) (hb : b < 18446744073709551616) : Ieee.double.order SW b = Ieee.double.order 0 b := by
  rw [order_eq SW b (by decide) hb, order_eq 0 b (by decide) hb]
  rw [show isNan SW = false by decide, show isNan 0 = false by decide, show ikey SW = ikey 0 by decide]

/-- back from the integer: the same as cut -/
theorem back_whole (b : Nat) (hb : b < 18446744073709551616) (h : b % SW < INF) :
    (Ieee.double.order (Ieee.double.nearest (decide (wholeI b < 0)) (wholeI b).natAbs 0) b == some .eq) = isWhole b := by
  unfold isWhole
  rw [truncB_num b h]
  unfold wholeI
  by_cases h0 : whole b = 0
  · rw [h0]
    cases neg b
    · rfl
    · have e : (if true = true then -((0 : Nat) : Int) else ((0 : Nat) : Int)) = 0 := rfl
      rw [e, show decide ((0 : Int) < 0) = false by decide, Int.natAbs_zero, nearest_zero, nearest_zero]
      rw [if_neg (by simp), if_pos rfl, order_zero b hb]
  · cases hn : neg b
    · rw [if_neg (by simp), show decide ((whole b : Int) < 0) = false from decide_eq_false (by omega), Int.natAbs_natCast]
    · rw [if_pos rfl, show decide (-(whole b : Int) < 0) = true from decide_eq_true (by omega), Int.natAbs_neg, Int.natAbs_natCast]

/-- the rung of 2^53 -/
def R53 : Nat := 4845873199050653696
theorem V_R53 : V R53 = 2 ^ 53 * 2 ^ E := by
  unfold V R53
  rw [if_neg (by decide), show 4845873199050653696 % 4503599627370496 = 0 by decide, show 4845873199050653696 / 4503599627370496 - 1 = 1 + E by decide, Nat.pow_add, Nat.add_zero, ← Nat.mul_assoc]
theorem V_mono {r s : Nat} (h : r ≤ s) : V r ≤ V s := by
  rcases Nat.lt_or_ge r s with h1 | h1
  · exact Nat.le_of_lt (V_lt h1)
  · rw [Nat.le_antisymm h h1]; exact Nat.le_refl _
theorem whole_le {b : Nat} (h : b % SW ≤ R53) : whole b ≤ 9007199254740992 := by
  unfold whole
  have := V_mono h
  rw [V_R53] at this
  generalize 2 ^ E = t at *
  rw [show 2 ^ 53 = 9007199254740992 by decide] at this
  exact Nat.div_le_of_le_mul (by rw [Nat.mul_comm]; exact this)

/-- from -2^53 to 2^53: by the rung -/
theorem range_iff (b : Nat) (hb : b < 18446744073709551616) : (geLo b && leHi b) = (!isNan b && decide (b % SW ≤ R53)) := by
  unfold geLo leHi
  rw [order_eq _ b (by decide) hb, order_eq b _ hb (by decide)]
  rw [show isNan 14069245235905429504 = false by decide, show isNan 4845873199050653696 = false by decide]
  cases hn : isNan b
  · simp only [Bool.or_self, Bool.false_eq_true, if_false, Bool.not_false, Bool.true_and]
    rw [show ikey 14069245235905429504 = -4845873199050653696 by decide, show ikey 4845873199050653696 = 4845873199050653696 by decide]
    have e1 : (some (ord (-4845873199050653696) (ikey b)) == some .lt || some (ord (-4845873199050653696) (ikey b)) == some .eq) = decide (-4845873199050653696 ≤ ikey b) := by
      unfold ord
      by_cases h1 : -4845873199050653696 < ikey b
      · rw [if_pos h1, decide_eq_true (by omega)]; rfl
      · rw [if_neg h1]
        by_cases h2 : -4845873199050653696 = ikey b
        · rw [if_pos h2, decide_eq_true (by omega)]; rfl
        · rw [if_neg h2, decide_eq_false (by omega)]; rfl
    have e2 : (some (ord (ikey b) 4845873199050653696) == some .lt || some (ord (ikey b) 4845873199050653696) == some .eq) = decide (ikey b ≤ 4845873199050653696) := by
      unfold ord
      by_cases h1 : ikey b < 4845873199050653696
      · rw [if_pos h1, decide_eq_true (by omega)]; rfl
      · rw [if_neg h1]
        by_cases h2 : ikey b = 4845873199050653696
        · rw [if_pos h2, decide_eq_true (by omega)]; rfl
        · rw [if_neg h2, decide_eq_false (by omega)]; rfl
    rw [e1, e2, ← Bool.decide_and, decide_eq_decide]
    unfold ikey SW R53
    split <;> omega
  · simp
theorem range_num {b : Nat} (hb : b < 18446744073709551616) (h1 : geLo b = true) (h2 : leHi b = true) : b % SW ≤ R53 ∧ isNan b = false := by
  have := range_iff b hb
  rw [h1, h2] at this
  cases hn : isNan b
  · rw [hn] at this
    exact ⟨of_decide_eq_true (by simpa using this.symm), rfl⟩
  · rw [hn] at this; simp at this
theorem R53_lt : R53 < INF := by decide
theorem wholeI_bd {b : Nat} (h : b % SW ≤ R53) : -9007199254740992 ≤ wholeI b ∧ wholeI b ≤ 9007199254740992 := by
  have := whole_le h
  unfold wholeI
  split <;> omega

/-- an integer as a number: which rung -/
theorem nearest_small (s : Bool) (m : Nat) (h0 : 0 < m) (h : m < 9007199254740992) :
    ∃ r, Ieee.double.nearest s m 0 = Ieee.double.word s r ∧ V r = m * 2 ^ E ∧ r < R53 := by
  have hl : m.log2 < 53 := (Nat.log2_lt (by omega)).2 (by simpa using h)
  obtain ⟨e, he⟩ : ∃ e, m.log2 + e = 52 := ⟨52 - m.log2, by omega⟩
  have lo : 2 ^ m.log2 ≤ m := Nat.log2_self_le (by omega)
  have hi : m < 2 ^ (m.log2 + 1) := Nat.lt_log2_self
  have lo2 : 4503599627370496 ≤ m * 2 ^ e := by
    have := Nat.mul_le_mul_right (2 ^ e) lo
    rw [← Nat.pow_add, he] at this
    exact this
  have hi2 : m * 2 ^ e < 9007199254740992 := by
    have := Nat.mul_lt_mul_of_pos_right hi (Nat.two_pow_pos e)
    rw [← Nat.pow_add, show m.log2 + 1 + e = 53 by omega] at this
    exact this
  have hE := hE
  refine ⟨(E - e) * 4503599627370496 + m * 2 ^ e, ?_, ?_, ?_⟩
  · unfold Format.nearest
    rw [if_neg (by omega)]
    simp only [dL, dBin, dInf]
    have el : (0 : Int) + (m.log2 : Int) - ((Ieee.double.fractionBits : Nat) : Int) = -(e : Int) := by
      show (0 : Int) + (m.log2 : Int) - 52 = _
      omega
    rw [el, show max (-(e : Int)) (-(E : Int)) = -(e : Int) by omega]
    rw [show ((0 : Int) - -(e : Int)).toNat = e by omega, show (-(e : Int) - 0).toNat = 0 by omega, show (-(e : Int) - -(E : Int)).toNat = E - e by omega]
    have ec : Toward.even.cut s (m <<< e) 0 = m * 2 ^ e := by
      unfold Toward.cut
      rw [Nat.shiftLeft_eq]
      simp [Nat.mod_one, Nat.shiftLeft_eq]
    rw [ec, Nat.min_eq_left]
    unfold INF
    omega
  · unfold V
    have hd : ((E - e) * 4503599627370496 + m * 2 ^ e) / 4503599627370496 = E + 1 - e := by omega
    have hm : ((E - e) * 4503599627370496 + m * 2 ^ e) % 4503599627370496 = m * 2 ^ e - 4503599627370496 := by omega
    rw [if_neg (by omega), hd, hm, show 4503599627370496 + (m * 2 ^ e - 4503599627370496) = m * 2 ^ e by omega, show E + 1 - e - 1 = E - e by omega]
    rw [Nat.mul_assoc, ← pow_split e E (by omega)]
  · unfold R53
    omega

/-- an integer as a word -/
def ofInt (n : Int) : Nat := Ieee.double.nearest (decide (n < 0)) n.natAbs 0

structure Small (n : Int) : Prop where
  lt : ofInt n < 18446744073709551616
  mod : ofInt n % SW ≤ R53
  val : wholeI (ofInt n) = n
  same : truncB (ofInt n) = ofInt n ∨ n = 0

theorem small_of (n : Int) (h1 : -9007199254740992 < n) (h2 : n < 9007199254740992) : Small n := by
  by_cases h0 : n = 0
  · subst h0
    have e : ofInt 0 = 0 := by decide +kernel
    exact ⟨by rw [e]; decide, by rw [e]; decide, by rw [e]; decide +kernel, Or.inr rfl⟩
  · obtain ⟨r, hr, hv, hlt⟩ := nearest_small (decide (n < 0)) n.natAbs (by omega) (by omega)
    have hrS : r < SW := by unfold R53 at hlt; unfold SW; omega
    have hw : ofInt n = if n < 0 then SW + r else r := by
      unfold ofInt
      rw [hr]
      unfold Format.word
      rw [dSW]
      by_cases hn : n < 0 <;> simp [hn]
    have hlt64 : ofInt n < 18446744073709551616 := nearest_lt _ _
    have hmod : ofInt n % SW = r := by
      rw [hw]
      unfold SW at *
      split <;> omega
    have hneg : neg (ofInt n) = decide (n < 0) := by
      rw [neg_of _ hlt64, hw, decide_eq_decide]
      unfold SW at *
      split <;> omega
    have hwh : whole (ofInt n) = n.natAbs := by
      unfold whole
      rw [hmod, hv, Nat.mul_div_cancel _ (Nat.two_pow_pos _)]
    refine ⟨hlt64, by rw [hmod]; omega, ?_, Or.inl ?_⟩
    · unfold wholeI
      rw [hneg, hwh]
      by_cases hn : n < 0
      · rw [if_pos (by simp [hn])]; omega
      · rw [if_neg (by simp [hn])]; omega
    · rw [truncB_num _ (by rw [hmod]; have := R53_lt; omega), hneg, hwh]
      rfl

theorem Small.nan {n : Int} (h : Small n) : isNan (ofInt n) = false := by
  unfold isNan
  have := h.mod
  have := R53_lt
  exact decide_eq_false (by omega)
theorem Small.whole {n : Int} (h : Small n) : isWhole (ofInt n) = true := by
  unfold isWhole
  rcases h.same with he | rfl
  · rw [he, eq_self _ h.lt, h.nan]; rfl
  · decide +kernel
theorem Small.range {n : Int} (h : Small n) : geLo (ofInt n) = true ∧ leHi (ofInt n) = true := by
  have := range_iff _ h.lt
  rw [h.nan, decide_eq_true h.mod] at this
  simpa using this
theorem Small.short {n : Int} (h : Small n) : shortB (ofInt n) = true := by
  unfold shortB
  rw [h.range.1, h.range.2, h.whole]; rfl
theorem Small.ne_inf {n : Int} (h : Small n) : ofInt n ≠ INF ∧ ofInt n ≠ NINF := by
  have := h.mod
  constructor
  · intro hc; rw [hc] at this; revert this; decide
  · intro hc; rw [hc] at this; revert this; decide
end RealMath
