/- Plain facts on the order of float64 words: one order of all, what is no number is the last. No program is named. -/
import Derived.Test.YtgbnbbgiaaealaaDoorMath
namespace RealMath

def sameB (x y : Nat) : Bool := decide (canonB x = canonB y)
def lessB (x y : Nat) : Bool := !isNan x && (isNan y || decide (ikey x < ikey y))
/-- the reference's key -/
def rkey (b : Nat) : Nat := if isNan b then 18446744073709551615 else if SW ≤ canonB b then 18446744073709551615 - canonB b else canonB b + SW

theorem less_nan {x : Nat} (y : Nat) (h : isNan x = true) : lessB x y = false := by unfold lessB; rw [h]; rfl
theorem less_to_nan {x y : Nat} (h : isNan x = false) (h2 : isNan y = true) : lessB x y = true := by unfold lessB; rw [h, h2]; rfl
theorem less_num {x y : Nat} (h : isNan x = false) (h2 : isNan y = false) : lessB x y = decide (ikey x < ikey y) := by unfold lessB; rw [h, h2]; simp
/-- x < y -/
theorem lt_num {x y : Nat} (hx : x < 18446744073709551616) (hy : y < 18446744073709551616) (h : isNan x = false) (h2 : isNan y = false) :
    (Ieee.double.order x y == some .lt) = lessB x y := by
  rw [order_eq x y hx hy, h, h2, less_num h h2]
  simp only [Bool.or_self, Bool.false_eq_true, if_false]
  unfold ord
  by_cases hl : ikey x < ikey y
  · rw [if_pos hl]; simp [hl]
  · rw [if_neg hl]; split <;> simp [hl]

theorem rkey_nan {b : Nat} (h : isNan b = true) : rkey b = 18446744073709551615 := by unfold rkey; rw [h]; rfl
theorem canon_ikey {b : Nat} (h : isNan b = false) : ikey (canonB b) = ikey b := by
  by_cases h2 : b = SW
  · rw [h2, canonB_sw]; decide
  · rw [canonB_num h h2]
theorem rkey_num {b : Nat} (hb : b < 18446744073709551616) (h : isNan b = false) : (rkey b : Int) = ikey b + 9223372036854775808 - (if ikey b < 0 then 1 else 0) ∧ rkey b < 18446744073709551615 := by
  have hk := ikey_le b h hb
  have hc := canon_ikey h
  have hl := canonB_lt b hb
  have hz : canonB b ≠ SW := by
    intro hz
    by_cases h2 : b = SW
    · rw [h2, canonB_sw] at hz; revert hz; decide
    · rw [canonB_num h h2] at hz; exact h2 hz
  unfold rkey
  rw [h, if_neg (by simp)]
  rw [← hc] at hk ⊢
  generalize canonB b = c at *
  unfold ikey SW at *
  by_cases h1 : 9223372036854775808 ≤ c
  · rw [if_pos h1, if_neg (by omega)]
    rw [if_pos (by omega)]
    omega
  · rw [if_neg h1, if_pos (by omega)]
    rw [if_neg (by omega)]
    rw [if_pos (by omega)] at hk
    omega
theorem rkey_lt (x y : Nat) (hx : x < 18446744073709551616) (hy : y < 18446744073709551616) : decide (rkey x < rkey y) = lessB x y := by
  cases h : isNan x
  · have kx := rkey_num hx h
    cases h2 : isNan y
    · have ky := rkey_num hy h2
      rw [less_num h h2, decide_eq_decide]
      obtain ⟨a1, a2⟩ := kx
      obtain ⟨b1, b2⟩ := ky
      split at a1 <;> split at b1 <;> constructor <;> intro <;> omega
    · rw [less_to_nan h h2, rkey_nan h2]
      simp only [decide_eq_true_eq]
      exact kx.2
  · rw [less_nan y h, rkey_nan h]
    have : rkey y ≤ 18446744073709551615 := by
      cases h2 : isNan y
      · exact Nat.le_of_lt (rkey_num hy h2).2
      · rw [rkey_nan h2]; exact Nat.le_refl _
    simp only [decide_eq_false_iff_not]
    omega
theorem less_irr (x : Nat) : lessB x x = false := by unfold lessB; cases isNan x <;> simp
theorem less_asym {x y : Nat} (h : lessB x y = true) : lessB y x = false := by
  unfold lessB at *
  cases hx : isNan x <;> cases hy : isNan y <;> simp_all
  omega
theorem less_trans {x y z : Nat} (h : lessB x y = true) (h2 : lessB y z = true) : lessB x z = true := by
  unfold lessB at *
  cases hx : isNan x <;> cases hy : isNan y <;> cases hz : isNan z <;> simp_all
  omega
theorem ikey_inj {x y : Nat} (hx : x < 18446744073709551616) (hy : y < 18446744073709551616) (nx : x ≠ SW) (ny : y ≠ SW) (h : ikey x = ikey y) : x = y := by
  unfold ikey SW at *
  split at h <;> split at h <;> omega
theorem canon_ne_sw (b : Nat) : canonB b ≠ SW := by
  unfold canonB
  split
  · decide
  · split
    · decide
    · assumption
theorem same_iff (x y : Nat) (hx : x < 18446744073709551616) (hy : y < 18446744073709551616) : sameB x y = (!lessB x y && !lessB y x) := by
  unfold sameB
  cases h : isNan x <;> cases h2 : isNan y
  · rw [less_num h h2, less_num h2 h]
    have cx := canon_ikey h
    have cy := canon_ikey h2
    by_cases he : canonB x = canonB y
    · have : ikey x = ikey y := by rw [← cx, ← cy, he]
      simp [he, this]
    · have : ikey x ≠ ikey y := by
        intro hc
        exact he (ikey_inj (canonB_lt x hx) (canonB_lt y hy) (canon_ne_sw x) (canon_ne_sw y) (by rw [cx, cy, hc]))
      simp only [he, decide_false]
      by_cases hl : ikey x < ikey y
      · simp [hl]
      · have : ikey y < ikey x := by omega
        simp [this]
  · rw [less_to_nan h h2]
    have : canonB x ≠ canonB y := by
      intro hc
      have a := isNan_canonB x
      rw [hc, isNan_canonB, h, h2] at a
      cases a
    simp [this]
  · rw [less_to_nan h2 h]
    have : canonB x ≠ canonB y := by
      intro hc
      have a := isNan_canonB x
      rw [hc, isNan_canonB, h, h2] at a
      cases a
    simp [this]
  · rw [less_nan y h, less_nan x h2, canonB_nan h, canonB_nan h2]; simp

theorem same_neg_nan {x : Nat} (hx : x < 18446744073709551616) (h : isNan x = true) : sameB x (negB x) = true := by
  unfold sameB
  rw [canonB_nan h, canonB_nan (by rw [isNan_negB x hx]; exact h)]; simp
theorem less_neg {x y : Nat} (hx : x < 18446744073709551616) (hy : y < 18446744073709551616) (h : isNan x = false) (h2 : isNan y = false) : lessB (negB y) (negB x) = lessB x y := by
  rw [less_num h h2, less_num (by rw [isNan_negB y hy]; exact h2) (by rw [isNan_negB x hx]; exact h), ikey_negB x hx, ikey_negB y hy, decide_eq_decide]
  omega
theorem same_neg {x : Nat} (hx : x < 18446744073709551616) (h : isNan x = false) : sameB x (negB x) = (Ieee.double.order x 0 == some .eq) := by
  have hn : isNan (negB x) = false := by rw [isNan_negB x hx]; exact h
  rw [same_iff x _ hx (negB_lt x hx), less_num h hn, less_num hn h, ikey_negB x hx, eq_zero x hx, h]
  have := ikey_eq_zero x
  by_cases h0 : ikey x = 0
  · have h1 := h0; rw [this] at h1
    rw [h0]
    rcases h1 with h1 | h1 <;> simp [h1]
  · have h1 := h0; rw [this] at h1
    have n1 : x ≠ 0 := fun hc => h1 (Or.inl hc)
    have n2 : x ≠ SW := fun hc => h1 (Or.inr hc)
    simp only [n1, n2, decide_false, Bool.or_self, Bool.and_false]
    by_cases hl : ikey x < -ikey x
    · simp [hl]
    · have : -ikey x < ikey x := by omega
      simp [this]
end RealMath
