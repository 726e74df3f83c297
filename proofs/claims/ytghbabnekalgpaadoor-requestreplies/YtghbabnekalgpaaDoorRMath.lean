/- Plain facts on the words of float64: what is a NaN, and that the order of the others is that of a whole number read off the word. No program is named. -/
import Ieee.Arith
namespace RealMath
open Ieee

/-- the rung of the infinity -/
def INF : Nat := 9218868437227405312
/-- the sign's weight -/
def SW : Nat := 9223372036854775808
/-- the one NaN -/
def NAN : Nat := 9221120237041090561

def isNan (b : Nat) : Bool := decide (INF < b % SW)

/-- a whole number by which the words that are numbers stand in order -/
def ikey (b : Nat) : Int := if b < SW then (b : Int) else -((b : Int) - (SW : Int))

/-- the magnitude of a rung, in units of the least place -/
def V (r : Nat) : Nat := if r < 4503599627370496 then r else (4503599627370496 + r % 4503599627370496) * 2 ^ (r / 4503599627370496 - 1)
/-- the shift of a rung -/
def K (r : Nat) : Nat := if r < 4503599627370496 then 0 else r / 4503599627370496 - 1
/-- the digits of a rung -/
def M (r : Nat) : Nat := if r < 4503599627370496 then r else 4503599627370496 + r % 4503599627370496

theorem MK (r : Nat) : M r * 2 ^ K r = V r := by
  unfold M K V; split <;> simp

theorem V_lt {r s : Nat} (h : r < s) : V r < V s := by
  have hr := Nat.div_add_mod r 4503599627370496
  have hs := Nat.div_add_mod s 4503599627370496
  have mr := Nat.mod_lt r (show 0 < 4503599627370496 by decide)
  have ms := Nat.mod_lt s (show 0 < 4503599627370496 by decide)
  unfold V
  by_cases h1 : r < 4503599627370496
  · rw [if_pos h1]
    by_cases h2 : s < 4503599627370496
    · rw [if_pos h2]; exact h
    · rw [if_neg h2]
      have : 0 < 2 ^ (s / 4503599627370496 - 1) := Nat.two_pow_pos _
      calc r < 4503599627370496 + s % 4503599627370496 := by omega
        _ = (4503599627370496 + s % 4503599627370496) * 1 := (Nat.mul_one _).symm
        _ ≤ _ := Nat.mul_le_mul_left _ this
  · have h2 : ¬ s < 4503599627370496 := by omega
    rw [if_neg h1, if_neg h2]
    by_cases he : r / 4503599627370496 = s / 4503599627370496
    · rw [he]
      refine Nat.mul_lt_mul_of_pos_right ?_ (Nat.two_pow_pos _)
      rw [he] at hr
      omega
    · have hlt : r / 4503599627370496 < s / 4503599627370496 := by
        have := Nat.div_le_div_right (c := 4503599627370496) (Nat.le_of_lt h)
        omega
      have e1 : 1 ≤ r / 4503599627370496 := by omega
      have e2 : s / 4503599627370496 - 1 = (r / 4503599627370496 - 1) + 1 + (s / 4503599627370496 - r / 4503599627370496 - 1) := by omega
      calc (4503599627370496 + r % 4503599627370496) * 2 ^ (r / 4503599627370496 - 1)
          < 9007199254740992 * 2 ^ (r / 4503599627370496 - 1) := Nat.mul_lt_mul_of_pos_right (by omega) (Nat.two_pow_pos _)
        _ = 4503599627370496 * 2 ^ (r / 4503599627370496 - 1 + 1) := by rw [Nat.pow_succ]; omega
        _ ≤ 4503599627370496 * 2 ^ (s / 4503599627370496 - 1) := by
            refine Nat.mul_le_mul_left _ ?_
            exact Nat.pow_le_pow_right (by decide) (by omega)
        _ ≤ _ := Nat.mul_le_mul_right _ (by omega)

theorem V_inj {r s : Nat} (h : V r = V s) : r = s := by
  rcases Nat.lt_trichotomy r s with h1 | h1 | h1
  · have := V_lt h1; omega
  · exact h1
  · have := V_lt h1; omega

theorem dSW : Ieee.double.signWeight = SW := by decide +kernel
theorem dBin : Ieee.double.binade = 4503599627370496 := by decide +kernel
theorem dInf : Ieee.double.infRung = INF := by decide +kernel

/-- the sign of a word -/
def neg (b : Nat) : Bool := b / SW % 2 == 1

theorem read_num (b : Nat) (h : b % SW < INF) :
    Ieee.double.read b = .number (neg b) (M (b % SW)) (Ieee.double.leastPlace + (K (b % SW) : Int)) := by
  unfold Format.read neg M K
  simp only [dSW, dBin, dInf]
  by_cases h1 : b % SW < 4503599627370496
  · simp [h1]
  · rw [if_neg h1, if_pos h, if_neg h1, if_neg h1]

theorem read_inf (b : Nat) (h : b % SW = INF) : Ieee.double.read b = .infinity (neg b) := by
  unfold Format.read neg
  simp only [dSW, dBin, dInf]
  rw [if_neg (by rw [h]; decide), if_neg (by rw [h]; decide), if_pos h]

theorem read_nan (b : Nat) (h : INF < b % SW) : Ieee.double.read b = .nan (neg b) (b % SW - INF) := by
  unfold Format.read neg
  simp only [dSW, dBin, dInf]
  have : (4503599627370496 : Nat) < INF := by decide
  rw [if_neg (by omega), if_neg (by omega), if_neg (by omega)]

def ord (a b : Int) : Ordering := if a < b then .lt else if a = b then .eq else .gt
theorem compare_int (a b : Int) : compare a b = ord a b := rfl

theorem ord_congr {a b c d : Int} (h1 : a < b ↔ c < d) (h2 : a = b ↔ c = d) : ord a b = ord c d := by
  unfold ord
  by_cases g1 : c < d
  · rw [if_pos g1, if_pos (h1.2 g1)]
  · rw [if_neg g1, if_neg (fun h => g1 (h1.1 h))]
    by_cases g2 : c = d
    · rw [if_pos g2, if_pos (h2.2 g2)]
    · rw [if_neg g2, if_neg (fun h => g2 (h2.1 h))]

theorem ord_scale (a b : Int) (c : Nat) (hc : 0 < c) : ord (a * c) (b * c) = ord a b := by
  have hc' : (0 : Int) < c := by omega
  exact ord_congr ⟨fun h => Int.lt_of_mul_lt_mul_right h (Int.le_of_lt hc'), fun h => Int.mul_lt_mul_of_pos_right h hc'⟩ ⟨fun h => Int.eq_of_mul_eq_mul_right (by omega) h, fun h => by rw [h]⟩

/-- the value of a word -/
def val (b : Nat) : Int := if neg b then -(V (b % SW) : Int) else (V (b % SW) : Int)

theorem signed_mul (s : Bool) (m u c : Nat) : signed s m u * (2 ^ c : Nat) = if s then -((m * 2 ^ (u + c) : Nat) : Int) else ((m * 2 ^ (u + c) : Nat) : Int) := by
  unfold signed
  have e : ((m <<< u : Nat) : Int) * (2 ^ c : Nat) = ((m * 2 ^ (u + c) : Nat) : Int) := by
    rw [Nat.shiftLeft_eq, Nat.pow_add, ← Nat.mul_assoc, Int.natCast_mul]
    simp
  cases s
  · simpa using e
  · simp only [if_true]; rw [Int.neg_mul, e]

theorem order_num (a b : Nat) (ha : a % SW < INF) (hb : b % SW < INF) : Ieee.double.order a b = some (ord (val a) (val b)) := by
  unfold Format.order
  rw [read_num a ha, read_num b hb]
  simp only [Datum.order, compare_int]
  congr 1
  generalize Ieee.double.leastPlace = L
  have e1 : (L + (K (a % SW) : Int) - min (L + (K (a % SW) : Int)) (L + (K (b % SW) : Int))).toNat = K (a % SW) - min (K (a % SW)) (K (b % SW)) := by omega
  have e2 : (L + (K (b % SW) : Int) - min (L + (K (a % SW) : Int)) (L + (K (b % SW) : Int))).toNat = K (b % SW) - min (K (a % SW)) (K (b % SW)) := by omega
  rw [e1, e2]
  rw [← ord_scale _ _ (2 ^ min (K (a % SW)) (K (b % SW))) (Nat.two_pow_pos _), signed_mul, signed_mul]
  rw [Nat.sub_add_cancel (Nat.min_le_left _ _), Nat.sub_add_cancel (Nat.min_le_right _ _), MK, MK]
  rfl

theorem neg_of (b : Nat) (h : b < 18446744073709551616) : neg b = decide (SW ≤ b) := by
  unfold neg SW
  by_cases h1 : 9223372036854775808 ≤ b
  · have : b / 9223372036854775808 = 1 := by omega
    rw [this]; simp [h1]
  · have : b / 9223372036854775808 = 0 := by omega
    rw [this]; simp [h1]

theorem V_zero : V 0 = 0 := by decide
theorem V_pos {r : Nat} (h : 0 < r) : 0 < V r := by have := V_lt h; rw [V_zero] at this; exact this

theorem val_lt (a b : Nat) (ha : a < 18446744073709551616) (hb : b < 18446744073709551616) : (val a < val b) = (ikey a < ikey b) := by
  unfold val ikey
  rw [neg_of a ha, neg_of b hb]
  have mlt : ∀ {r s : Nat}, r < s → V r < V s := fun h => V_lt h
  have mle : ∀ {r s : Nat}, V r < V s → r < s := by
    intro r s h
    rcases Nat.lt_trichotomy r s with h1 | h1 | h1
    · exact h1
    · rw [h1] at h; omega
    · have := V_lt h1; omega
  have va : ∀ r, 0 < r → 0 < V r := fun r h => V_pos h
  by_cases h1 : SW ≤ a <;> by_cases h2 : SW ≤ b
  · have ea : a % SW = a - SW := by unfold SW at *; omega
    have eb : b % SW = b - SW := by unfold SW at *; omega
    simp only [h1, h2, decide_true, if_true, if_neg (Nat.not_lt.2 h1), if_neg (Nat.not_lt.2 h2), ea, eb]
    refine propext ⟨fun h => ?_, fun h => ?_⟩
    · have := mle (r := b - SW) (s := a - SW) (by omega); omega
    · have := mlt (r := b - SW) (s := a - SW) (by omega); omega
  · have ea : a % SW = a - SW := by unfold SW at *; omega
    have eb : b % SW = b := Nat.mod_eq_of_lt (by omega)
    simp only [h1, h2, decide_true, decide_false, if_true, if_neg (Nat.not_lt.2 h1), if_pos (Nat.not_le.1 h2), ea, eb]
    refine propext ⟨fun h => ?_, fun h => ?_⟩
    · by_cases z1 : a - SW = 0
      · by_cases z2 : b = 0
        · rw [z1, z2] at h; simp [V_zero] at h
        · omega
      · omega
    · by_cases z1 : a - SW = 0
      · have := va b (by omega); rw [z1, V_zero]; simp; omega
      · have := va (a - SW) (by omega); simp; omega
  · have eb : b % SW = b - SW := by unfold SW at *; omega
    have ea : a % SW = a := Nat.mod_eq_of_lt (by omega)
    simp only [h1, h2, decide_true, decide_false, if_true, if_neg (Nat.not_lt.2 h2), if_pos (Nat.not_le.1 h1), ea, eb]
    refine propext ⟨fun h => ?_, fun h => ?_⟩
    · simp at h; omega
    · omega
  · have ea : a % SW = a := Nat.mod_eq_of_lt (by omega)
    have eb : b % SW = b := Nat.mod_eq_of_lt (by omega)
    simp only [h1, h2, decide_false, if_pos (Nat.not_le.1 h1), if_pos (Nat.not_le.1 h2), ea, eb]
    refine propext ⟨fun h => ?_, fun h => ?_⟩
    · have := mle (r := a) (s := b) (by simpa using h); omega
    · have := mlt (r := a) (s := b) (by omega); simpa using this

theorem val_ord (a b : Nat) (ha : a < 18446744073709551616) (hb : b < 18446744073709551616) : ord (val a) (val b) = ord (ikey a) (ikey b) := by
  have h1 := val_lt a b ha hb
  have h2 := val_lt b a hb ha
  refine ord_congr (by rw [h1]) ⟨fun he => ?_, fun he => ?_⟩
  · have n1 : ¬ ikey b < ikey a := by rw [← h2]; omega
    have n2 : ¬ ikey a < ikey b := by rw [← h1]; omega
    omega
  · have n1 : ¬ val a < val b := by rw [h1]; omega
    have n2 : ¬ val b < val a := by rw [h2]; omega
    omega

/-- THE ORDER OF TWO WORDS -/
theorem order_eq (a b : Nat) (ha : a < 18446744073709551616) (hb : b < 18446744073709551616) :
    Ieee.double.order a b = if isNan a || isNan b then none else some (ord (ikey a) (ikey b)) := by
  have hSI : INF < SW := by decide
  by_cases na : INF < a % SW
  · simp only [isNan, na, decide_true, Bool.true_or, if_true]
    unfold Format.order; rw [read_nan a na]; cases Ieee.double.read b <;> rfl
  · by_cases nb : INF < b % SW
    · simp only [isNan, nb, decide_true, Bool.or_true, if_true]
      unfold Format.order; rw [read_nan b nb]; cases Ieee.double.read a <;> rfl
    · simp only [isNan, na, nb, decide_false, Bool.or_false]
      rw [if_neg (by simp)]
      have ka : (ikey a = (a % SW : Nat) ∧ neg a = false) ∨ (ikey a = -((a % SW : Nat) : Int) ∧ neg a = true) := by
        rw [neg_of a ha]; unfold ikey
        by_cases h : a < SW
        · left; rw [if_pos h, Nat.mod_eq_of_lt h]; exact ⟨rfl, by simp; omega⟩
        · right; rw [if_neg h]; refine ⟨?_, by simp; omega⟩
          have : a % SW = a - SW := by unfold SW at *; omega
          rw [this]; omega
      have kb : (ikey b = (b % SW : Nat) ∧ neg b = false) ∨ (ikey b = -((b % SW : Nat) : Int) ∧ neg b = true) := by
        rw [neg_of b hb]; unfold ikey
        by_cases h : b < SW
        · left; rw [if_pos h, Nat.mod_eq_of_lt h]; exact ⟨rfl, by simp; omega⟩
        · right; rw [if_neg h]; refine ⟨?_, by simp; omega⟩
          have : b % SW = b - SW := by unfold SW at *; omega
          rw [this]; omega
      by_cases ia : a % SW = INF
      · by_cases ib : b % SW = INF
        · unfold Format.order; rw [read_inf a ia, read_inf b ib]
          simp only [Datum.order]
          rw [ia] at ka; rw [ib] at kb
          rcases ka with ⟨k1, n1⟩ | ⟨k1, n1⟩ <;> rcases kb with ⟨k2, n2⟩ | ⟨k2, n2⟩ <;> rw [k1, n1, k2, n2] <;> decide
        · have hb' : b % SW < INF := by omega
          unfold Format.order; rw [read_inf a ia, read_num b hb']
          simp only [Datum.order, ord]
          rw [ia] at ka
          rcases ka with ⟨k1, n1⟩ | ⟨k1, n1⟩ <;> rcases kb with ⟨k2, n2⟩ | ⟨k2, n2⟩ <;> rw [k1, n1, k2]
          · rw [if_neg (by simp), if_neg (by omega), if_neg (by omega)]
          · rw [if_neg (by simp), if_neg (by omega), if_neg (by omega)]
          · rw [if_pos rfl, if_pos (by omega)]
          · rw [if_pos rfl, if_pos (by omega)]
      · have ha' : a % SW < INF := by omega
        by_cases ib : b % SW = INF
        · unfold Format.order; rw [read_num a ha', read_inf b ib]
          simp only [Datum.order, ord]
          rw [ib] at kb
          rcases ka with ⟨k1, n1⟩ | ⟨k1, n1⟩ <;> rcases kb with ⟨k2, n2⟩ | ⟨k2, n2⟩ <;> rw [k1, k2, n2]
          · rw [if_neg (by simp), if_pos (by omega)]
          · rw [if_pos rfl, if_neg (by omega), if_neg (by omega)]
          · rw [if_neg (by simp), if_pos (by omega)]
          · rw [if_pos rfl, if_neg (by omega), if_neg (by omega)]
        · have hb' : b % SW < INF := by omega
          rw [order_num a b ha' hb', val_ord a b ha hb]

/-- x != x -/
theorem ne_self (b : Nat) (hb : b < 18446744073709551616) : (Ieee.double.order b b != some .eq) = isNan b := by
  rw [order_eq b b hb hb]
  cases h : isNan b
  · simp [ord]
  · simp
/-- x == x -/
theorem eq_self (b : Nat) (hb : b < 18446744073709551616) : (Ieee.double.order b b == some .eq) = !isNan b := by
  rw [order_eq b b hb hb]
  cases h : isNan b
  · simp [ord]
  · simp

/-- one word of all that are alike -/
def canonB (b : Nat) : Nat := if isNan b then NAN else if b = SW then 0 else b

theorem ikey_zero : ikey 0 = 0 := by decide
theorem ikey_eq_zero (b : Nat) : (ikey b = 0) = (b = 0 ∨ b = SW) := by
  unfold ikey
  refine propext ?_
  by_cases h : b < SW
  · rw [if_pos h]; omega
  · rw [if_neg h]; unfold SW at *; omega
/-- x == 0 -/
theorem eq_zero (b : Nat) (hb : b < 18446744073709551616) : (Ieee.double.order b 0 == some .eq) = (!isNan b && (decide (b = 0) || decide (b = SW))) := by
  rw [order_eq b 0 hb (by decide)]
  have z : isNan 0 = false := by decide
  rw [z, ikey_zero]
  cases h : isNan b
  · simp only [Bool.or_self, Bool.false_eq_true, if_false, Bool.not_false, Bool.true_and]
    unfold ord
    have := ikey_eq_zero b
    by_cases h0 : ikey b = 0
    · have h1 := h0; rw [this] at h1
      rw [if_neg (by omega), if_pos h0]
      rcases h1 with h1 | h1 <;> simp [h1]
    · have h1 := h0; rw [this] at h1
      have n1 : b ≠ 0 := fun h => h1 (Or.inl h)
      have n2 : b ≠ SW := fun h => h1 (Or.inr h)
      rw [if_neg h0]
      split <;> simp [n1, n2]
  · simp

theorem canonB_lt (b : Nat) (hb : b < 18446744073709551616) : canonB b < 18446744073709551616 := by
  unfold canonB NAN; split
  · omega
  · split <;> omega

theorem isNan_NAN : isNan NAN = true := by decide
theorem isNan_zero : isNan 0 = false := by decide
theorem canonB_nan {b : Nat} (h : isNan b = true) : canonB b = NAN := by unfold canonB; rw [h]; rfl
theorem canonB_num {b : Nat} (h : isNan b = false) (h2 : b ≠ SW) : canonB b = b := by unfold canonB; rw [h, if_neg (by simp), if_neg h2]
theorem canonB_sw : canonB SW = 0 := by decide
theorem canonB_canonB (b : Nat) : canonB (canonB b) = canonB b := by
  by_cases h : isNan b = true
  · rw [canonB_nan h, canonB_nan isNan_NAN]
  · have h' : isNan b = false := by simpa using h
    by_cases h2 : b = SW
    · rw [h2, canonB_sw]; decide
    · rw [canonB_num h' h2, canonB_num h' h2]
theorem isNan_canonB (b : Nat) : isNan (canonB b) = isNan b := by
  by_cases h : isNan b = true
  · rw [canonB_nan h, isNan_NAN, h]
  · have h' : isNan b = false := by simpa using h
    by_cases h2 : b = SW
    · rw [h2, canonB_sw]; decide
    · rw [canonB_num h' h2]
/-- a number and its canon are equal -/
theorem canon_eq (b : Nat) (hb : b < 18446744073709551616) (h : isNan b = false) : (Ieee.double.order (canonB b) b == some .eq) = true := by
  rw [order_eq _ _ (canonB_lt b hb) hb, isNan_canonB, h]
  have : ikey (canonB b) = ikey b := by
    by_cases h2 : b = SW
    · rw [h2, canonB_sw]; decide
    · rw [canonB_num h h2]
  rw [this]; simp [ord]

theorem zero_yes (b : Nat) (h : b = 0 ∨ b = SW) : (Ieee.double.order b 0 == some .eq) = true := by
  rcases h with h | h <;> rw [h] <;> decide +kernel
theorem zero_no (b : Nat) (hb : b < 18446744073709551616) (h0 : b ≠ 0) (h1 : b ≠ SW) : (Ieee.double.order b 0 == some .eq) = false := by
  rw [eq_zero b hb]; simp [h0, h1]
theorem isNan_iff (b : Nat) : isNan b = true ↔ 9218868437227405312 < b % 9223372036854775808 := by
  unfold isNan INF SW; simp
theorem ref_nan {b : Nat} (h : (9218868437227405312 : Int) < (b : Int) % 9223372036854775808) : (9221120237041090561 : Int) = (canonB b : Nat) := by
  rw [canonB_nan ((isNan_iff b).2 (by omega))]; rfl
theorem ref_zero {b : Nat} (h : ((b : Int) == 9223372036854775808) = true) : (0 : Int) = (canonB b : Nat) := by
  have : b = SW := by have := beq_iff_eq.1 h; unfold SW; omega
  rw [this, canonB_sw]; rfl
theorem ref_num {b : Nat} (h : (b : Int) % 9223372036854775808 ≤ 9218868437227405312) (h2 : ((b : Int) == 9223372036854775808) = false) : (b : Int) = (canonB b : Nat) := by
  have n2 : b ≠ SW := by have := beq_eq_false_iff_ne.1 h2; unfold SW; omega
  have n1 : isNan b = false := by
    cases h3 : isNan b
    · rfl
    · have := (isNan_iff b).1 h3; omega
  rw [canonB_num n1 n2]

/-- the bits of the infinity below 0 -/
def NINF : Nat := 18442240474082181120
/-- the opposite's word -/
def negB (b : Nat) : Nat := if b < SW then b + SW else b - SW
theorem neg_xor (b : Nat) (hb : b < 18446744073709551616) : b ^^^ 2 ^ 63 = negB b := by
  unfold negB SW
  have e := Nat.div_add_mod b (2 ^ 63)
  have hm := Nat.mod_lt b (show 0 < 2 ^ 63 by decide)
  by_cases h : b < 9223372036854775808
  · rw [if_pos h]
    have : b ^^^ 2 ^ 63 = b + 2 ^ 63 := by
      have e2 : 2 ^ 63 ^^^ b = 2 ^ 63 ||| b := by
        apply Nat.eq_of_testBit_eq
        intro i
        rw [Nat.testBit_xor, Nat.testBit_or, Nat.testBit_two_pow]
        by_cases hi : 63 = i
        · subst hi
          rw [Nat.testBit_lt_two_pow (by omega)]; simp
        · simp [hi]
      rw [Nat.xor_comm, e2, ← Nat.two_pow_add_eq_or_of_lt (i := 63) (by omega) 1]
      omega
    rw [this]
  · rw [if_neg h]
    obtain ⟨c, rfl⟩ : ∃ c, b = 2 ^ 63 + c := ⟨b - 2 ^ 63, by omega⟩
    have hc : c < 2 ^ 63 := by omega
    have e2 : 2 ^ 63 + c = 2 ^ 63 ||| c := by
      have := Nat.two_pow_add_eq_or_of_lt (i := 63) hc 1
      simpa using this
    have e3 : (2 ^ 63 ||| c) ^^^ 2 ^ 63 = c := by
      apply Nat.eq_of_testBit_eq
      intro i
      rw [Nat.testBit_xor, Nat.testBit_or, Nat.testBit_two_pow]
      by_cases hi : 63 = i
      · subst hi
        rw [Nat.testBit_lt_two_pow hc]; simp
      · simp [hi]
    rw [e2, e3, ← e2]; omega

theorem negB_lt (b : Nat) (hb : b < 18446744073709551616) : negB b < 18446744073709551616 := by unfold negB SW; split <;> omega
theorem negB_mod (b : Nat) (hb : b < 18446744073709551616) : negB b % SW = b % SW := by
  unfold negB SW
  by_cases h : b < 9223372036854775808
  · rw [if_pos h]; omega
  · rw [if_neg h]; omega
theorem isNan_negB (b : Nat) (hb : b < 18446744073709551616) : isNan (negB b) = isNan b := by
  unfold isNan
  rw [negB_mod b hb]
theorem ikey_negB (b : Nat) (hb : b < 18446744073709551616) : ikey (negB b) = -ikey b := by
  unfold ikey negB SW
  by_cases h : b < 9223372036854775808
  · rw [if_pos h, if_neg (by omega), if_pos h]; omega
  · rw [if_neg h, if_pos (by omega), if_neg h]; omega

theorem ikey_le (b : Nat) (h : isNan b = false) (hb : b < 18446744073709551616) : ikey b ≤ 9218868437227405312 ∧ -9218868437227405312 ≤ ikey b := by
  have h' : ¬ 9218868437227405312 < b % 9223372036854775808 := by
    intro hc; have := (isNan_iff b).2 hc; rw [h] at this; cases this
  unfold ikey SW
  split <;> omega

/-- x > the greatest: only the infinity -/
theorem gt_max (b : Nat) (hb : b < 18446744073709551616) : (Ieee.double.order b 9218868437227405311 == some .gt) = decide (b = INF) := by
  rw [order_eq b _ hb (by decide), show isNan 9218868437227405311 = false by decide, Bool.or_false]
  have k : ikey 9218868437227405311 = 9218868437227405311 := by decide
  cases h : isNan b
  · rw [if_neg (by simp), k]
    have := ikey_le b h hb
    by_cases hi : b = INF
    · rw [hi]; decide
    · have n : ikey b ≠ 9218868437227405312 := by
        intro hc
        unfold ikey SW at hc
        unfold INF at hi
        split at hc <;> omega
      simp only [hi, decide_false]
      unfold ord
      by_cases h1 : ikey b < 9218868437227405311
      · rw [if_pos h1]; rfl
      · rw [if_neg h1, if_pos (by omega)]; rfl
  · rw [if_pos rfl]
    have hi : b ≠ INF := by rintro rfl; revert h; decide
    simp [hi]
theorem negB_inf (b : Nat) (hb : b < 18446744073709551616) : decide (negB b = INF) = decide (b = NINF) := by
  unfold negB INF NINF SW
  rw [decide_eq_decide]
  split <;> omega

/-- x cut towards 0 -/
def truncB (b : Nat) : Nat := Ieee.double.write ((Ieee.double.read b).integral .zero)
/-- from -2^53 on -/
def geLo (b : Nat) : Bool := Ieee.double.order 14069245235905429504 b == some .lt || Ieee.double.order 14069245235905429504 b == some .eq
/-- up to 2^53 -/
def leHi (b : Nat) : Bool := Ieee.double.order b 4845873199050653696 == some .lt || Ieee.double.order b 4845873199050653696 == some .eq
def isWhole (b : Nat) : Bool := Ieee.double.order (truncB b) b == some .eq
def shortB (b : Nat) : Bool := geLo b && leHi b && isWhole b
theorem geLo_nan (b : Nat) (hb : b < 18446744073709551616) (h : geLo b = true) : isNan b = false := by
  unfold geLo at h
  rw [order_eq _ b (by decide) hb] at h
  cases hn : isNan b
  · rfl
  · rw [hn] at h; simp at h

end RealMath
