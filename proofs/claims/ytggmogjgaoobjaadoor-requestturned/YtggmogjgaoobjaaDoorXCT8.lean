/- Plain facts on the words of float64: what is a NaN, and that the order of the others is that of a whole number read off the word. No program is named. -/
import Ieee.Arith
import GoSem.Claim
import Derived.Test.YtggmogjgaoobjaaDoorXCT4
namespace RealMath
open Ieee

/-- the rung of the infinity -/
def INF : Nat := 9218868437227405312
/-- the sign's weight -/
def SW : Nat := 9223372036854775808
/-- the one NaN -/
def NAN : Nat := 9221120237041090561

def isNan (b : Nat) : Bool := decide (INF < b % SW)

/-- a whole number by which the words that are numbers stand in order -/
def ikey (b : Nat) : Int := if b < SW then (b : Int) else -((b : Int) - (SW : Int))

/-- the magnitude of a rung, in units of the least place -/
def V (r : Nat) : Nat := if r < 4503599627370496 then r else (4503599627370496 + r % 4503599627370496) * 2 ^ (r / 4503599627370496 - 1)
/-- the shift of a rung -/
def K (r : Nat) : Nat := if r < 4503599627370496 then 0 else r / 4503599627370496 - 1
/-- the digits of a rung -/
def M (r : Nat) : Nat := if r < 4503599627370496 then r else 4503599627370496 + r % 4503599627370496

theorem MK (r : Nat) : M r * 2 ^ K r = V r := by
  unfold M K V; split <;> simp

theorem V_lt {r s : Nat} (h : r < s) : V r < V s := by
  have hr := Nat.div_add_mod r 4503599627370496
  have hs := Nat.div_add_mod s 4503599627370496
  have mr := Nat.mod_lt r (show 0 < 4503599627370496 by decide)
  have ms := Nat.mod_lt s (show 0 < 4503599627370496 by decide)
  unfold V
  by_cases h1 : r < 4503599627370496
  · rw [if_pos h1]
    by_cases h2 : s < 4503599627370496
    · rw [if_pos h2]; exact h
    · rw [if_neg h2]
      have : 0 < 2 ^ (s / 4503599627370496 - 1) := Nat.two_pow_pos _
      calc r < 4503599627370496 + s % 4503599627370496 := by omega
        _ = (4503599627370496 + s % 4503599627370496) * 1 := (Nat.mul_one _).symm
        _ ≤ _ := Nat.mul_le_mul_left _ this
  · have h2 : ¬ s < 4503599627370496 := by omega
    rw [if_neg h1, if_neg h2]
    by_cases he : r / 4503599627370496 = s / 4503599627370496
    · rw [he]
      refine Nat.mul_lt_mul_of_pos_right ?_ (Nat.two_pow_pos _)
      rw [he] at hr
      omega
    · have hlt : r / 4503599627370496 < s / 4503599627370496 := by
        have := Nat.div_le_div_right (c := 4503599627370496) (Nat.le_of_lt h)
        omega
      have e1 : 1 ≤ r / 4503599627370496 := by omega
      have e2 : s / 4503599627370496 - 1 = (r / 4503599627370496 - 1) + 1 + (s / 4503599627370496 - r / 4503599627370496 - 1) := by omega
      calc (4503599627370496 + r % 4503599627370496) * 2 ^ (r / 4503599627370496 - 1)
          < 9007199254740992 * 2 ^ (r / 4503599627370496 - 1) := Nat.mul_lt_mul_of_pos_right (by omega) (Nat.two_pow_pos _)
        _ = 4503599627370496 * 2 ^ (r / 4503599627370496 - 1 + 1) := by rw [Nat.pow_succ]; omega
        _ ≤ 4503599627370496 * 2 ^ (s / 4503599627370496 - 1) := by
            refine Nat.mul_le_mul_left _ ?_
            exact Nat.pow_le_pow_right (by decide) (by omega)
        _ ≤ _ := Nat.mul_le_mul_right _ (by omega)

theorem V_inj {r s : Nat} (h : V r = V s) : r = s := by
  rcases Nat.lt_trichotomy r s with h1 | h1 | h1
  · have := V_lt h1; omega
  · exact h1
  · have := V_lt h1; omega

theorem dSW : Ieee.double.signWeight = SW := by decide +kernel
theorem dBin : Ieee.double.binade = 4503599627370496 := by decide +kernel
theorem dInf : Ieee.double.infRung = INF := by decide +kernel

/-- the sign of a word -/
def neg (b : Nat) : Bool := b / SW % 2 == 1

theorem read_num (b : Nat) (h : b % SW < INF) :
    Ieee.double.read b = .number (neg b) (M (b % SW)) (Ieee.double.leastPlace + (K (b % SW) : Int)) := by
  unfold Format.read neg M K
  simp only [dSW, dBin, dInf]
  by_cases h1 : b % SW < 4503599627370496
  · simp [h1]
  · rw [if_neg h1, if_pos h, if_neg h1, if_neg h1]

theorem read_inf (b : Nat) (h : b % SW = INF) : Ieee.double.read b = .infinity (neg b) := by
  unfold Format.read neg
  simp only [dSW, dBin, dInf]
  rw [if_neg (by rw [h]; decide), if_neg (by rw [h]; decide), if_pos h]

theorem read_nan (b : Nat) (h : INF < b % SW) : Ieee.double.read b = .nan (neg b) (b % SW - INF) := by
  unfold Format.read neg
  simp only [dSW, dBin, dInf]
  have : (4503599627370496 : Nat) < INF := by decide
  rw [if_neg (by omega), if_neg (by omega), if_neg (by omega)]

def ord (a b : Int) : Ordering := if a < b then .lt else if a = b then .eq else .gt
theorem compare_int (a b : Int) : compare a b = ord a b := rfl

theorem ord_congr {a b c d : Int} (h1 : a < b ↔ c < d) (h2 : a = b ↔ c = d) : ord a b = ord c d := by
  unfold ord
  by_cases g1 : c < d
  · rw [if_pos g1, if_pos (h1.2 g1)]
  · rw [if_neg g1, if_neg (fun h => g1 (h1.1 h))]
    by_cases g2 : c = d
    · rw [if_pos g2, if_pos (h2.2 g2)]
    · rw [if_neg g2, if_neg (fun h => g2 (h2.1 h))]

theorem ord_scale (a b : Int) (c : Nat) (hc : 0 < c) : ord (a * c) (b * c) = ord a b := by
  have hc' : (0 : Int) < c := by omega
  exact ord_congr ⟨fun h => Int.lt_of_mul_lt_mul_right h (Int.le_of_lt hc'), fun h => Int.mul_lt_mul_of_pos_right h hc'⟩ ⟨fun h => Int.eq_of_mul_eq_mul_right (by omega) h, fun h => by rw [h]⟩

/-- the value of a word -/
def val (b : Nat) : Int := if neg b then -(V (b % SW) : Int) else (V (b % SW) : Int)

theorem signed_mul (s : Bool) (m u c : Nat) : signed s m u * (2 ^ c : Nat) = if s then -((m * 2 ^ (u + c) : Nat) : Int) else ((m * 2 ^ (u + c) : Nat) : Int) := by
  unfold signed
  have e : ((m <<< u : Nat) : Int) * (2 ^ c : Nat) = ((m * 2 ^ (u + c) : Nat) : Int) := by
    rw [Nat.shiftLeft_eq, Nat.pow_add, ← Nat.mul_assoc, Int.natCast_mul]
    simp
  cases s
  · simpa using e
  · simp only [if_true]; rw [Int.neg_mul, e]

theorem order_num (a b : Nat) (ha : a % SW < INF) (hb : b % SW < INF) : Ieee.double.order a b = some (ord (val a) (val b)) := by
  unfold Format.order
  rw [read_num a ha, read_num b hb]
  simp only [Datum.order, compare_int]
  congr 1
  generalize Ieee.double.leastPlace = L
  have e1 : (L + (K (a % SW) : Int) - min (L + (K (a % SW) : Int)) (L + (K (b % SW) : Int))).toNat = K (a % SW) - min (K (a % SW)) (K (b % SW)) := by omega
  have e2 : (L + (K (b % SW) : Int) - min (L + (K (a % SW) : Int)) (L + (K (b % SW) : Int))).toNat = K (b % SW) - min (K (a % SW)) (K (b % SW)) := by omega
  rw [e1, e2]
  rw [← ord_scale _ _ (2 ^ min (K (a % SW)) (K (b % SW))) (Nat.two_pow_pos _), signed_mul, signed_mul]
  rw [Nat.sub_add_cancel (Nat.min_le_left _ _), Nat.sub_add_cancel (Nat.min_le_right _ _), MK, MK]
  rfl

theorem neg_of (b : Nat) (h : b < 18446744073709551616) : neg b = decide (SW ≤ b) := by
  unfold neg SW
  by_cases h1 : 9223372036854775808 ≤ b
  · have : b / 9223372036854775808 = 1 := by omega
    rw [this]; simp [h1]
  · have : b / 9223372036854775808 = 0 := by omega
    rw [this]; simp [h1]

theorem V_zero : V 0 = 0 := by decide
theorem V_pos {r : Nat} (h : 0 < r) : 0 < V r := by have := V_lt h; rw [V_zero] at this; exact this

theorem val_lt (a b : Nat) (ha : a < 18446744073709551616) (hb : b < 18446744073709551616) : (val a < val b) = (ikey a < ikey b) := by
  unfold val ikey
  rw [neg_of a ha, neg_of b hb]
  have mlt : ∀ {r s : Nat}, r < s → V r < V s := fun h => V_lt h
  have mle : ∀ {r s : Nat}, V r < V s → r < s := by
    intro r s h
    rcases Nat.lt_trichotomy r s with h1 | h1 | h1
    · exact h1
    · rw [h1] at h; omega
    · have := V_lt h1; omega
  have va : ∀ r, 0 < r → 0 < V r := fun r h => V_pos h
  by_cases h1 : SW ≤ a <;> by_cases h2 : SW ≤ b
  · have ea : a % SW = a - SW := by unfold SW at *; omega
    have eb : b % SW = b - SW := by unfold SW at *; omega
    simp only [h1, h2, decide_true, if_true, if_neg (Nat.not_lt.2 h1), if_neg (Nat.not_lt.2 h2), ea, eb]
    refine propext ⟨fun h => ?_, fun h => ?_⟩
    · have := mle (r := b - SW) (s := a - SW) (by omega); omega
    · have := mlt (r := b - SW) (s := a - SW) (by omega); omega
  · have ea : a % SW = a - SW := by unfold SW at *; omega
    have eb : b % SW = b := Nat.mod_eq_of_lt (by omega)
    simp only [h1, h2, decide_true, decide_false, if_true, if_neg (Nat.not_lt.2 h1), if_pos (Nat.not_le.1 h2), ea, eb]
    refine propext ⟨fun h => ?_, fun h => ?_⟩
    · by_cases z1 : a - SW = 0
      · by_cases z2 : b = 0
        · rw [z1, z2] at h; simp [V_zero] at h
        · omega
      · omega
    · by_cases z1 : a - SW = 0
      · have := va b (by omega); rw [z1, V_zero]; simp; omega
      · have := va (a - SW) (by omega); simp; omega
  · have eb : b % SW = b - SW := by unfold SW at *; omega
    have ea : a % SW = a := Nat.mod_eq_of_lt (by omega)
    simp only [h1, h2, decide_true, decide_false, if_true, if_neg (Nat.not_lt.2 h2), if_pos (Nat.not_le.1 h1), ea, eb]
    refine propext ⟨fun h => ?_, fun h => ?_⟩
    · simp at h; omega
    · omega
  · have ea : a % SW = a := Nat.mod_eq_of_lt (by omega)
    have eb : b % SW = b := Nat.mod_eq_of_lt (by omega)
    simp only [h1, h2, decide_false, if_pos (Nat.not_le.1 h1), if_pos (Nat.not_le.1 h2), ea, eb]
    refine propext ⟨fun h => ?_, fun h => ?_⟩
    · have := mle (r := a) (s := b) (by simpa using h); omega
    · have := mlt (r := a) (s := b) (by omega); simpa using this

theorem val_ord (a b : Nat) (ha : a < 18446744073709551616) (hb : b < 18446744073709551616) : ord (val a) (val b) = ord (ikey a) (ikey b) := by
  have h1 := val_lt a b ha hb
  have h2 := val_lt b a hb ha
  refine ord_congr (by rw [h1]) ⟨fun he => ?_, fun he => ?_⟩
  · have n1 : ¬ ikey b < ikey a := by rw [← h2]; omega
    have n2 : ¬ ikey a < ikey b := by rw [← h1]; omega
    omega
  · have n1 : ¬ val a < val b := by rw [h1]; omega
    have n2 : ¬ val b < val a := by rw [h2]; omega
    omega

/-- THE ORDER OF TWO WORDS -/
theorem order_eq (a b : Nat) (ha : a < 18446744073709551616) (hb : b < 18446744073709551616) :
    Ieee.double.order a b = if isNan a || isNan b then none else some (ord (ikey a) (ikey b)) := by
  have hSI : INF < SW := by decide
  by_cases na : INF < a % SW
  · simp only [isNan, na, decide_true, Bool.true_or, if_true]
    unfold Format.order; rw [read_nan a na]; cases Ieee.double.read b <;> rfl
  · by_cases nb : INF < b % SW
    · simp only [isNan, nb, decide_true, Bool.or_true, if_true]
      unfold Format.order; rw [read_nan b nb]; cases Ieee.double.read a <;> rfl
    · simp only [isNan, na, nb, decide_false, Bool.or_false]
      rw [if_neg (by simp)]
      have ka : (ikey a = (a % SW : Nat) ∧ neg a = false) ∨ (ikey a = -((a % SW : Nat) : Int) ∧ neg a = true) := by
        rw [neg_of a ha]; unfold ikey
        by_cases h : a < SW
        · left; rw [if_pos h, Nat.mod_eq_of_lt h]; exact ⟨rfl, by simp; omega⟩
        · right; rw [if_neg h]; refine ⟨?_, by simp; omega⟩
          have : a % SW = a - SW := by unfold SW at *; omega
          rw [this]; omega
      have kb : (ikey b = (b % SW : Nat) ∧ neg b = false) ∨ (ikey b = -((b % SW : Nat) : Int) ∧ neg b = true) := by
        rw [neg_of b hb]; unfold ikey
        by_cases h : b < SW
        · left; rw [if_pos h, Nat.mod_eq_of_lt h]; exact ⟨rfl, by simp; omega⟩
        · right; rw [if_neg h]; refine ⟨?_, by simp; omega⟩
          have : b % SW = b - SW := by unfold SW at *; omega
          rw [this]; omega
      by_cases ia : a % SW = INF
      · by_cases ib : b % SW = INF
        · unfold Format.order; rw [read_inf a ia, read_inf b ib]
          simp only [Datum.order]
          rw [ia] at ka; rw [ib] at kb
          rcases ka with ⟨k1, n1⟩ | ⟨k1, n1⟩ <;> rcases kb with ⟨k2, n2⟩ | ⟨k2, n2⟩ <;> rw [k1, n1, k2, n2] <;> decide
        · have hb' : b % SW < INF := by omega
          unfold Format.order; rw [read_inf a ia, read_num b hb']
          simp only [Datum.order, ord]
          rw [ia] at ka
          rcases ka with ⟨k1, n1⟩ | ⟨k1, n1⟩ <;> rcases kb with ⟨k2, n2⟩ | ⟨k2, n2⟩ <;> rw [k1, n1, k2]
          · rw [if_neg (by simp), if_neg (by omega), if_neg (by omega)]
          · rw [if_neg (by simp), if_neg (by omega), if_neg (by omega)]
          · rw [if_pos rfl, if_pos (by omega)]
          · rw [if_pos rfl, if_pos (by omega)]
      · have ha' : a % SW < INF := by omega
        by_cases ib : b % SW = INF
        · unfold Format.order; rw [read_num a ha', read_inf b ib]
          simp only [Datum.order, ord]
          rw [ib] at kb
          rcases ka with ⟨k1, n1⟩ | ⟨k1, n1⟩ <;> rcases kb with ⟨k2, n2⟩ | ⟨k2, n2⟩ <;> rw [k1, k2, n2]
          · rw [if_neg (by simp), if_pos (by omega)]
          · rw [if_pos rfl, if_neg (by omega), if_neg (by omega)]
          · rw [if_neg (by simp), if_pos (by omega)]
          · rw [if_pos rfl, if_neg (by omega), if_neg (by omega)]
        · have hb' : b % SW < INF := by omega
          rw [order_num a b ha' hb', val_ord a b ha hb]

/-- x != x -/
theorem ne_self (b : Nat) (hb : b < 18446744073709551616) : (Ieee.double.order b b != some .eq) = isNan b := by
  rw [order_eq b b hb hb]
  cases h : isNan b
  · simp [ord]
  · simp
/-- x == x -/
theorem eq_self (b : Nat) (hb : b < 18446744073709551616) : (Ieee.double.order b b == some .eq) = !isNan b := by
  rw [order_eq b b hb hb]
  cases h : isNan b
  · simp [ord]
  · simp

/-- one word of all that are alike -/
def canonB (b : Nat) : Nat := if isNan b then NAN else if b = SW then 0 else b

theorem ikey_zero : ikey 0 = 0 := by decide
theorem ikey_eq_zero (b : Nat) : (ikey b = 0) = (b = 0 ∨ b = SW) := by
  unfold ikey
  refine propext ?_
  by_cases h : b < SW
  · rw [if_pos h]; omega
  · rw [if_neg h]; unfold SW at *; omega
/-- x == 0 -/
theorem eq_zero (b : Nat) (hb : b < 18446744073709551616) : (Ieee.double.order b 0 == some .eq) = (!isNan b && (decide (b = 0) || decide (b = SW))) := by
  rw [order_eq b 0 hb (by decide)]
  have z : isNan 0 = false := by decide
  rw [z, ikey_zero]
  cases h : isNan b
  · simp only [Bool.or_self, Bool.false_eq_true, if_false, Bool.not_false, Bool.true_and]
    unfold ord
    have := ikey_eq_zero b
    by_cases h0 : ikey b = 0
    · have h1 := h0; rw [this] at h1
      rw [if_neg (by omega), if_pos h0]
      rcases h1 with h1 | h1 <;> simp [h1]
    · have h1 := h0; rw [this] at h1
      have n1 : b ≠ 0 := fun h => h1 (Or.inl h)
      have n2 : b ≠ SW := fun h => h1 (Or.inr h)
      rw [if_neg h0]
      split <;> simp [n1, n2]
  · simp

theorem canonB_lt (b : Nat) (hb : b < 18446744073709551616) : canonB b < 18446744073709551616 := by
  unfold canonB NAN; split
  · omega
  · split <;> omega

theorem isNan_NAN : isNan NAN = true := by decide
theorem isNan_zero : isNan 0 = false := by decide
theorem canonB_nan {b : Nat} (h : isNan b = true) : canonB b = NAN := by unfold canonB; rw [h]; rfl
theorem canonB_num {b : Nat} (h : isNan b = false) (h2 : b ≠ SW) : canonB b = b := by unfold canonB; rw [h, if_neg (by simp), if_neg h2]
theorem canonB_sw : canonB SW = 0 := by decide
theorem canonB_canonB (b : Nat) : canonB (canonB b) = canonB b := by
  by_cases h : isNan b = true
  · rw [canonB_nan h, canonB_nan isNan_NAN]
  · have h' : isNan b = false := by simpa using h
    by_cases h2 : b = SW
    · rw [h2, canonB_sw]; decide
    · rw [canonB_num h' h2, canonB_num h' h2]
theorem isNan_canonB (b : Nat) : isNan (canonB b) = isNan b := by
  by_cases h : isNan b = true
  · rw [canonB_nan h, isNan_NAN, h]
  · have h' : isNan b = false := by simpa using h
    by_cases h2 : b = SW
    · rw [h2, canonB_sw]; decide
    · rw [canonB_num h' h2]
/-- a number and its canon are equal -/
theorem canon_eq (b : Nat) (hb : b < 18446744073709551616) (h : isNan b = false) : (Ieee.double.order (canonB b) b == some .eq) = true := by
  rw [order_eq _ _ (canonB_lt b hb) hb, isNan_canonB, h]
  have : ikey (canonB b) = ikey b := by
    by_cases h2 : b = SW
    · rw [h2, canonB_sw]; decide
    · rw [canonB_num h h2]
  rw [this]; simp [ord]

theorem zero_yes (b : Nat) (h : b = 0 ∨ b = SW) : (Ieee.double.order b 0 == some .eq) = true := by
  rcases h with h | h <;> rw [h] <;> decide +kernel
theorem zero_no (b : Nat) (hb : b < 18446744073709551616) (h0 : b ≠ 0) (h1 : b ≠ SW) : (Ieee.double.order b 0 == some .eq) = false := by
  rw [eq_zero b hb]; simp [h0, h1]
theorem isNan_iff (b : Nat) : isNan b = true ↔ 9218868437227405312 < b % 9223372036854775808 := by
  unfold isNan INF SW; simp
theorem ref_nan {b : Nat} (h : (9218868437227405312 : Int) < (b : Int) % 9223372036854775808) : (9221120237041090561 : Int) = (canonB b : Nat) := by
  rw [canonB_nan ((isNan_iff b).2 (by omega))]; rfl
theorem ref_zero {b : Nat} (h : ((b : Int) == 9223372036854775808) = true) : (0 : Int) = (canonB b : Nat) := by
  have : b = SW := by have := beq_iff_eq.1 h; unfold SW; omega
  rw [this, canonB_sw]; rfl
theorem ref_num {b : Nat} (h : (b : Int) % 9223372036854775808 ≤ 9218868437227405312) (h2 : ((b : Int) == 9223372036854775808) = false) : (b : Int) = (canonB b : Nat) := by
  have n2 : b ≠ SW := by have := beq_eq_false_iff_ne.1 h2; unfold SW; omega
  have n1 : isNan b = false := by
    cases h3 : isNan b
    · rfl
    · have := (isNan_iff b).1 h3; omega
  rw [canonB_num n1 n2]

/-- the bits of the infinity below 0 -/
def NINF : Nat := 18442240474082181120
/-- the opposite's word -/
def negB (b : Nat) : Nat := if b < SW then b + SW else b - SW
theorem neg_xor (b : Nat) (hb : b < 18446744073709551616) : b ^^^ 2 ^ 63 = negB b := by
  unfold negB SW
  have e := Nat.div_add_mod b (2 ^ 63)
  have hm := Nat.mod_lt b (show 0 < 2 ^ 63 by decide)
  by_cases h : b < 9223372036854775808
  · rw [if_pos h]
    have : b ^^^ 2 ^ 63 = b + 2 ^ 63 := by
      have e2 : 2 ^ 63 ^^^ b = 2 ^ 63 ||| b := by
        apply Nat.eq_of_testBit_eq
        intro i
        rw [Nat.testBit_xor, Nat.testBit_or, Nat.testBit_two_pow]
        by_cases hi : 63 = i
        · subst hi
          rw [Nat.testBit_lt_two_pow (by omega)]; simp
        · simp [hi]
      rw [Nat.xor_comm, e2, ← Nat.two_pow_add_eq_or_of_lt (i := 63) (by omega) 1]
      omega
    rw [this]
  · rw [if_neg h]
    obtain ⟨c, rfl⟩ : ∃ c, b = 2 ^ 63 + c := ⟨b - 2 ^ 63, by omega⟩
    have hc : c < 2 ^ 63 := by omega
    have e2 : 2 ^ 63 + c = 2 ^ 63 ||| c := by
      have := Nat.two_pow_add_eq_or_of_lt (i := 63) hc 1
      simpa using this
    have e3 : (2 ^ 63 ||| c) ^^^ 2 ^ 63 = c := by
      apply Nat.eq_of_testBit_eq
      intro i
      rw [Nat.testBit_xor, Nat.testBit_or, Nat.testBit_two_pow]
      by_cases hi : 63 = i
      · subst hi
        rw [Nat.testBit_lt_two_pow hc]; simp
      · simp [hi]
    rw [e2, e3, ← e2]; omega

theorem negB_lt (b : Nat) (hb : b < 18446744073709551616) : negB b < 18446744073709551616 := by unfold negB SW; split <;> omega
theorem negB_mod (b : Nat) (hb : b < 18446744073709551616) : negB b % SW = b % SW := by
  unfold negB SW
  by_cases h : b < 9223372036854775808
  · rw [if_pos h]; omega
  · rw [if_neg h]; omega
theorem isNan_negB (b : Nat) (hb : b < 18446744073709551616) : isNan (negB b) = isNan b := by
  unfold isNan
  rw [negB_mod b hb]
theorem ikey_negB (b : Nat) (hb : b < 18446744073709551616) : ikey (negB b) = -ikey b := by
  unfold ikey negB SW
  by_cases h : b < 9223372036854775808
  · rw [if_pos h, if_neg (by omega), if_pos h]; omega
  · rw [if_neg h, if_pos (by omega), if_neg h]; omega

theorem ikey_le (b : Nat) (h : isNan b = false) (hb : b < 18446744073709551616) : ikey b ≤ 9218868437227405312 ∧ -9218868437227405312 ≤ ikey b := by
  have h' : ¬ 9218868437227405312 < b % 9223372036854775808 := by
    intro hc; have := (isNan_iff b).2 hc; rw [h] at this; cases this
  unfold ikey SW
  split <;> omega

/-- x > the greatest: only the infinity -/
theorem gt_max (b : Nat) (hb : b < 18446744073709551616) : (Ieee.double.order b 9218868437227405311 == some .gt) = decide (b = INF) := by
  rw [order_eq b _ hb (by decide), show isNan 9218868437227405311 = false by decide, Bool.or_false]
  have k : ikey 9218868437227405311 = 9218868437227405311 := by decide
  cases h : isNan b
  · rw [if_neg (by simp), k]
    have := ikey_le b h hb
    by_cases hi : b = INF
    · rw [hi]; decide
    · have n : ikey b ≠ 9218868437227405312 := by
        intro hc
        unfold ikey SW at hc
        unfold INF at hi
        split at hc <;> omega
      simp only [hi, decide_false]
      unfold ord
      by_cases h1 : ikey b < 9218868437227405311
      · rw [if_pos h1]; rfl
      · rw [if_neg h1, if_pos (by omega)]; rfl
  · rw [if_pos rfl]
    have hi : b ≠ INF := by rintro rfl; revert h; decide
    simp [hi]
theorem negB_inf (b : Nat) (hb : b < 18446744073709551616) : decide (negB b = INF) = decide (b = NINF) := by
  unfold negB INF NINF SW
  rw [decide_eq_decide]
  split <;> omega

/-- x cut towards 0 -/
def truncB (b : Nat) : Nat := Ieee.double.write ((Ieee.double.read b).integral .zero)
/-- from -2^53 on -/
def geLo (b : Nat) : Bool := Ieee.double.order 14069245235905429504 b == some .lt || Ieee.double.order 14069245235905429504 b == some .eq
/-- up to 2^53 -/
def leHi (b : Nat) : Bool := Ieee.double.order b 4845873199050653696 == some .lt || Ieee.double.order b 4845873199050653696 == some .eq
def isWhole (b : Nat) : Bool := Ieee.double.order (truncB b) b == some .eq
def shortB (b : Nat) : Bool := geLo b && leHi b && isWhole b
theorem geLo_nan (b : Nat) (hb : b < 18446744073709551616) (h : geLo b = true) : isNan b = false := by
  unfold geLo at h
  rw [order_eq _ b (by decide) hb] at h
  cases hn : isNan b
  · rfl
  · rw [hn] at h; simp at h

end RealMath

/- Trees as data, and what the document asks of them: how many, how deep, what is right, which are alike. No program is named. -/
namespace TreeMath
open Go RealMath
abbrev By := UInt8
/-- a node but for its kids -/
structure Hd where
  kind : By
  na : Option Addr
  nc : Nat
  names : List (List By)
  ka : Option Addr
  kc : Nat
  da : Option Addr
  dc : Nat
  data : List By
  run : Bool
  stamp : Nat
  target : List By
inductive T where
  | mk (x : Hd) (ks : List T) : T
def T.hd : T → Hd | .mk x _ => x
def T.kids : T → List T | .mk _ ks => ks
mutual
theorem T.ind {P : T → Prop} (h : ∀ x ks, (∀ k ∈ ks, P k) → P (.mk x ks)) : ∀ t, P t
  | .mk x ks => h x ks (T.indL h ks)
theorem T.indL {P : T → Prop} (h : ∀ x ks, (∀ k ∈ ks, P k) → P (.mk x ks)) : ∀ ks : List T, ∀ k ∈ ks, P k
  | [], k, hk => by cases hk
  | a :: l, k, hk => by
    rcases List.mem_cons.1 hk with e | e
    · rw [e]; exact T.ind h a
    · exact T.indL h l k e
end
mutual
/-- a node and all below, with how many are in one another there -/
def pre (d : Nat) : T → List (T × Nat)
  | .mk x ks => (.mk x ks, d) :: preL (d + 1) ks
def preL (d : Nat) : List T → List (T × Nat)
  | [] => []
  | k :: l => pre d k ++ preL d l
end
mutual
def depth : T → Nat
  | .mk _ ks => depthL ks + 1
def depthL : List T → Nat
  | [] => 0
  | k :: l => max (depth k) (depthL l)
end
mutual
def all : T → List T
  | .mk x ks => .mk x ks :: allL ks
def allL : List T → List T
  | [] => []
  | k :: l => all k ++ allL l
end
def count (t : T) : Nat := (all t).length
def hdSame (x y : Hd) : Bool := decide (x.kind = y.kind) && decide (x.run = y.run) && decide (x.target = y.target) && decide (canonB x.stamp = canonB y.stamp) && decide (x.data = y.data) && decide (x.names = y.names)
mutual
def same : T → T → Bool
  | .mk x ks, .mk y ls => hdSame x y && sameL ks ls
def sameL : List T → List T → Bool
  | [], [] => true
  | a :: l, b :: m => same a b && sameL l m
  | [], _ :: _ => false
  | _ :: _, [] => false
end
theorem sameL_length : ∀ {l m : List T}, sameL l m = true → l.length = m.length
  | [], [], _ => rfl
  | a :: l, b :: m, h => by
    rw [sameL, Bool.and_eq_true] at h
    simp [sameL_length h.2]
  | [], _ :: _, h => by simp [sameL] at h
  | _ :: _, [], h => by simp [sameL] at h
theorem sameL_ne {l m : List T} (h : l.length ≠ m.length) : sameL l m = false := by
  cases e : sameL l m with
  | false => rfl
  | true => exact absurd (sameL_length e) h
theorem sameL_get : ∀ {l m : List T} (_ : l.length = m.length) (_ : ∀ i (h1 : i < l.length) (h2 : i < m.length), same l[i] m[i] = true), sameL l m = true
  | [], [], _, _ => by rw [sameL]
  | a :: l, b :: m, h, hs => by
    rw [sameL, Bool.and_eq_true]
    exact ⟨hs 0 (by simp) (by simp), sameL_get (by simpa using h) (fun i h1 h2 => hs (i + 1) (by simpa using h1) (by simpa using h2))⟩
  | [], _ :: _, h, _ => by simp at h
  | _ :: _, [], h, _ => by simp at h
theorem sameL_not : ∀ {l m : List T} (i : Nat) (h1 : i < l.length) (h2 : i < m.length) (_ : same l[i] m[i] = false), sameL l m = false
  | a :: l, b :: m, 0, _, _, h => by rw [sameL, show same a b = false from h]; rfl
  | a :: l, b :: m, i + 1, h1, h2, h => by rw [sameL, sameL_not (l := l) (m := m) i (by simpa using h1) (by simpa using h2) h, Bool.and_false]
  | [], _, _, h, _, _ => by simp at h
  | _ :: _, [], _, _, h, _ => by simp at h
/-- shown one by one, till one says no -/
def runs {σ : Type} (step : σ → T → Nat → σ × Bool) : σ → List (T × Nat) → σ × Bool
  | s, [] => (s, true)
  | s, (t, d) :: l => if (step s t d).2 then runs step (step s t d).1 l else ((step s t d).1, false)
theorem runs_append {σ : Type} (step : σ → T → Nat → σ × Bool) : ∀ (s : σ) (a b : List (T × Nat)), runs step s (a ++ b) = if (runs step s a).2 then runs step (runs step s a).1 b else ((runs step s a).1, false)
  | s, [], b => by simp [runs]
  | s, (t, d) :: l, b => by
    rw [List.cons_append, runs, runs]
    by_cases h : (step s t d).2 = true
    · rw [if_pos h, if_pos h, runs_append step _ l b]
    · rw [if_neg h, if_neg h]; simp
theorem preL_append (d : Nat) : ∀ a b : List T, preL d (a ++ b) = preL d a ++ preL d b
  | [], b => by simp [preL]
  | k :: l, b => by rw [List.cons_append, preL, preL, preL_append d l b, List.append_assoc]
theorem preL_take (d : Nat) (ks : List T) (i : Nat) (h : i < ks.length) : preL d (ks.take (i + 1)) = preL d (ks.take i) ++ pre d ks[i] := by
  rw [List.take_succ_eq_append_getElem h, preL_append]; simp [preL]
theorem allL_append : ∀ a b : List T, allL (a ++ b) = allL a ++ allL b
  | [], b => by simp [allL]
  | k :: l, b => by rw [List.cons_append, allL, allL, allL_append l b, List.append_assoc]
theorem allL_take (ks : List T) (i : Nat) (h : i < ks.length) : allL (ks.take (i + 1)) = allL (ks.take i) ++ all ks[i] := by
  rw [List.take_succ_eq_append_getElem h, allL_append]; simp [allL]
mutual
theorem pre_fst (d : Nat) : ∀ t, (pre d t).map Prod.fst = all t
  | .mk x ks => by rw [pre, all, List.map_cons, preL_fst (d + 1) ks]
theorem preL_fst (d : Nat) : ∀ ks, (preL d ks).map Prod.fst = allL ks
  | [] => by rw [preL, allL]; rfl
  | k :: l => by rw [preL, allL, List.map_append, pre_fst d k, preL_fst d l]
end
/-- the deepest -/
def most (l : List (T × Nat)) : Nat := l.foldl (fun a p => max a p.2) 0
theorem foldl_max (l : List (T × Nat)) : ∀ a, l.foldl (fun a p => max a p.2) a = max a (most l) := by
  unfold most
  induction l with
  | nil => intro a; simp
  | cons p l ih => intro a; rw [List.foldl_cons, List.foldl_cons, ih, ih (max 0 p.2)]; omega
theorem most_append (a b : List (T × Nat)) : most (a ++ b) = max (most a) (most b) := by
  unfold most; rw [List.foldl_append]; exact foldl_max b _
theorem most_cons (p : T × Nat) (l : List (T × Nat)) : most (p :: l) = max p.2 (most l) := by
  show most ([p] ++ l) = _; rw [most_append]; simp [most]
mutual
theorem most_pre (d : Nat) : ∀ t, most (pre (d + 1) t) = d + depth t
  | .mk x ks => by
    rw [pre, most_cons, depth]
    have := most_preL (d + 1) ks
    cases ks with
    | nil => simp [preL, depthL, most]
    | cons k l => rw [this (by simp)]; simp only; omega
theorem most_preL (d : Nat) : ∀ ks, ks ≠ [] → most (preL (d + 1) ks) = d + depthL ks
  | [], h => absurd rfl h
  | [k], _ => by rw [preL, most_append, most_pre d k, preL, depthL, depthL]; simp [most]
  | k :: j :: l, _ => by rw [preL, most_append, most_pre d k, most_preL d (j :: l) (by simp), show depthL (k :: j :: l) = max (depth k) (depthL (j :: l)) by rw [depthL]]; omega
end
theorem most_le {l : List (T × Nat)} {m : Nat} : most l ≤ m ↔ ∀ p ∈ l, p.2 ≤ m := by
  induction l with
  | nil => simp [most]
  | cons p l ih => rw [most_cons, Nat.max_le, ih]; simp
theorem depth_take (ks : List T) (i : Nat) (h : i < ks.length) : depthL (ks.take (i + 1)) = max (depthL (ks.take i)) (depth ks[i]) := by
  have key : ∀ a b : List T, depthL (a ++ b) = max (depthL a) (depthL b) := by
    intro a b; induction a with
    | nil => simp [depthL]
    | cons k l ih => rw [List.cons_append, depthL, depthL, ih]; omega
  rw [List.take_succ_eq_append_getElem h, key]; simp [depthL]
theorem depth_mem {ks : List T} {k : T} (h : k ∈ ks) : depth k ≤ depthL ks := by
  induction ks with
  | nil => cases h
  | cons a l ih =>
    rw [depthL]
    rcases List.mem_cons.1 h with e | e
    · subst e; omega
    · have := ih e; omega
theorem count_mk (x : Hd) (ks : List T) : count (.mk x ks) = (allL ks).length + 1 := by unfold count; rw [all]; simp
theorem count_pos (t : T) : 0 < count t := by cases t; rw [count_mk]; omega
mutual
theorem depth_count : ∀ t, depth t ≤ count t
  | .mk x ks => by rw [count_mk, depth]; have := depthL_count ks; omega
theorem depthL_count : ∀ ks, depthL ks ≤ (allL ks).length
  | [] => by simp [depthL]
  | k :: l => by rw [depthL, allL, List.length_append]; have := depth_count k; have := depthL_count l; unfold count at *; omega
end
/-- how many bytes -/
def size (t : T) : Nat := ((all t).map fun k => k.hd.data.length).sum
/-- may it stand in a directory? -/
def nameOk (s : List By) : Bool := decide (1 ≤ s.length) && decide (s.length ≤ 40) && !(s.any (· == 0)) && !(s.any (· == 47)) && !(s == [46]) && !(s == [46, 46])
def goodAt (ls : List (List By)) (k : Nat) : Bool := nameOk (ls.getD k []) && (decide (k = 0) || Op.bytesLess (ls.getD (k - 1) []) (ls.getD k []))
def namesOk (ls : List (List By)) : Bool := (List.range ls.length).all (goodAt ls)
theorem namesOk_false {ls : List (List By)} (k : Nat) (h : k < ls.length) (hk : goodAt ls k = false) : namesOk ls = false := by
  unfold namesOk; rw [List.all_eq_false]; exact ⟨k, List.mem_range.2 h, by rw [hk]; decide⟩
theorem namesOk_true {ls : List (List By)} (h : ∀ k, k < ls.length → goodAt ls k = true) : namesOk ls = true := by
  unfold namesOk; rw [List.all_eq_true]; intro k hk; exact h k (List.mem_range.1 hk)
theorem namesOk_at {ls : List (List By)} (h : namesOk ls = true) (k : Nat) (hk : k < ls.length) : goodAt ls k = true := by
  unfold namesOk at h; rw [List.all_eq_true] at h; exact h k (List.mem_range.2 hk)
theorem goodAt_zero (ls : List (List By)) (h : 0 < ls.length) : goodAt ls 0 = nameOk ls[0] := by
  unfold goodAt; rw [List.getD_eq_getElem?_getD, List.getElem?_eq_getElem h]; simp
theorem goodAt_pos (ls : List (List By)) (k : Nat) (h0 : 0 < k) (h : k < ls.length) : goodAt ls k = (nameOk ls[k] && Op.bytesLess (ls[k - 1]'(by omega)) ls[k]) := by
  unfold goodAt
  rw [List.getD_eq_getElem?_getD, List.getElem?_eq_getElem h, List.getD_eq_getElem?_getD, List.getElem?_eq_getElem (by omega : k - 1 < ls.length), decide_eq_false (by omega : ¬ k = 0)]
  simp
def zero : Hd := ⟨0, none, 0, [], none, 0, none, 0, [], false, 0, []⟩
def zeroT : T := .mk zero []
/-- no file's field is there -/
def noFile (x : Hd) : Bool := decide (x.data = []) && decide (x.run = false) && decide (canonB x.stamp = 0)
/-- is a node as its kind says, but for its kids? -/
def fitsB : T → Bool
  | .mk x ks =>
    if x.kind = 1 then decide (x.names.length = ks.length) && namesOk x.names && noFile x && decide (x.target = [])
    else if x.kind = 2 then decide (x.data.length ≤ 1024) && decide (x.names = []) && decide (ks.length = 0) && decide (x.target = [])
    else if x.kind = 3 then decide (1 ≤ x.target.length) && decide (x.target.length ≤ 1024) && decide (x.names = []) && decide (ks.length = 0) && noFile x
    else false
theorem same_zero (x : Hd) (ks : List T) : same (.mk x ks) zeroT = (decide (x.kind = 0) && decide (x.run = false) && decide (x.target = []) && decide (canonB x.stamp = 0) && decide (x.data = []) && decide (x.names = []) && decide (ks.length = 0)) := by
  unfold zeroT; rw [same, hdSame]
  have : sameL ks [] = decide (ks.length = 0) := by cases ks <;> simp [sameL]
  rw [this]
  rfl
end TreeMath

/- Archives as bytes. No program is named. -/
namespace PackMath
open TreeMath WireMath RealMath

mutual
/-- a node's bytes -/
def layB : T → List By
  | .mk x ks => x.kind :: (if x.kind = 1 then UInt8.ofNat x.names.length :: layL x.names ks
      else if x.kind = 2 then (if x.run then 1 else 0) :: (wideB (canonB x.stamp) ++ textB x.data)
      else if x.kind = 3 then textB x.target else [])
def layL : List (List By) → List T → List By
  | _, [] => []
  | ls, k :: m => textB (ls.headD []) ++ (layB k ++ layL ls.tail m)
end
def magic : List By := [103, 111, 100, 111, 119, 110, 49]
def arch (t : T) : List By := textB magic ++ layB t
theorem layL_take (ls : List (List By)) (ks : List T) (i : Nat) (h : i < ks.length) (hl : i < ls.length) : layL ls (ks.take (i + 1)) = layL ls (ks.take i) ++ (textB ls[i] ++ layB ks[i]) := by
  induction i generalizing ls ks with
  | zero =>
    cases ks with
    | nil => simp at h
    | cons k m =>
      cases ls with
      | nil => simp at hl
      | cons s l => simp [layL]
  | succ i ih =>
    cases ks with
    | nil => simp at h
    | cons k m =>
      cases ls with
      | nil => simp at hl
      | cons s l =>
        have := ih l m (by simpa using h) (by simpa using hl)
        simp only [List.take_succ_cons, layL, List.tail_cons, List.headD_cons, List.getElem_cons_succ]
        rw [this]
        simp
theorem layL_names (ls : List (List By)) (ks : List T) (i : Nat) : layL (ls.take i) (ks.take i) = layL ls (ks.take i) := by
  induction i generalizing ls ks with
  | zero => simp [layL]
  | succ i ih =>
    cases ks with
    | nil => simp [layL]
    | cons k m =>
      cases ls with
      | nil => simp
      | cons s l => simp only [List.take_succ_cons, layL, List.headD_cons, List.tail_cons, ih l m]
theorem textB_length (s : List By) : (textB s).length = 2 + s.length := by simp [textB, numB]; omega
theorem wideB_length (x : Nat) : (wideB x).length = 8 := by simp [wideB]
theorem names_each {ls : List (List By)} (h : namesOk ls = true) : ∀ s ∈ ls, s.length ≤ 40 := fun s hs => by
  obtain ⟨k, hk, rfl⟩ := List.getElem_of_mem hs
  have h1 := namesOk_at h k hk
  have h2 : nameOk ls[k] = true := by
    by_cases h0 : k = 0
    · subst h0; rw [goodAt_zero ls hk] at h1; exact h1
    · rw [goodAt_pos ls k (by omega) hk, Bool.and_eq_true] at h1; exact h1.1
  unfold nameOk at h2
  simp only [Bool.and_eq_true, decide_eq_true_eq] at h2
  omega
/-- what a node that may be has, by its kind -/
theorem fits_cases {x : Hd} {ks : List T} (h : fitsB (.mk x ks) = true) :
    (x.kind = 1 ∧ x.names.length = ks.length ∧ namesOk x.names = true ∧ noFile x = true ∧ x.target = []) ∨ (x.kind = 2 ∧ x.data.length ≤ 1024 ∧ x.names = [] ∧ ks = [] ∧ x.target = []) ∨
    (x.kind = 3 ∧ 1 ≤ x.target.length ∧ x.target.length ≤ 1024 ∧ x.names = [] ∧ ks = [] ∧ noFile x = true) := by
  simp only [fitsB] at h
  by_cases h1 : x.kind = 1
  · rw [if_pos h1] at h; simp only [Bool.and_eq_true, decide_eq_true_eq] at h; exact .inl ⟨h1, h.1.1.1, h.1.1.2, h.1.2, h.2⟩
  · rw [if_neg h1] at h
    by_cases h2 : x.kind = 2
    · rw [if_pos h2] at h; simp only [Bool.and_eq_true, decide_eq_true_eq] at h; exact .inr (.inl ⟨h2, h.1.1.1, h.1.1.2, List.eq_nil_of_length_eq_zero h.1.2, h.2⟩)
    · rw [if_neg h2] at h
      by_cases h3 : x.kind = 3
      · rw [if_pos h3] at h; simp only [Bool.and_eq_true, decide_eq_true_eq] at h; exact .inr (.inr ⟨h3, h.1.1.1.1, h.1.1.1.2, h.1.1.2, List.eq_nil_of_length_eq_zero h.1.2, h.2⟩)
      · rw [if_neg h3] at h; cases h
/-- all of it may be, node by node -/
def formT (t : T) : Prop := ∀ k ∈ all t, fitsB k = true
theorem all_self' (t : T) : t ∈ all t := by cases t; rw [all]; simp
theorem allL_mem : ∀ {ks : List T} {k j : T}, k ∈ ks → j ∈ all k → j ∈ allL ks
  | a :: l, k, j, h, hj => by
    rw [allL, List.mem_append]
    rcases List.mem_cons.1 h with e | e
    · subst e; exact .inl hj
    · exact .inr (allL_mem e hj)
theorem formT.kid {x : Hd} {ks : List T} (h : formT (.mk x ks)) {k : T} (hk : k ∈ ks) : formT k := fun j hj => h j (by rw [all]; exact List.mem_cons_of_mem _ (allL_mem hk hj))
theorem formT.top {x : Hd} {ks : List T} (h : formT (.mk x ks)) : fitsB (.mk x ks) = true := h _ (all_self' _)
mutual
theorem layB_le : ∀ t, formT t → (layB t).length + 50 ≤ 1100 * count t
  | .mk x ks, h => by
    have hl := layL_le x.names ks (fun k hk => h.kid hk)
    rw [count_mk, layB]
    rcases fits_cases h.top with ⟨h1, h2, h3, -⟩ | ⟨h1, h2, -⟩ | ⟨h1, h2, h3, -⟩
    · have := hl (fun s hs => names_each h3 s hs) h2
      rw [if_pos h1, List.length_cons, List.length_cons]; omega
    · rw [if_neg (by rw [h1]; decide), if_pos h1, List.length_cons, List.length_cons, List.length_append, wideB_length, textB_length]; omega
    · rw [if_neg (by rw [h1]; decide), if_neg (by rw [h1]; decide), if_pos h1, List.length_cons, textB_length]; omega
theorem layL_le : ∀ (ls : List (List By)) (ks : List T), (∀ k ∈ ks, formT k) → (∀ s ∈ ls, s.length ≤ 40) → ls.length = ks.length → (layL ls ks).length ≤ 1100 * (allL ks).length
  | ls, [], _, _, _ => by simp [layL]
  | ls, k :: m, h, h1, h2 => by
    cases ls with
    | nil => simp at h2
    | cons s l =>
      have a1 := layB_le k (h k (by simp))
      have a2 := layL_le l m (fun j hj => h j (by simp [hj])) (fun j hj => h1 j (by simp [hj])) (by simpa using h2)
      have a3 := h1 s (by simp)
      have a4 := count_pos k
      rw [layL, allL, List.length_append, List.length_append, List.length_append, textB_length, List.headD_cons, List.tail_cons]
      unfold count at *
      omega
end
end PackMath
