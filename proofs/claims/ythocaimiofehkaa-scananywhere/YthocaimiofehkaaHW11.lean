/- The contract of the reference's cube. -/
import Derived.Test.YthocaimiofehkaaHW10
namespace Go.Proofs.Ythocaimiofehkaa.Hs
open Go.RowKit HashMath

set_option maxHeartbeats 1000000 in
theorem cube_any (a n : Nat) (w : World) :
    Calls Try.prog 65 #[.int .u64 a, .int .u64 n] w fun e w' => e = .returned (.bool (cuB a n)) ∧ w = w' := by
  go_enter Try.func65, Try.ntmps65
  go_wp2_with fail
  refine (wide_any a a w).mono ?_
  rintro e w' ⟨rfl, rfl⟩
  go_wp2_with fail
  refine (wide_any (wLo a a) a w).mono ?_
  rintro e w' ⟨rfl, rfl⟩
  go_wp2_with fail
  refine (wide_any (wHi a a) a w).mono ?_
  rintro e w' ⟨rfl, rfl⟩
  have HC := Lib.hid (cube_nums a n)
  generalize cMid a % 4294967296 = mr at *
  generalize cMid a / 4294967296 = md at *
  generalize cZ a * 4294967296 % Q = sh at *
  generalize cMid a = mid at *
  generalize cTop a = top at *
  generalize cRest a = rest at *
  generalize (wHi (wHi a a) a + 1) % Q = z1 at *
  generalize cZ a = zz at *
  generalize wLo (wHi a a) a = v at *
  generalize wHi (wLo a a) a = x at *
  generalize wLo (wLo a a) a = y at *
  generalize wHi (wHi a a) a = z at *
  generalize wHi a a = hi at *
  generalize wLo a a = lo at *
  have hmid := HC.out.h_mid
  have hz1 := HC.out.h_z1
  have hsh := HC.out.h_sh
  have hdv := HC.out.h_dv
  have htop := HC.out.h_top
  have htm := HC.out.h_tm
  have hem := HC.out.h_em
  have hrest := HC.out.h_rest
  by_cases hc : mid < v
  · have t0 : decide ((mid : Int) < v) = true := decide_eq_true (by omega)
    have hzz := HC.out.h_zz
    rw [if_pos hc] at hzz
    subst hzz
    have HB := Lib.hid HC.out.h_b
    go_upto_region 9 with fail
    clear hmid hz1 hsh hdv htop htm hem hrest hc t0 HC
    by_cases h1 : top < n
    · have t1 : decide ((top : Int) < n) = true := decide_eq_true (by omega)
      go_wp2
      go_ret
      exact ⟨ret_bool (by rw [HB.out]; simp [h1]), rfl⟩
    · have t1 : decide ((top : Int) < n) = false := decide_eq_false (by omega)
      by_cases h2 : top = n
      · subst h2
        by_cases h3 : rest = 0
        · have t3 : ((rest : Int) == 0) = true := beq_iff_eq.2 (by omega)
          go_wp2
          go_ret
          exact ⟨ret_bool (by rw [HB.out]; simp [h3]), rfl⟩
        · have t3 : ((rest : Int) == 0) = false := beq_eq_false_iff_ne.2 (by omega)
          go_wp2
          go_ret
          exact ⟨ret_bool (by rw [HB.out]; simp [h1, h3]), rfl⟩
      · have t2 : ((top : Int) == n) = false := beq_eq_false_iff_ne.2 (by omega)
        go_wp2
        go_ret
        exact ⟨ret_bool (by rw [HB.out]; simp [h1, h2]), rfl⟩
  · have t0 : decide ((mid : Int) < v) = false := decide_eq_false (by omega)
    have hzz := HC.out.h_zz
    rw [if_neg hc] at hzz
    subst hzz
    have HB := Lib.hid HC.out.h_b
    go_upto_region 9 with fail
    clear hmid hz1 hsh hdv htop htm hem hrest hc t0 HC
    by_cases h1 : top < n
    · have t1 : decide ((top : Int) < n) = true := decide_eq_true (by omega)
      go_wp2
      go_ret
      exact ⟨ret_bool (by rw [HB.out]; simp [h1]), rfl⟩
    · have t1 : decide ((top : Int) < n) = false := decide_eq_false (by omega)
      by_cases h2 : top = n
      · subst h2
        by_cases h3 : rest = 0
        · have t3 : ((rest : Int) == 0) = true := beq_iff_eq.2 (by omega)
          go_wp2
          go_ret
          exact ⟨ret_bool (by rw [HB.out]; simp [h3]), rfl⟩
        · have t3 : ((rest : Int) == 0) = false := beq_eq_false_iff_ne.2 (by omega)
          go_wp2
          go_ret
          exact ⟨ret_bool (by rw [HB.out]; simp [h1, h3]), rfl⟩
      · have t2 : ((top : Int) == n) = false := beq_eq_false_iff_ne.2 (by omega)
        go_wp2
        go_ret
        exact ⟨ret_bool (by rw [HB.out]; simp [h1, h2]), rfl⟩
end Go.Proofs.Ythocaimiofehkaa.Hs
