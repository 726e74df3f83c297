/- The contracts of the reference's wide, square, cube, root. -/
import Derived.Test.YthocaimiofehkaaHW1
import Derived.Test.YthocaimiofehkaaHPrime
import Derived.Deep.DeepCutAuto
namespace Go.Proofs.Ythocaimiofehkaa.Hs
open Go.RowKit HashMath

theorem wrapQ (n : Nat) : IntKind.u64.wrap (n : Int) = ((n % Q : Nat) : Int) := by
  rw [IntKind.wrap_u64]; unfold Q; omega
theorem mul_hl (a b : Nat) : (a : Int) / 4294967296 * ((b : Int) % 4294967296) = ((a / 4294967296 * (b % 4294967296) : Nat) : Int) := by
  rw [Int.natCast_mul, Int.natCast_ediv, Int.natCast_emod]; rfl
theorem mul_ll (a b : Nat) : (a : Int) % 4294967296 * ((b : Int) % 4294967296) = ((a % 4294967296 * (b % 4294967296) : Nat) : Int) := by
  rw [Int.natCast_mul, Int.natCast_emod, Int.natCast_emod]; rfl
theorem mul_lh (a b : Nat) : (a : Int) % 4294967296 * ((b : Int) / 4294967296) = ((a % 4294967296 * (b / 4294967296) : Nat) : Int) := by
  rw [Int.natCast_mul, Int.natCast_ediv, Int.natCast_emod]; rfl
theorem mul_hh (a b : Nat) : (a : Int) / 4294967296 * ((b : Int) / 4294967296) = ((a / 4294967296 * (b / 4294967296) : Nat) : Int) := by
  rw [Int.natCast_mul, Int.natCast_ediv, Int.natCast_ediv]; rfl
theorem div32 (a : Nat) : (a : Int) / 4294967296 = ((a / 4294967296 : Nat) : Int) := by rw [Int.natCast_ediv]; rfl
theorem tmod32 (a : Nat) : (a : Int).tmod 4294967296 = ((a % 4294967296 : Nat) : Int) := by
  rw [Int.tmod_eq_emod_of_nonneg (by omega), Int.natCast_emod]; rfl
theorem mid_eq (a b : Nat) : IntKind.u64.wrap (IntKind.u64.wrap ((a : Int) / 4294967296 * ((b : Int) % 4294967296)) + IntKind.u64.wrap ((a : Int) % 4294967296 * ((b : Int) % 4294967296)) / 4294967296) = ((wMid a b : Nat) : Int) := by
  rw [mul_hl, mul_ll, wrapQ, wrapQ, div32, ← Int.natCast_add, wrapQ]; rfl
theorem low_eq (a b : Nat) : IntKind.u64.wrap (((wMid a b : Nat) : Int).tmod 4294967296 + IntKind.u64.wrap ((a : Int) % 4294967296 * ((b : Int) / 4294967296))) = ((wLow a b : Nat) : Int) := by
  rw [mul_lh, wrapQ, tmod32, ← Int.natCast_add, wrapQ]; rfl
theorem hi_eq (a b : Nat) : IntKind.u64.wrap (IntKind.u64.wrap (IntKind.u64.wrap ((a : Int) / 4294967296 * ((b : Int) / 4294967296)) + ((wMid a b : Nat) : Int) / 4294967296) + ((wLow a b : Nat) : Int) / 4294967296) = ((wHi a b : Nat) : Int) := by
  rw [mul_hh, wrapQ, div32, div32, ← Int.natCast_add, wrapQ, ← Int.natCast_add, wrapQ]; rfl
theorem lo_eq (a b : Nat) : IntKind.u64.wrap ((a : Int) * b) = ((wLo a b : Nat) : Int) := by
  rw [← Int.natCast_mul, wrapQ]; rfl
theorem ret_two {k : IntKind} {a b c d : Int} (h : a = b) (h2 : c = d) : Ending.returned (.tuple #[.int k a, .int k c]) = .returned (.tuple #[.int k b, .int k d]) := by rw [h, h2]

set_option maxHeartbeats 400000 in
theorem wide_any (a b : Nat) (w : World) :
    Calls Try.prog 78 #[.int .u64 a, .int .u64 b] w fun e w' => e = .returned (.tuple #[.int .u64 (wHi a b : Nat), .int .u64 (wLo a b : Nat)]) ∧ w = w' := by
  go_enter Try.func78, Try.ntmps78
  go_wp2
  go_ret2
  refine ⟨ret_two ?_ ?_, rfl⟩
  · rw [mid_eq, low_eq, hi_eq]
  · rw [lo_eq]

theorem wHi_lt (a b : Nat) : wHi a b < 18446744073709551616 := Nat.mod_lt _ (by decide)
theorem wLo_lt (a b : Nat) : wLo a b < 18446744073709551616 := Nat.mod_lt _ (by decide)

theorem ret_bool {a b : Bool} (h : a = b) : Ending.returned (.bool a) = .returned (.bool b) := by rw [h]
set_option maxHeartbeats 400000 in
theorem square_any (a n : Nat) (w : World) :
    Calls Try.prog 66 #[.int .u64 a, .int .u64 n] w fun e w' => e = .returned (.bool (sqB a n)) ∧ w = w' := by
  have hB : sqB a n = (decide (wHi a a < n) || (decide (wHi a a = n) && decide (wLo a a = 0))) := rfl
  have HB := Lib.hid hB; clear hB
  go_enter Try.func66, Try.ntmps66
  go_wp2_with fail
  refine (wide_any a a w).mono ?_
  rintro e w' ⟨rfl, rfl⟩
  generalize wHi a a = hi at *
  generalize wLo a a = lo at *
  by_cases h1 : hi < n
  · have t1 : decide ((hi : Int) < n) = true := decide_eq_true (by omega)
    go_wp2
    go_ret
    exact ⟨ret_bool (by rw [HB.out]; simp [h1]), rfl⟩
  · have t1 : decide ((hi : Int) < n) = false := decide_eq_false (by omega)
    go_wp2
    all_goals
      go_ret
      refine ⟨ret_bool ?_, rfl⟩
      rw [HB.out]
      rw [Bool.eq_iff_iff]
      simp
      omega

theorem shl32 (a : Nat) : IntKind.u64.wrap ((a : Int) * 4294967296) = ((a * 4294967296 % Q : Nat) : Int) := by
  rw [show (a : Int) * 4294967296 = ((a * 4294967296 : Nat) : Int) by rw [Int.natCast_mul]; rfl, wrapQ]
theorem or64 (a b : Nat) (ha : a < 18446744073709551616) (hb : b < 18446744073709551616) : bits .or .u64 (a : Int) (b : Int) = ((a ||| b : Nat) : Int) := u64_or_nat a b ha hb
/-- what cube reckons with, number by number -/
structure CubeNums (a n v x y z mid z1 zz sh md mr top rest : Nat) : Prop where
  h_b : cuB a n = (decide (top < n) || (decide (top = n) && decide (rest = 0)))
  h_mid : IntKind.u64.wrap ((v : Int) + (x : Int)) = (mid : Int)
  h_z1 : IntKind.u64.wrap ((z : Int) + 1) = (z1 : Int)
  h_zz : zz = if mid < v then z1 else z
  h_sh : IntKind.u64.wrap ((zz : Int) * 4294967296) = (sh : Int)
  h_dv : (mid : Int) / 4294967296 = (md : Int)
  h_top : bits .or .u64 (sh : Int) (md : Int) = (top : Int)
  h_tm : (mid : Int).tmod 4294967296 = (mr : Int)
  h_em : (mid : Int) % 4294967296 = (mr : Int)
  h_rest : bits .or .u64 (mr : Int) (y : Int) = (rest : Int)
theorem modQ_lt (n : Nat) : n % Q < 18446744073709551616 := Nat.mod_lt _ (by decide)
theorem cMid_lt (a : Nat) : cMid a < 18446744073709551616 := by rw [cMid]; exact modQ_lt _
theorem cube_nums (a n : Nat) : CubeNums a n (wLo (wHi a a) a) (wHi (wLo a a) a) (wLo (wLo a a) a) (wHi (wHi a a) a) (cMid a) ((wHi (wHi a a) a + 1) % Q) (cZ a) (cZ a * 4294967296 % Q) (cMid a / 4294967296) (cMid a % 4294967296) (cTop a) (cRest a) := by
  have hm := cMid_lt a
  refine ⟨by rw [cuB], ?_, ?_, by rw [cZ], shl32 _, div32 _, ?_, tmod32 _, ?_, ?_⟩
  · rw [← Int.natCast_add, wrapQ, cMid]
  · rw [show ((wHi (wHi a a) a : Int) + 1) = ((wHi (wHi a a) a + 1 : Nat) : Int) by omega, wrapQ]
  · rw [or64 _ _ (modQ_lt _) (by omega), cTop]
  · rw [Int.natCast_emod]; rfl
  · rw [or64 _ _ (by omega) (wLo_lt _ _), cRest]
end Go.Proofs.Ythocaimiofehkaa.Hs
