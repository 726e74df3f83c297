/- The contract of the reference's root. -/
import Derived.Test.YthocaimiofehkaaHW11
namespace Go.Proofs.Ythocaimiofehkaa.Hs
open Go.RowKit HashMath

theorem pow_fits (j : Nat) : (2 : Nat) ^ (36 - j) ≤ 68719476736 := by
  have : 2 ^ (36 - j) ≤ 2 ^ 36 := Nat.pow_le_pow_right (by omega) (by omega)
  simpa using this
theorem root_bits (n : Nat) (t : Bool) : ((rootK n t 37 : Nat) : Int) % 4294967296 = u (rootM n t) := by
  unfold rootM
  rw [u_ofNat _ (Nat.mod_lt _ (by decide))]
  omega
theorem rootK_lt (n : Nat) (t : Bool) (j : Nat) (h : j ≤ 37) : rootK n t j ≤ 137438953472 := by
  have h1 := rootK_le n t j h
  have h2 : 0 < 2 ^ (37 - j) := Nat.two_pow_pos _
  have h3 : rootK n t j ≤ 2 ^ 37 := Nat.le_trans (Nat.le_add_right _ _) h1
  simpa using h3

set_option maxHeartbeats 1000000 in
theorem root_third (n : Nat) (w : World) :
    Calls Try.prog 49 #[.int .u64 n, .bool true] w fun e w' => e = .returned (.int .u32 (u (rootM n true))) ∧ w = w' := by
  have HF := Lib.hid (root_bits n true)
  go_enter Try.func49, Try.ntmps49
  go_wp2_with fail
  go_loop [5, 6] (fun va vb => ∃ j : Nat, j ≤ 37 ∧ vb = .int .i64 (36 - (j : Int)) ∧ va = .int .u64 (rootK n true j : Nat)) (fun _ vb => (intOf vb + 1).toNat)
  case atStart => exact ⟨0, by omega, rfl, rfl⟩
  case round =>
    obtain ⟨j, hj, rfl, rfl⟩ := hrel
    by_cases hlt : j < 37
    · have hle := rootK_lt n true j hj
      have hpw := pow_fits j
      have hs : IntKind.u64.wrap ((2 : Int) ^ (36 - j)) = ((2 ^ (36 - j) : Nat) : Int) := by
        rw [show (2 : Int) ^ (36 - j) = ((2 ^ (36 - j) : Nat) : Int) by rw [Int.natCast_pow]; rfl, wrapQ, Nat.mod_eq_of_lt (by unfold Q; omega)]
      have ha : IntKind.u64.wrap (((rootK n true j : Nat) : Int) + ((2 ^ (36 - j) : Nat) : Int)) = ((rootK n true j + 2 ^ (36 - j) : Nat) : Int) := by
        rw [← Int.natCast_add, wrapQ, Nat.mod_eq_of_lt]
        unfold Q
        omega
      have HW : Hid (rootK n true (j + 1) = if cuB (rootK n true j + 2 ^ (36 - j)) n then rootK n true j + 2 ^ (36 - j) else rootK n true j) := (rfl : _ = _)
      clear hle hpw
      generalize hnb : rootK n true j + 2 ^ (36 - j) = nb at *
      clear hnb
      generalize rootK n true j = a at *
      generalize ((2 ^ (36 - j) : Nat) : Int) = pw at *
      have h36 : (0 : Int) ≤ 36 - (j : Int) := by omega
      go_wp2_with fail
      refine (cube_any nb n w).mono ?_
      rintro e w' ⟨rfl, rfl⟩
      generalize cuB nb n = r at *
      cases r with
      | true =>
        have hnx := HW.out
        rw [if_pos rfl] at hnx
        have HN := Lib.hid hnx; clear hnx HW
        go_wp2_with fail
        go_round
        case rel => exact ⟨j + 1, by omega, by go_num, by rw [HN.out]⟩
        case measure => simp [intOf]; omega
      | false =>
        have hnx := HW.out
        rw [if_neg (by simp)] at hnx
        have HN := Lib.hid hnx; clear hnx HW
        go_wp2_with fail
        go_round
        case rel => exact ⟨j + 1, by omega, by go_num, by rw [HN.out]⟩
        case measure => simp [intOf]; omega
    · obtain rfl : j = 37 := by omega
      generalize rootK n true 37 = a at *
      go_wp2
      go_ret
      exact ⟨ret_int HF.out, rfl⟩

set_option maxHeartbeats 1000000 in
theorem root_square (n : Nat) (w : World) :
    Calls Try.prog 49 #[.int .u64 n, .bool false] w fun e w' => e = .returned (.int .u32 (u (rootM n false))) ∧ w = w' := by
  have HF := Lib.hid (root_bits n false)
  go_enter Try.func49, Try.ntmps49
  go_wp2_with fail
  go_loop [5, 6] (fun va vb => ∃ j : Nat, j ≤ 37 ∧ vb = .int .i64 (36 - (j : Int)) ∧ va = .int .u64 (rootK n false j : Nat)) (fun _ vb => (intOf vb + 1).toNat)
  case atStart => exact ⟨0, by omega, rfl, rfl⟩
  case round =>
    obtain ⟨j, hj, rfl, rfl⟩ := hrel
    by_cases hlt : j < 37
    · have hle := rootK_lt n false j hj
      have hpw := pow_fits j
      have hs : IntKind.u64.wrap ((2 : Int) ^ (36 - j)) = ((2 ^ (36 - j) : Nat) : Int) := by
        rw [show (2 : Int) ^ (36 - j) = ((2 ^ (36 - j) : Nat) : Int) by rw [Int.natCast_pow]; rfl, wrapQ, Nat.mod_eq_of_lt (by unfold Q; omega)]
      have ha : IntKind.u64.wrap (((rootK n false j : Nat) : Int) + ((2 ^ (36 - j) : Nat) : Int)) = ((rootK n false j + 2 ^ (36 - j) : Nat) : Int) := by
        rw [← Int.natCast_add, wrapQ, Nat.mod_eq_of_lt]
        unfold Q
        omega
      have HW : Hid (rootK n false (j + 1) = if sqB (rootK n false j + 2 ^ (36 - j)) n then rootK n false j + 2 ^ (36 - j) else rootK n false j) := (rfl : _ = _)
      clear hle hpw
      generalize hnb : rootK n false j + 2 ^ (36 - j) = nb at *
      clear hnb
      generalize rootK n false j = a at *
      generalize ((2 ^ (36 - j) : Nat) : Int) = pw at *
      have h36 : (0 : Int) ≤ 36 - (j : Int) := by omega
      go_wp2_with fail
      refine (square_any nb n w).mono ?_
      rintro e w' ⟨rfl, rfl⟩
      generalize sqB nb n = r at *
      cases r with
      | true =>
        have hnx := HW.out
        rw [if_pos rfl] at hnx
        have HN := Lib.hid hnx; clear hnx HW
        go_wp2_with fail
        go_round
        case rel => exact ⟨j + 1, by omega, by go_num, by rw [HN.out]⟩
        case measure => simp [intOf]; omega
      | false =>
        have hnx := HW.out
        rw [if_neg (by simp)] at hnx
        have HN := Lib.hid hnx; clear hnx HW
        go_wp2_with fail
        go_round
        case rel => exact ⟨j + 1, by omega, by go_num, by rw [HN.out]⟩
        case measure => simp [intOf]; omega
    · obtain rfl : j = 37 := by omega
      generalize rootK n false 37 = a at *
      go_wp2
      go_ret
      exact ⟨ret_int HF.out, rfl⟩
end Go.Proofs.Ythocaimiofehkaa.Hs
