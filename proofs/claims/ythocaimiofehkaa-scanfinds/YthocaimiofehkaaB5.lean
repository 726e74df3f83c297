/- The contract of the reference's value. -/
import Derived.Test.YthocaimiofehkaaB4
namespace Go.Proofs.Ythocaimiofehkaa
open Go.RowKit BaseMath

theorem place_found (k : Nat) (c : By) (hk : k < 32) (h : letter k = c) : place c = (k : Int) := by
  subst h; unfold place; rw [idx_letter k hk, if_pos hk]
theorem place_none (c : By) (h : ∀ j, j < 32 → letter j ≠ c) : place c = -1 := by
  unfold place
  by_cases hc : idx c < 32
  · exact absurd (letter_idx c hc) (h _ hc)
  · rw [if_neg hc]
set_option maxHeartbeats 1000000 in
theorem value_any (c : By) (w : World) :
    Calls Try.prog 52 #[vb c] w fun e w' => e = .returned (.int .i64 (place c)) ∧ w = w' := by
  go_enter Try.func52, Try.ntmps52
  go_wp2_with fail
  go_loop [3] (fun vi => ∃ k : Nat, k ≤ 32 ∧ vi = .int .i64 k ∧ Hid (∀ j, j < k → letter j ≠ c)) (fun vi => 32 - (intOf vi).toNat)
  case atStart => exact ⟨0, by omega, rfl, fun j hj => absurd hj (by omega)⟩
  case round =>
    obtain ⟨k, hk, rfl, HR⟩ := hrel
    by_cases hlt : k < 32
    · have hle := letter_get k hlt
      by_cases he : letter k = c
      · have HP := Lib.hid (place_found k c hlt he)
        subst he
        go_wp2_with fail
        go_ret
        exact ⟨ret_int HP.out.symm, rfl⟩
      · have HN : Hid (∀ j, j < k + 1 → letter j ≠ c) := by
          intro j hj
          by_cases hjk : j = k
          · subst hjk; exact he
          · exact HR.out j (by omega)
        have ht : (((letter k).toNat : Int) == (c.toNat : Int)) = false := by
          rw [beq_eq_false_iff_ne]; intro h; exact he (UInt8.toNat_inj.1 (by omega))
        generalize letter k = x at *
        clear he
        go_wp2_with fail
        go_round
        case rel => exact ⟨k + 1, by omega, by go_num, HN.out⟩
        case measure => simp [intOf]; omega
    · obtain rfl : k = 32 := by omega
      have HP := Lib.hid (place_none c HR.out)
      go_wp2_with fail
      go_ret
      exact ⟨ret_int HP.out.symm, rfl⟩
end Go.Proofs.Ythocaimiofehkaa
