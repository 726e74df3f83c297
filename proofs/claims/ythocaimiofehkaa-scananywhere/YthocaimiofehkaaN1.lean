/- The contracts of name.Right and of the reference's Right. -/
import Derived.Test.YthocaimiofehkaaNMath
import Derived.Test.YthocaimiofehkaaW4
import Derived.Test.YthocaimiofehkaaB4
namespace Go.Proofs.Ythocaimiofehkaa
open Go.RowKit BaseMath WireMath NameMath

theorem firstIdx_neg (s : List By) (c : By) : decide (firstIdx ⟨s.toArray⟩ c < 0) = !(s.any (· == c)) := by
  have h := firstIdx_nonneg ⟨s.toArray⟩ c
  simp only at h
  rw [← h]
  by_cases e : firstIdx ⟨s.toArray⟩ c < 0
  · rw [decide_eq_true e, decide_eq_false (by omega)]; rfl
  · rw [decide_eq_false e, decide_eq_true (by omega)]; rfl
theorem sign_idx (c : By) : decide (firstIdx ⟨#[97, 98, 99, 100, 101, 102, 103, 104, 105, 106, 107, 108, 109, 110, 111, 112, 113, 114, 115, 116, 117, 118, 119, 120, 121, 122, 48, 49, 50, 51, 52, 53, 54, 55, 56, 57, 43, 45, 46, 95]⟩ c < 0) = !signB c := by
  rw [← sign_any]; exact firstIdx_neg signs c
set_option maxHeartbeats 1000000 in
set_option maxRecDepth 100000 in
theorem right_any (s : List By) (w : World) : Calls Try.prog 39 #[vs s] w fun e w' => e = .returned (.bool (rightB s)) ∧ w = w' := by
  by_cases h1 : 1 ≤ s.length
  · by_cases h2 : s.length ≤ 40
    · have h1' : ¬ (s.length : Int) < 1 := by omega
      have h2' : ¬ (40 : Int) < s.length := by omega
      have h1n : 0 < s.length := by omega
      cases h3 : (s.getD 0 0 == 46) with
      | true =>
        have HE := Lib.hid (right_point h3)
        have h4 : ((((ByteArray.mk s.toArray)[0]).toNat : Int) == 46) = true := by
          show (((s[0]).toNat : Int) == 46) = true
          have e : s.getD 0 0 = s[0] := by simp [h1n]
          rw [e, beq_iff_eq] at h3; rw [h3]; rfl
        clear h3
        go_enter Try.func39, Try.ntmps39
        go_wp2_with fail
        go_ret
        exact ⟨by rw [HE.out]; rfl, rfl⟩
      | false =>
        have h4 : ((((ByteArray.mk s.toArray)[0]).toNat : Int) == 46) = false := by
          show (((s[0]).toNat : Int) == 46) = false
          have e : s.getD 0 0 = s[0] := by simp [h1n]
          rw [e, beq_eq_false_iff_ne] at h3; rw [beq_eq_false_iff_ne]
          intro h; apply h3; apply UInt8.toNat_inj.1; exact_mod_cast h
        have HA : Hid ((∀ k (hk : k < s.length), signB s[k] = true) → rightB s = true) := fun h => right_all h1 h2 h3 h
        have HN : Hid (∀ k (hk : k < s.length), signB s[k] = false → rightB s = false) := fun k hk h => right_sign k hk h
        clear h3
        go_enter Try.func39, Try.ntmps39
        go_wp2_with fail
        go_loop [19] (fun vi => ∃ k : Nat, k ≤ s.length ∧ vi = .int .i64 k ∧ Hid (∀ j (hj : j < s.length), j < k → signB s[j] = true)) (fun vi => s.length - (intOf vi).toNat)
        case atStart => exact ⟨0, Nat.zero_le _, rfl, fun j _ h => by omega⟩
        case round =>
          obtain ⟨k, hk, rfl, HP⟩ := hrel
          by_cases hlt : k < s.length
          · have HNE : Hid (signB s[k] = false → rightB s = false) := HN.out k hlt
            have HEQ : Hid (signB s[k] = true → ∀ j (hj : j < s.length), j < k + 1 → signB s[j] = true) := fun h j hj hjk => by
              by_cases e : j = k
              · subst e; exact h
              · exact HP.out j hj (by omega)
            clear HP HN
            have HX := Lib.hid (sign_idx s[k])
            go_wp2_with fail
            refine (index_any _ (ByteArray.mk s.toArray)[k] w).mono ?_
            rintro e w2 ⟨rfl, rfl⟩
            have HX2 : Hid (decide (firstIdx ⟨#[97, 98, 99, 100, 101, 102, 103, 104, 105, 106, 107, 108, 109, 110, 111, 112, 113, 114, 115, 116, 117, 118, 119, 120, 121, 122, 48, 49, 50, 51, 52, 53, 54, 55, 56, 57, 43, 45, 46, 95]⟩ (ByteArray.mk s.toArray)[k] < 0) = !signB s[k]) := HX.out
            clear HX
            generalize firstIdx _ (ByteArray.mk s.toArray)[k] = n at *
            generalize signB s[k] = b at *
            by_cases hn : n < 0
            · have hb : b = false := by have := HX2.out; rw [decide_eq_true hn] at this; simpa using this
              have HF := Lib.hid (HNE.out hb)
              clear HNE HEQ HX2 hb HA
              go_wp2_with fail
              go_ret
              exact ⟨by rw [HF.out]; rfl, rfl⟩
            · have hb : b = true := by have := HX2.out; rw [decide_eq_false hn] at this; simpa using this
              have HT := Lib.hid (HEQ.out hb)
              clear HNE HEQ HX2 hb
              go_wp2_with fail
              go_round
              case rel => exact ⟨k + 1, by omega, by go_num, HT.out⟩
              case measure => simp [intOf]; omega
          · obtain rfl : k = s.length := by omega
            have HT := Lib.hid (HA.out fun k hk => HP.out k hk hk)
            clear HP HA HN
            go_wp2_with fail
            go_ret
            exact ⟨by rw [HT.out]; rfl, rfl⟩
    · have HE := Lib.hid (right_long h2)
      have h1' : ¬ (s.length : Int) < 1 := by omega
      have h2' : (40 : Int) < s.length := by omega
      go_enter Try.func39, Try.ntmps39
      go_wp2_with fail
      go_ret
      exact ⟨by rw [HE.out]; rfl, rfl⟩
  · have HE := Lib.hid (right_short h1)
    have h1' : (s.length : Int) < 1 := by omega
    go_enter Try.func39, Try.ntmps39
    go_wp2_with fail
    go_ret
    exact ⟨by rw [HE.out]; rfl, rfl⟩
end Go.Proofs.Ythocaimiofehkaa
