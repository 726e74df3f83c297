/- The contract of the reference's Right. -/
import Derived.Test.YthocaimiofehkaaN1
namespace Go.Proofs.Ythocaimiofehkaa
open Go.RowKit BaseMath WireMath NameMath

theorem sign_yes {c : By} (h : signB c = true) :
    ((97 : Int) ≤ c.toNat ∧ (c.toNat : Int) ≤ 122) ∨
    (¬ (97 : Int) ≤ c.toNat ∧ (48 : Int) ≤ c.toNat ∧ (c.toNat : Int) ≤ 57) ∨
    (¬ (97 : Int) ≤ c.toNat ∧ ¬ (48 : Int) ≤ c.toNat ∧ ((c.toNat : Int) == 43) = true) ∨
    (¬ (97 : Int) ≤ c.toNat ∧ ¬ (48 : Int) ≤ c.toNat ∧ ((c.toNat : Int) == 43) = false ∧ ((c.toNat : Int) == 45) = true) ∨
    (¬ (97 : Int) ≤ c.toNat ∧ ¬ (48 : Int) ≤ c.toNat ∧ ((c.toNat : Int) == 43) = false ∧ ((c.toNat : Int) == 45) = false ∧ ((c.toNat : Int) == 46) = true) ∨
    (¬ (97 : Int) ≤ c.toNat ∧ (48 : Int) ≤ c.toNat ∧ ¬ (c.toNat : Int) ≤ 57 ∧ ((c.toNat : Int) == 43) = false ∧ ((c.toNat : Int) == 45) = false ∧ ((c.toNat : Int) == 46) = false ∧ ((c.toNat : Int) == 95) = true) := by
  unfold signB at h
  generalize c.toNat = n at *
  simp only [Bool.or_eq_true, Bool.and_eq_true, decide_eq_true_eq] at h
  simp only [beq_iff_eq, beq_eq_false_iff_ne, ne_eq]
  omega
theorem sign_no {c : By} (h : signB c = false) :
    ((97 : Int) ≤ c.toNat ∧ ¬ (c.toNat : Int) ≤ 122 ∧ (48 : Int) ≤ c.toNat ∧ ¬ (c.toNat : Int) ≤ 57 ∧ ((c.toNat : Int) == 43) = false ∧ ((c.toNat : Int) == 45) = false ∧ ((c.toNat : Int) == 46) = false ∧ ((c.toNat : Int) == 95) = false) ∨
    (¬ (97 : Int) ≤ c.toNat ∧ (48 : Int) ≤ c.toNat ∧ ¬ (c.toNat : Int) ≤ 57 ∧ ((c.toNat : Int) == 43) = false ∧ ((c.toNat : Int) == 45) = false ∧ ((c.toNat : Int) == 46) = false ∧ ((c.toNat : Int) == 95) = false) ∨
    (¬ (97 : Int) ≤ c.toNat ∧ ¬ (48 : Int) ≤ c.toNat ∧ ((c.toNat : Int) == 43) = false ∧ ((c.toNat : Int) == 45) = false ∧ ((c.toNat : Int) == 46) = false ∧ ((c.toNat : Int) == 95) = false) := by
  unfold signB at h
  generalize c.toNat = n at *
  simp only [Bool.or_eq_false_iff, Bool.and_eq_false_iff, decide_eq_false_iff_not] at h
  simp only [beq_eq_false_iff_ne, ne_eq]
  omega
set_option maxHeartbeats 4000000 in
set_option maxRecDepth 100000 in
theorem rright_any (s : List By) (w : World) : Calls Try.prog 31 #[vs s] w fun e w' => e = .returned (.bool (rightB s)) ∧ w = w' := by
  by_cases h1 : 1 ≤ s.length
  · by_cases h2 : s.length ≤ 40
    · have h1' : ¬ (s.length : Int) < 1 := by omega
      have h2' : ¬ (40 : Int) < s.length := by omega
      have h1n : 0 < s.length := by omega
      cases h3 : (s.getD 0 0 == 46) with
      | true =>
        have HE := Lib.hid (right_point h3)
        have h4 : ((((ByteArray.mk s.toArray)[0]).toNat : Int) == 46) = true := by
          show (((s[0]).toNat : Int) == 46) = true
          have e : s.getD 0 0 = s[0] := by simp [h1n]
          rw [e, beq_iff_eq] at h3; rw [h3]; rfl
        clear h3
        go_enter Try.func31, Try.ntmps31
        go_wp2_with fail
        go_ret
        exact ⟨by rw [HE.out]; rfl, rfl⟩
      | false =>
        have h4 : ((((ByteArray.mk s.toArray)[0]).toNat : Int) == 46) = false := by
          show (((s[0]).toNat : Int) == 46) = false
          have e : s.getD 0 0 = s[0] := by simp [h1n]
          rw [e, beq_eq_false_iff_ne] at h3; rw [beq_eq_false_iff_ne]
          intro h; apply h3; apply UInt8.toNat_inj.1; exact_mod_cast h
        have HA : Hid ((∀ k (hk : k < s.length), signB s[k] = true) → rightB s = true) := fun h => right_all h1 h2 h3 h
        have HN : Hid (∀ k (hk : k < s.length), signB s[k] = false → rightB s = false) := fun k hk h => right_sign k hk h
        clear h3
        go_enter Try.func31, Try.ntmps31
        go_wp2_with fail
        go_loop [3] (fun vi => ∃ k : Nat, k ≤ s.length ∧ vi = .int .i64 k ∧ Hid (∀ j (hj : j < s.length), j < k → signB s[j] = true)) (fun vi => s.length - (intOf vi).toNat)
        case atStart => exact ⟨0, Nat.zero_le _, rfl, fun j _ h => by omega⟩
        case round =>
          obtain ⟨k, hk, rfl, HP⟩ := hrel
          clear h4
          by_cases hlt : k < s.length
          · have HNE : Hid (signB s[k] = false → rightB s = false) := HN.out k hlt
            have HEQ : Hid (signB s[k] = true → ∀ j (hj : j < s.length), j < k + 1 → signB s[j] = true) := fun h j hj hjk => by
              by_cases e : j = k
              · subst e; exact h
              · exact HP.out j hj (by omega)
            clear HP HN
            cases hb : signB s[k] with
            | false =>
              have HF := Lib.hid (HNE.out hb)
              have hc := sign_no (c := (ByteArray.mk s.toArray)[k]) hb
              clear HNE HEQ HA hb
              rcases hc with ⟨c1, c2, c3, c4, c5, c6, c7, c8⟩ | ⟨c1, c2, c3, c4, c5, c6, c7⟩ | ⟨c1, c2, c3, c4, c5, c6⟩
              all_goals
                go_wp2_with fail
                go_ret
                exact ⟨by rw [HF.out]; rfl, rfl⟩
            | true =>
              have HT := Lib.hid (HEQ.out hb)
              have hc := sign_yes (c := (ByteArray.mk s.toArray)[k]) hb
              clear HNE HEQ HA hb
              rcases hc with ⟨c1, c2⟩ | ⟨c1, c2, c3⟩ | ⟨c1, c2, c3⟩ | ⟨c1, c2, c3, c4⟩ | ⟨c1, c2, c3, c4, c5⟩ | ⟨c1, c2, c3, c4, c5, c6, c7⟩
              all_goals
                go_wp2_with fail
                go_round
                case rel => exact ⟨k + 1, by omega, by go_num, HT.out⟩
                case measure => simp [intOf]; omega
          · obtain rfl : k = s.length := by omega
            have HT := Lib.hid (HA.out fun k hk => HP.out k hk hk)
            clear HP HA HN
            go_wp2_with fail
            go_ret
            exact ⟨by rw [HT.out]; rfl, rfl⟩
    · have HE := Lib.hid (right_long h2)
      have h1' : ¬ (s.length : Int) < 1 := by omega
      have h2' : (40 : Int) < s.length := by omega
      go_enter Try.func31, Try.ntmps31
      go_wp2_with fail
      go_ret
      exact ⟨by rw [HE.out]; rfl, rfl⟩
  · have HE := Lib.hid (right_short h1)
    have h1' : (s.length : Int) < 1 := by omega
    go_enter Try.func31, Try.ntmps31
    go_wp2_with fail
    go_ret
    exact ⟨by rw [HE.out]; rfl, rfl⟩
end Go.Proofs.Ythocaimiofehkaa
