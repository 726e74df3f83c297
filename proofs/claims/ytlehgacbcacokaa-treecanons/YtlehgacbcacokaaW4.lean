/- The contracts of strings.IndexByte, rightName and rightNames. -/
import Derived.Test.YtlehgacbcacokaaW3
import Derived.Laws.Externs
import Derived.Laws.Runes
namespace Go.Proofs.Ytlehgacbcacokaa
open Go.RowKit TreeMath RealMath

theorem run_index (s : ByteArray) (c : Int) (w : World) : (callFunc 119 #[.string s, .int .u8 c]).run Try.prog w = .ok (.value (.int .i64 (firstIdx s c.toNat.toUInt8))) w := by
  rw [run_callFunc_extern Try.func119 (by kernel_rfl) (by kernel_rfl) (by kernel_rfl) (e := Extern.BytealgIndexByte.indexByte) (by kernel_rfl), run_indexByte_string]
  rfl
attribute [go_sem] run_index
theorem inner_any (s : ByteArray) (c : By) (w : World) :
    Calls Try.prog 115 #[.string s, vb c] w fun e w' => e = .returned (.int .i64 (firstIdx s c)) ∧ w = w' := by
  go_enter Try.func115, Try.ntmps115
  go_wp2
  go_ret
  refine ⟨ret_int ?_, rfl⟩
  simp
theorem index_any (s : ByteArray) (c : By) (w : World) :
    Calls Try.prog 114 #[.string s, vb c] w fun e w' => e = .returned (.int .i64 (firstIdx s c)) ∧ w = w' := by
  go_enter Try.func114, Try.ntmps114
  go_wp2_with fail
  refine (inner_any s c w).mono ?_
  rintro e w1 ⟨rfl, rfl⟩
  go_wp2
  go_ret
  exact ⟨rfl, rfl⟩
theorem firstIdx_neg (s : List By) (c : By) : decide (firstIdx ⟨s.toArray⟩ c < 0) = !(s.any (· == c)) := by
  have h := firstIdx_nonneg ⟨s.toArray⟩ c
  simp only at h
  rw [← h]
  by_cases e : firstIdx ⟨s.toArray⟩ c < 0
  · rw [decide_eq_true e, decide_eq_false (by omega)]; rfl
  · rw [decide_eq_false e, decide_eq_true (by omega)]; rfl
set_option maxHeartbeats 2000000 in
theorem rname_any (s : List By) (w : World) : Calls Try.prog 106 #[vs s] w fun e w' => e = .returned (.bool (nameOk s)) ∧ w = w' := by
  by_cases h1 : 1 ≤ s.length
  · by_cases h2 : s.length ≤ 40
    · have HE : Hid (nameOk s = (!(s.any (· == 0)) && !(s.any (· == 47)) && !(s == [46]) && !(s == [46, 46]))) := by
        show _ = _; unfold nameOk; rw [decide_eq_true h1, decide_eq_true h2]; rfl
      have h1' : (1 : Int) ≤ s.length := by omega
      have h2' : (s.length : Int) ≤ 40 := by omega
      go_enter Try.func106, Try.ntmps106
      go_wp2_with fail
      refine (index_any ⟨s.toArray⟩ 0 w).mono ?_
      rintro e w1 ⟨rfl, rfl⟩
      have i0 := firstIdx_neg s 0
      generalize firstIdx ⟨s.toArray⟩ 0 = n0 at *
      rw [← i0] at HE
      clear i0
      by_cases h3 : n0 < 0
      · rw [decide_eq_true h3] at HE
        go_wp2_with fail
        refine (index_any ⟨s.toArray⟩ 47 w).mono ?_
        rintro e w1 ⟨rfl, rfl⟩
        have i1 := firstIdx_neg s 47
        generalize firstIdx ⟨s.toArray⟩ 47 = n1 at *
        rw [← i1] at HE
        clear i1
        by_cases h4 : n1 < 0
        · rw [decide_eq_true h4] at HE
          by_cases h5 : (s == [46]) = true
          · rw [h5] at HE
            go_wp2_with fail
            go_ret
            exact ⟨by rw [HE.out]; rfl, rfl⟩
          · have h5' : (s == [46]) = false := by simpa using h5
            rw [h5'] at HE
            clear h5
            by_cases h6 : (s == [46, 46]) = true
            · rw [h6] at HE
              go_wp2_with fail
              go_ret
              exact ⟨by rw [HE.out]; rfl, rfl⟩
            · have h6' : (s == [46, 46]) = false := by simpa using h6
              rw [h6'] at HE
              clear h6
              go_wp2_with fail
              go_ret
              exact ⟨by rw [HE.out]; rfl, rfl⟩
        · rw [decide_eq_false h4] at HE
          go_wp2_with fail
          go_ret
          exact ⟨by rw [HE.out]; rfl, rfl⟩
      · rw [decide_eq_false h3] at HE
        go_wp2_with fail
        go_ret
        exact ⟨by rw [HE.out]; rfl, rfl⟩
    · have HE : Hid (nameOk s = false) := by show _ = _; unfold nameOk; rw [decide_eq_false h2]; simp
      have h1' : (1 : Int) ≤ s.length := by omega
      have h2' : ¬ (s.length : Int) ≤ 40 := by omega
      go_enter Try.func106, Try.ntmps106
      go_wp2_with fail
      go_ret
      exact ⟨by rw [HE.out]; rfl, rfl⟩
  · have HE : Hid (nameOk s = false) := by show _ = _; unfold nameOk; rw [decide_eq_false h1]; simp
    have h1' : ¬ (1 : Int) ≤ s.length := by omega
    go_enter Try.func106, Try.ntmps106
    go_wp2_with fail
    go_ret
    exact ⟨by rw [HE.out]; rfl, rfl⟩
set_option maxHeartbeats 2000000 in
theorem names_any (A : Option Addr) (c : Nat) (ls : List (List By)) (hl : ls.length ≤ maxLen) (w : World) (hA : StrsIs w A ls) :
    Calls Try.prog 80 #[.slice A ls.length c] w fun e w' => e = .returned (.bool (namesOk ls)) ∧ w = w' := by
  have HA := Lib.hid hA
  clear hA
  unfold maxLen at hl
  go_enter Try.func80, Try.ntmps80
  go_wp2_with fail
  go_loop [7] (fun vi => ∃ k : Nat, k ≤ ls.length ∧ vi = .int .i64 k ∧ Hid (∀ j, j < k → goodAt ls j = true)) (fun vi => ls.length - (intOf vi).toNat)
  case atStart => exact ⟨0, Nat.zero_le _, rfl, fun j h => by omega⟩
  case round =>
    obtain ⟨k, hk, rfl, HP⟩ := hrel
    by_cases hlt : k < ls.length
    · obtain ⟨a, oa, rfl, ha⟩ := HA.out (by omega)
      have c1 : w.cell? ⟨a, oa + k, none⟩ = some (vs (ls[k]'(by omega))) := ha k (by omega)
      have HNE : Hid (goodAt ls k = false → namesOk ls = false) := fun h => namesOk_false k hlt h
      have HEQ : Hid (goodAt ls k = true → ∀ j, j < k + 1 → goodAt ls j = true) := fun h j hj => by
        by_cases e : j = k
        · subst e; exact h
        · exact HP.out j (by omega)
      clear HP
      by_cases h0 : 0 < k
      · have c2 : w.cell? ⟨a, oa + (k - 1), none⟩ = some (vs (ls[k - 1]'(by omega))) := ha (k - 1) (by omega)
        rw [goodAt_pos ls k h0 hlt] at HNE HEQ
        have h0' : (0 : Int) < k := by omega
        generalize ls[k]'(by omega) = x at *
        generalize ls[k - 1]'(by omega) = y at *
        clear HA ha
        go_wp2_with fail
        refine (rname_any x w).mono ?_
        rintro e w1 ⟨rfl, rfl⟩
        generalize nameOk x = b at *
        cases b with
        | false =>
          have HF := Lib.hid (HNE.out rfl)
          clear HNE HEQ
          go_wp2_with fail
          go_ret
          exact ⟨by rw [HF.out]; rfl, rfl⟩
        | true =>
          cases hbl : Op.bytesLess y x with
          | false =>
            rw [hbl] at HNE HEQ
            have HF := Lib.hid (HNE.out rfl)
            clear HNE HEQ
            go_wp2_with fail
            go_ret
            exact ⟨by rw [HF.out]; rfl, rfl⟩
          | true =>
            rw [hbl] at HNE HEQ
            have HT := Lib.hid (HEQ.out rfl)
            clear HNE HEQ
            go_wp2_with fail
            go_round
            case rel => exact ⟨k + 1, by omega, by go_num, HT.out⟩
            case measure => simp [intOf]; omega
      · obtain rfl : k = 0 := by omega
        rw [Nat.add_zero] at c1
        rw [goodAt_zero ls hlt] at HNE HEQ
        generalize ls[0]'(by omega) = x at *
        clear HA ha
        go_wp2_with fail
        refine (rname_any x w).mono ?_
        rintro e w1 ⟨rfl, rfl⟩
        generalize nameOk x = b at *
        cases b with
        | false =>
          have HF := Lib.hid (HNE.out rfl)
          clear HNE HEQ
          go_wp2_with fail
          go_ret
          exact ⟨by rw [HF.out]; rfl, rfl⟩
        | true =>
          have HT := Lib.hid (HEQ.out rfl)
          clear HNE HEQ
          go_wp2_with fail
          go_round
          case rel => exact ⟨1, by omega, by go_num, HT.out⟩
          case measure => simp [intOf]; omega
    · have HT : Hid (namesOk ls = true) := namesOk_true (fun j hj => HP.out j (by omega))
      obtain rfl : k = ls.length := by omega
      clear HP
      go_wp2_with fail
      go_ret
      exact ⟨by rw [HT.out]; rfl, rfl⟩
end Go.Proofs.Ytlehgacbcacokaa
