/- The contracts of Split and Is, the program's and the reference's. -/
import Derived.Test.YthocaimiofehkaaN1b
import Derived.Test.YthocaimiofehkaaB7
namespace Go.Proofs.Ythocaimiofehkaa
open Go.RowKit BaseMath WireMath NameMath

theorem path_parts {s : List By} (h : pathB s = true) : 33 < s.length ∧ s.getD 32 0 = 45 ∧ rightB (s.drop 33) = true ∧ good (s.take 32) = true := by
  unfold pathB at h
  simp only [Bool.and_eq_true, decide_eq_true_eq, beq_iff_eq] at h
  exact ⟨h.1.1.1, h.1.1.2, h.1.2, h.2⟩
theorem ext_take (s : List By) (k : Nat) : (ByteArray.mk s.toArray).extract 0 k = ⟨(s.take k).toArray⟩ := by
  apply ByteArray.ext; rw [ByteArray.data_extract]; simp
theorem ext_drop (s : List By) (k n : Nat) (hn : n = s.length) : (ByteArray.mk s.toArray).extract k n = ⟨(s.drop k).toArray⟩ := by
  subst hn; apply ByteArray.ext; rw [ByteArray.data_extract]; simp; rw [List.take_of_length_le (by simp)]
theorem dash_yes {s : List By} (h : 32 < s.length) (h2 : s.getD 32 0 = 45) : (((ByteArray.mk s.toArray)[32]'h).toNat : Int) = 45 := by
  show ((s[32].toNat : Nat) : Int) = 45
  have e : s.getD 32 0 = s[32] := by simp [h]
  rw [e] at h2; rw [h2]; rfl
theorem dash_no {s : List By} (h : 32 < s.length) (h2 : ¬ s.getD 32 0 = 45) : ¬ (((ByteArray.mk s.toArray)[32]'h).toNat : Int) = 45 := by
  show ¬ ((s[32].toNat : Nat) : Int) = 45
  have e : s.getD 32 0 = s[32] := by simp [h]
  rw [e] at h2
  intro h3; apply h2; apply UInt8.toNat_inj.1
  show s[32].toNat = 45
  omega
set_option maxHeartbeats 1000000 in
set_option maxRecDepth 100000 in
theorem split_yes (s : List By) (h : pathB s = true) (w : World) :
    Calls Try.prog 24 #[vs s] w fun e w' => e = .returned (.tuple #[vs (s.take 32), vs (s.drop 33), .bool true]) ∧ Below w.heap.size w w' := by
  obtain ⟨h1, h2, h3, h4⟩ := path_parts h
  have h1' : ¬ (s.length : Int) ≤ 32 := by omega
  have h1n : 32 < s.length := by omega
  have h5 : ((((ByteArray.mk s.toArray)[32]'h1n).toNat : Int) != 45) = false := by rw [dash_yes h1n h2]; rfl
  have H3 := Lib.hid h3; have H4 := Lib.hid h4
  clear h h2 h3 h4
  go_enter Try.func24, Try.ntmps24
  go_wp2_with fail
  go_quiet (fail)
  go_wp2_with fail
  have E1 := Lib.hid (ext_take s 32); have E2 := Lib.hid (ext_drop s 33 s.length rfl)
  rw [E1.out, E2.out]
  refine (bytes_good (s.take 32) (by rw [List.length_take]; omega) H4.out _).mono ?_
  rintro e w1 ⟨v1, rfl, hr⟩
  have HB : Hid (Below w.heap.size w w1) := (below_drewN (Below.refl _ _) nq).trans hr.below
  clear hr H4 E1 E2 h5
  go_wp2_with fail
  refine (right_any (s.drop 33) w1).mono ?_
  rintro e w2 ⟨rfl, rfl⟩
  rw [H3.out]
  go_wp2_with fail
  go_ret3
  exact ⟨rfl, HB.out⟩
set_option maxHeartbeats 1000000 in
set_option maxRecDepth 100000 in
theorem split_no (s : List By) (h : pathB s = false) (w : World) :
    Calls Try.prog 24 #[vs s] w fun e w' => e = .returned (.tuple #[vs [], vs [], .bool false]) ∧ Below w.heap.size w w' := by
  by_cases h1 : 32 < s.length
  · have h1' : ¬ (s.length : Int) ≤ 32 := by omega
    by_cases h2 : s.getD 32 0 = 45
    · have h5 : ((((ByteArray.mk s.toArray)[32]'h1).toNat : Int) != 45) = false := by rw [dash_yes h1 h2]; rfl
      have E1 := Lib.hid (ext_take s 32); have E2 := Lib.hid (ext_drop s 33 s.length rfl)
      cases h4 : good (s.take 32) with
      | false =>
        have H4 := Lib.hid h4
        clear h h2 h4
        go_enter Try.func24, Try.ntmps24
        go_wp2_with fail
        go_quiet (fail)
        go_wp2_with fail
        rw [E1.out, E2.out]
        refine (bytes_bad (s.take 32) (by rw [List.length_take]; omega) H4.out _).mono ?_
        rintro e w1 ⟨rfl, hb⟩
        have HB : Hid (Below w.heap.size w w1) := (below_drewN (Below.refl _ _) nq).trans hb
        clear hb H4 E1 E2 h5
        go_wp2_with fail
        go_ret3
        exact ⟨rfl, HB.out⟩
      | true =>
        have h3 : rightB (s.drop 33) = false := by
          cases h3 : rightB (s.drop 33) with
          | false => rfl
          | true =>
            have hl : 33 < s.length := by
              have := h3; unfold rightB at this; simp at this; omega
            unfold pathB at h
            rw [decide_eq_true hl, h2, h3, h4] at h; cases h
        have H3 := Lib.hid h3; have H4 := Lib.hid h4
        clear h h2 h3 h4
        go_enter Try.func24, Try.ntmps24
        go_wp2_with fail
        go_quiet (fail)
        go_wp2_with fail
        rw [E1.out, E2.out]
        refine (bytes_good (s.take 32) (by rw [List.length_take]; omega) H4.out _).mono ?_
        rintro e w1 ⟨v1, rfl, hr⟩
        have HB : Hid (Below w.heap.size w w1) := (below_drewN (Below.refl _ _) nq).trans hr.below
        clear hr H4 E1 E2 h5
        go_wp2_with fail
        refine (right_any (s.drop 33) w1).mono ?_
        rintro e w2 ⟨rfl, rfl⟩
        rw [H3.out]
        go_wp2_with fail
        go_ret3
        exact ⟨rfl, HB.out⟩
    · have h5 : ((((ByteArray.mk s.toArray)[32]'h1).toNat : Int) != 45) = true := by rw [bne_iff_ne]; exact dash_no h1 h2
      clear h h2
      go_enter Try.func24, Try.ntmps24
      go_wp2_with fail
      go_ret3
      exact ⟨rfl, Below.refl _ _⟩
  · have h1' : (s.length : Int) ≤ 32 := by omega
    clear h
    go_enter Try.func24, Try.ntmps24
    go_wp2_with fail
    go_ret3
    exact ⟨rfl, Below.refl _ _⟩
set_option maxHeartbeats 1000000 in
set_option maxRecDepth 100000 in
theorem rsplit_yes (s : List By) (h : pathB s = true) (w : World) :
    Calls Try.prog 26 #[vs s] w fun e w' => e = .returned (.tuple #[vs (s.take 32), vs (s.drop 33), .bool true]) ∧ Below w.heap.size w w' := by
  obtain ⟨h1, h2, h3, h4⟩ := path_parts h
  have h1' : ¬ (s.length : Int) < 34 := by omega
  have h1n : 32 < s.length := by omega
  have h5 : ((((ByteArray.mk s.toArray)[32]'h1n).toNat : Int) != 45) = false := by rw [dash_yes h1n h2]; rfl
  have H3 := Lib.hid h3; have H4 := Lib.hid h4
  have E1 := Lib.hid (ext_take s 32); have E2 := Lib.hid (ext_drop s 33 s.length rfl)
  clear h h2 h3 h4
  go_enter Try.func26, Try.ntmps26
  go_wp2_with fail
  rw [E2.out]
  refine (rright_any (s.drop 33) w).mono ?_
  rintro e w2 ⟨rfl, rfl⟩
  rw [H3.out]
  go_wp2_with fail
  rw [E1.out]
  refine (refbytes_good (s.take 32) (by rw [List.length_take]; omega) H4.out _).mono ?_
  rintro e w1 ⟨v1, rfl, hr⟩
  have HB : Hid (Below w.heap.size w w1) := hr.below
  clear hr H4 h5
  go_wp2_with fail
  go_quiet (fail)
  go_wp2_with fail
  go_ret3
  rw [E1.out, E2.out]
  exact ⟨rfl, below_drewN HB.out nq⟩
set_option maxHeartbeats 1000000 in
set_option maxRecDepth 100000 in
theorem rsplit_no (s : List By) (h : pathB s = false) (w : World) :
    Calls Try.prog 26 #[vs s] w fun e w' => e = .returned (.tuple #[vs [], vs [], .bool false]) ∧ Below w.heap.size w w' := by
  by_cases h1 : 33 < s.length
  · have h1' : ¬ (s.length : Int) < 34 := by omega
    have h1n : 32 < s.length := by omega
    by_cases h2 : s.getD 32 0 = 45
    · have h5 : ((((ByteArray.mk s.toArray)[32]'h1n).toNat : Int) != 45) = false := by rw [dash_yes h1n h2]; rfl
      have E1 := Lib.hid (ext_take s 32); have E2 := Lib.hid (ext_drop s 33 s.length rfl)
      cases h3 : rightB (s.drop 33) with
      | false =>
        have H3 := Lib.hid h3
        clear h h2 h3
        go_enter Try.func26, Try.ntmps26
        go_wp2_with fail
        rw [E2.out]
        refine (rright_any (s.drop 33) w).mono ?_
        rintro e w2 ⟨rfl, rfl⟩
        rw [H3.out]
        go_wp2_with fail
        go_ret3
        exact ⟨rfl, Below.refl _ _⟩
      | true =>
        have h4 : good (s.take 32) = false := by
          cases h4 : good (s.take 32) with
          | false => rfl
          | true =>
            unfold pathB at h
            rw [decide_eq_true h1, h2, h3, h4] at h; cases h
        have H3 := Lib.hid h3; have H4 := Lib.hid h4
        clear h h2 h3 h4
        go_enter Try.func26, Try.ntmps26
        go_wp2_with fail
        rw [E2.out]
        refine (rright_any (s.drop 33) w).mono ?_
        rintro e w2 ⟨rfl, rfl⟩
        rw [H3.out]
        go_wp2_with fail
        rw [E1.out]
        refine (refbytes_bad (s.take 32) (by rw [List.length_take]; omega) H4.out _).mono ?_
        rintro e w1 ⟨rfl, hb⟩
        have HB := Lib.hid hb
        clear hb H4 h5
        go_wp2_with fail
        go_ret3
        exact ⟨rfl, HB.out⟩
    · have h5 : ((((ByteArray.mk s.toArray)[32]'h1n).toNat : Int) != 45) = true := by rw [bne_iff_ne]; exact dash_no h1n h2
      clear h h2
      go_enter Try.func26, Try.ntmps26
      go_wp2_with fail
      go_ret3
      exact ⟨rfl, Below.refl _ _⟩
  · have h1' : (s.length : Int) < 34 := by omega
    clear h
    go_enter Try.func26, Try.ntmps26
    go_wp2_with fail
    go_ret3
    exact ⟨rfl, Below.refl _ _⟩
def lettersB (s : List By) : List By := if pathB s then s.take 32 else []
def titleB (s : List By) : List By := if pathB s then s.drop 33 else []
theorem split_any (s : List By) (w : World) :
    Calls Try.prog 24 #[vs s] w fun e w' => e = .returned (.tuple #[vs (lettersB s), vs (titleB s), .bool (pathB s)]) ∧ Below w.heap.size w w' := by
  unfold lettersB titleB
  cases h : pathB s with
  | true => simpa using split_yes s h w
  | false => simpa using split_no s h w
theorem rsplit_any (s : List By) (w : World) :
    Calls Try.prog 26 #[vs s] w fun e w' => e = .returned (.tuple #[vs (lettersB s), vs (titleB s), .bool (pathB s)]) ∧ Below w.heap.size w w' := by
  unfold lettersB titleB
  cases h : pathB s with
  | true => simpa using rsplit_yes s h w
  | false => simpa using rsplit_no s h w
theorem ris_any (s : List By) (w : World) : Calls Try.prog 19 #[vs s] w fun e w' => e = .returned (.bool (pathB s)) ∧ Below w.heap.size w w' := by
  go_enter Try.func19, Try.ntmps19
  go_wp2_with fail
  refine (rsplit_any s w).mono ?_
  rintro e w1 ⟨rfl, hb⟩
  have HB := Lib.hid hb; clear hb
  go_wp2_with fail
  go_ret
  exact ⟨rfl, HB.out⟩
end Go.Proofs.Ythocaimiofehkaa
