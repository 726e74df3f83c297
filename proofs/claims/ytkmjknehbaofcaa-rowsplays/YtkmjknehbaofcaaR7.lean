/- Undo at whatever mark that is no less than 0; the document's example. -/
import Derived.Test.YtkmjknehbaofcaaR6
namespace Go.Proofs.Ytkmjknehbaofcaa
open Go.RowKit Go.Maps Go.WideShapes Go.MapKept Go.WideMaps Go.ChangeMaps BaseMath WireMath NameMath

theorem Tab.base_le {base : Nat} {w : World} {tb : Nat} {D : DU} {J : List Fo} {n : Nat} (h : Tab base w tb D J n) : base ≤ w.heap.size := by obtain ⟨mb, jv, h⟩ := h; exact h.base_le
theorem Tab.mono {base : Nat} {w : World} {tb : Nat} {D : DU} {J : List Fo} {n m : Nat} (h : Tab base w tb D J n) (hm : n ≤ m) : Tab base w tb D J m := by
  obtain ⟨mb, jv, h⟩ := h; exact ⟨mb, jv, h.blk, h.tbase, h.mbase, h.map.mono hm, h.row⟩
theorem undo_all {base : Nat} {w : World} {tb : Nat} {D : DU} {J : List Fo} {n : Nat} (h : Tab base w tb D J n) (m : Int) (h0 : 0 ≤ m) (hJ : J.length ≤ 1000) (hn : n ≤ 500000) :
    Calls Try.prog 16 #[.pointer (some ⟨tb, 0, none⟩), .int .i64 m] w fun e w' => e = .returned (.tuple #[]) ∧ Tab base w' tb (undoD D (J.drop m.toNat)) (J.take m.toNat) (n + 1000) ∧ Step base w w' := by
  by_cases hm : (J.length : Int) ≤ m
  · refine (undo_none h m (by omega)).mono fun e w' he => ⟨he.1, ?_, Step.of_below he.2 h.base_le⟩
    rw [List.drop_of_length_le (by omega), List.take_of_length_le (by omega), undoD_nil]
    exact (h.below he.2).mono (by omega)
  · obtain ⟨k, rfl⟩ : ∃ k : Nat, m = k := ⟨m.toNat, by omega⟩
    rw [Int.toNat_natCast]
    obtain ⟨mb, jv, h⟩ := h
    obtain ⟨j, hj⟩ : ∃ j, J.length = j + 1 := ⟨J.length - 1, by omega⟩
    obtain ⟨g, cap, hv⟩ : ∃ g cap, jv = .slice (some ⟨g, 0, none⟩) J.length cap := by
      have := h.row
      rw [hj] at this ⊢
      exact row_form this
    subst hv
    exact undo_pos h k (by omega) hJ hn
theorem get_val {base : Nat} {w : World} {tb : Nat} {D : DU} {J : List Fo} {n : Nat} (h : Tab base w tb D J n) (k : List By) (hk : k.length ≤ maxLen) (c : Int) (t : Bool) (h1 : numD D k = c) (h2 : hasD D k = t) :
    Calls Try.prog 19 #[.pointer (some ⟨tb, 0, none⟩), vs k] w fun e w' => e = .returned (.tuple #[.int .i64 c, .bool t]) ∧ w = w' := by subst h1 h2; exact get_any h k hk
set_option maxHeartbeats 2000000 in
set_option maxRecDepth 100000 in
theorem undone_any (w : World) : Calls Try.prog 9 #[] w fun e w' => e = .returned (.bool true) ∧ Below w.heap.size w w' := by
  go_enter Try.func9, Try.ntmps9
  go_wp2_with fail
  refine (new_any w).mono ?_
  rintro e w1 ⟨tb, rfl, h1, hb1⟩
  have HB1 := Lib.hid hb1
  have S1 := Lib.hid (set_any h1 [97] (by decide) 1 (by decide) (by decide) (by omega))
  clear h1 hb1
  go_wp2_with fail
  refine S1.out.mono ?_
  rintro e w2 ⟨rfl, h2, s2⟩
  have HB2 : Hid (Step w.heap.size w1 w2) := s2
  have M2 : Hid (Calls Try.prog 22 #[.pointer (some ⟨tb, 0, none⟩)] w2 fun e w' => e = .returned (.int .i64 1) ∧ w2 = w') := mark_any h2
  have S2 := Lib.hid (set_any h2 [97] (by decide) 2 (by decide) (by decide) (by omega))
  clear h2 s2 S1
  go_wp2_with fail
  refine M2.out.mono ?_
  rintro e w2' ⟨rfl, rfl⟩
  go_wp2_with fail
  refine S2.out.mono ?_
  rintro e w3 ⟨rfl, h3, s3⟩
  have HB3 := Lib.hid (HB2.out.trans s3)
  have S3 := Lib.hid (drop_any h3 [97] (by decide) (by decide))
  clear h3 s3 S2 HB2
  go_wp2_with fail
  refine S3.out.mono ?_
  rintro e w4 ⟨rfl, h4, s4⟩
  have HB4 := Lib.hid (HB3.out.trans s4)
  have S4 := Lib.hid (undo_all h4 1 (by omega) (by decide) (by omega))
  clear h4 s4 S3 HB3
  go_wp2_with fail
  refine S4.out.mono ?_
  rintro e w5 ⟨rfl, h5, s5⟩
  have HB5 := Lib.hid (HB4.out.trans s5)
  have S5 := Lib.hid (get_val h5 [97] (by decide) 1 true (by decide +kernel) (by decide +kernel))
  clear h5 s5 S4 HB4
  go_wp2_with fail
  refine S5.out.mono ?_
  rintro e w6 ⟨rfl, rfl⟩
  go_wp2_with fail
  go_ret
  exact ⟨rfl, HB1.out.trans HB5.out.below⟩
end Go.Proofs.Ytkmjknehbaofcaa
