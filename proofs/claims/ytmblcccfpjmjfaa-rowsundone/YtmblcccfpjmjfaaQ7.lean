/- Undo at whatever mark that is no less than 0; the document's example. -/
import Derived.Test.YtmblcccfpjmjfaaQ6
namespace Go.Proofs.Ytmblcccfpjmjfaa.St
open Go.RowKit Go.Maps Go.WideShapes Go.MapKept Go.WideMaps Go.ChangeMaps BaseMath WireMath NameMath

theorem Tab.base_le {base : Nat} {w : World} {tb : Nat} {D : DU} {J : List Fo} {n : Nat} (h : Tab base w tb D J n) : base ≤ w.heap.size := by obtain ⟨mb, jv, h⟩ := h; exact h.base_le
theorem Tab.mono {base : Nat} {w : World} {tb : Nat} {D : DU} {J : List Fo} {n m : Nat} (h : Tab base w tb D J n) (hm : n ≤ m) : Tab base w tb D J m := by
  obtain ⟨mb, jv, h⟩ := h; exact ⟨mb, jv, h.blk, h.tbase, h.mbase, h.map.mono hm, h.row⟩
theorem undo_all {base : Nat} {w : World} {tb : Nat} {D : DU} {J : List Fo} {n : Nat} (h : Tab base w tb D J n) (m : Int) (h0 : 0 ≤ m) (hJ : J.length ≤ 1000) (hn : n ≤ 50000) :
    Calls Try.prog 32 #[.pointer (some ⟨tb, 0, none⟩), .int .i64 m] w fun e w' => e = .returned (.tuple #[]) ∧ Tab base w' tb (undoD D (J.drop m.toNat)) (J.take m.toNat) (n + 1000) ∧ Step base w w' := by
  by_cases hm : (J.length : Int) ≤ m
  · refine (undo_none h m (by omega)).mono fun e w' he => ⟨he.1, ?_, Step.of_below he.2 h.base_le⟩
    rw [List.drop_of_length_le (by omega), List.take_of_length_le (by omega), undoD_nil]
    exact (h.below he.2).mono (by omega)
  · obtain ⟨k, rfl⟩ : ∃ k : Nat, m = k := ⟨m.toNat, by omega⟩
    rw [Int.toNat_natCast]
    obtain ⟨mb, jv, h⟩ := h
    obtain ⟨j, hj⟩ : ∃ j, J.length = j + 1 := ⟨J.length - 1, by omega⟩
    obtain ⟨g, cap, hv⟩ : ∃ g cap, jv = .slice (some ⟨g, 0, none⟩) J.length cap := by
      have := h.row
      rw [hj] at this ⊢
      exact row_form this
    subst hv
    exact undo_pos h k (by omega) hJ hn
end Go.Proofs.Ytmblcccfpjmjfaa.St
