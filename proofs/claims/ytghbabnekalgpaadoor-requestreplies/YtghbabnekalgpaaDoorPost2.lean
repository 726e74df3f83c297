/- Texts that came in. -/
import Derived.Test.YtghbabnekalgpaaDoorPost
import Derived.Test.YtghbabnekalgpaaDoorW4
import Derived.Deep.Slices
import Derived.Deep.Fields
import Derived.ChangeSame
import Derived.SliceStrings
namespace Go.Proofs.YtghbabnekalgpaaDoor
open Go.ChangeShapes Go.WideShapes Go.ChangeAt Go.RowKit Go.WideElems Go.Deep BaseMath

section
variable {H : Type} {enc : TypeId × Value → H}
set_option maxRecDepth 100000 in
/-- texts that came in -/
theorem open_texts {W : World} {base : Nat} {v : Value} {d : DataW H} {ps : List MemPlace}
    (hv : Value.okWide Tryd.prog W .any base 32 v) (h : DataW.Trod enc Tryd.prog W 0 (fun _ => true) true 32 v d ps) :
    ∃ (A : Option Addr) (c : Nat) (ls : List (List By)), v = .slice A ls.length c ∧ ls.length ≤ maxLen ∧ StrsIs W A ls ∧ ∀ t ∈ ls, t.length ≤ maxLen := by
  obtain ⟨A, n, cap, rfl⟩ := okWide_slice Tryd.underlying32 hv
  obtain ⟨fuel, hf⟩ := h
  rcases open_strings Tryd.underlying32 Tryd.underlying9 cells9 hf with ⟨hcs, _⟩ | ⟨a, len, cap', ss, hcs, _, hl, hm, hz, _, hcell, hall⟩
  · simp [Value.cells] at hcs
    obtain ⟨rfl, rfl, rfl⟩ := hcs
    exact ⟨none, 0, [], rfl, by unfold maxLen; simp, fun h => absurd h (by simp), by simp⟩
  · simp [Value.cells] at hcs
    obtain ⟨rfl, rfl, rfl⟩ := hcs
    simp only [if_true] at hz
    have hlen : ((ss.take n).map fun s => s.data.toList).length = n := by simp; omega
    refine ⟨some a, cap, (ss.take n).map fun s => s.data.toList, by rw [hlen], by omega, ?_, ?_⟩
    · intro hpos
      rw [hlen] at hpos
      obtain ⟨b, off, spot⟩ := a
      have hspot : spot = none := by simpa [Addr.add] using World.cell?_spot (hcell 0 (by omega))
      subst hspot
      refine ⟨b, off, rfl, fun k hk => ?_⟩
      rw [hlen] at hk
      have hk' : k < ss.length := by omega
      rw [← Addr.add_mid, hcell k hk']
      simp only [List.getElem_map, List.getElem_take, List.getD_eq_getElem?_getD, List.getElem?_eq_getElem hk', Option.getD_some]
    · intro t ht
      obtain ⟨s, hs, rfl⟩ := List.mem_map.1 ht
      have := hall s (List.mem_of_mem_take hs)
      simpa using this
end
end Go.Proofs.YtghbabnekalgpaaDoor
