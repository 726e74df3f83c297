/- The document's example of wire, and the walk of WireNil. -/
import Derived.Test.YtghbabnekalgpaaDoorW4
namespace Go.Proofs.YtghbabnekalgpaaDoor
open Go.RowKit BaseMath WireMath

set_option maxRecDepth 100000 in
theorem numR_one (b : By) (l : List By) (f : Bool) : numR 1 ⟨b :: l, f⟩ = b.toNat ∧ after 1 ⟨b :: l, f⟩ = ⟨l, f⟩ := by
  obtain ⟨h1, h2⟩ := taken_all 1 ⟨b :: l, f⟩ (by simp)
  refine ⟨?_, by rw [h2]; simp⟩
  unfold numR; rw [h1]; simp [nat, val]
end Go.Proofs.YtghbabnekalgpaaDoor
