/- Paths of numbers; the walk of NameOwn. -/
import Derived.Test.YthocaimiofehkaaL2
import Derived.Deep.RegionHeld3
namespace Go.Proofs.Ythocaimiofehkaa
open Go.RowKit BaseMath WireMath NameMath

/-- the path of a number -/
def pathN (x : By) : List By := pathOf [110] [x] []
theorem pathN_is (x : By) : pathB (pathN x) = true := path_is (by decide)
theorem pathOf_length (n a : List By) (r : List (List By)) : (pathOf n a r).length = 33 + n.length := by
  unfold pathOf; rw [List.length_append, text_length, shortU_length, List.length_cons]; show 32 + _ = _; omega
theorem pathN_length (x : By) : (pathN x).length = 34 := pathOf_length _ _ _
theorem make_one (t : Value) (b : Nat) (x : By) (w : World) (ht : Hs.HasherIs w t) (hs : SrcIs w (some ⟨b, 0, none⟩) [x]) :
    Calls Try.prog 22 #[t, .string ⟨#[110]⟩, .slice (some ⟨b, 0, none⟩) 1 1, .slice none 0 0] w fun e w' => e = .returned (.tuple #[vs (pathN x), .int .i64 0]) ∧ Below w.heap.size w w' :=
  make_n t (some ⟨b, 0, none⟩) 1 [x] (by simp) (fun h => by cases h) w ht hs
end Go.Proofs.Ythocaimiofehkaa
