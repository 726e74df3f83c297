/- The contracts of mayRefer and Make, where a path is made. -/
import Derived.Test.YthocaimiofehkaaN2
import Derived.Test.YthocaimiofehkaaN3
namespace Go.Proofs.Ythocaimiofehkaa
open Go.RowKit BaseMath WireMath NameMath

/-- the path of a name, an archive, refs -/
def pathOf (name arch : List By) (refs : List (List By)) : List By := text (shortU (laidB (sumU arch) refs name)) ++ 45 :: name
theorem path_is {name arch : List By} {refs : List (List By)} (h : rightB name = true) : pathB (pathOf name arch refs) = true := path_letters (shortU_length _) name h
def PathsOk (l : List (List By)) : Prop := l.length ≤ 255 ∧ (∀ k (h : k < l.length), pathB l[k] = true) ∧ Rises l
theorem rises_at {l : List (List By)} (h : Rises l) (k : Nat) (h0 : 0 < k) (hk : k < l.length) : Op.bytesLess (l[k - 1]'(by omega)) l[k] = true :=
  List.pairwise_iff_getElem.1 h (k - 1) k (by omega) hk (by omega)
theorem cat_path (t n : List By) : (ByteArray.mk t.toArray ++ ByteArray.mk #[45]) ++ ByteArray.mk n.toArray = ⟨(t ++ 45 :: n).toArray⟩ := by
  apply ByteArray.ext
  simp [ByteArray.data_append]
end Go.Proofs.Ythocaimiofehkaa
