/- The contract of lay: words as bytes. -/
import Derived.Test.YthocaimiofehkaaHW4
import Derived.Deep.AppendLies
namespace Go.Proofs.Ythocaimiofehkaa.Hs
open Go.RowKit HashMath

theorem outN_take (l : List Wd) (k : Nat) (h : k < l.length) : outN (l.take (k + 1)) = outN (l.take k) ++ bytesOf (l.getD k 0) := by
  unfold outN
  rw [List.take_succ_eq_append_getElem h, List.map_append, List.flatten_append, List.getD_eq_getElem?_getD, List.getElem?_eq_getElem h]; simp
/-- what stands behind k rounds -/
structure LayRel (w : World) (l : List Wd) (k : Nat) (v : Value) (wr : World) : Prop where
  below : Below w.heap.size w wr
  own : wr.ownsRow w.heap.size 5 1 v (4 * k) ((outN (l.take k)).map vb)

end Go.Proofs.Ythocaimiofehkaa.Hs
