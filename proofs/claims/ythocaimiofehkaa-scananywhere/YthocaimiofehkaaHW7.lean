/- The contracts of Short, of the laws' example and of the reference's Bytes and Join. -/
import Derived.Test.YthocaimiofehkaaHW6
import Derived.Test.YthocaimiofehkaaHEval
namespace Go.Proofs.Ythocaimiofehkaa.Hs
open Go.RowKit HashMath

/-- a new slice of bytes: where it lies, and what it holds -/
def NewB (w : World) (l : List By) (e : Ending) (w' : World) : Prop :=
  ∃ g cap tl, e = .returned (.slice (some ⟨g, 0, none⟩) l.length cap) ∧ w.heap.size ≤ g ∧ Blk w' g 5 (l.map vb ++ tl) ∧ l.length ≤ cap ∧ Below w.heap.size w w'
theorem own_newB {w w' : World} {v : Value} {n : Nat} {l : List By} (h : w'.ownsRow w.heap.size 5 1 v n (l.map vb)) (hl : l.length = n) (h0 : 0 < n) (hb : Below w.heap.size w w') : NewB w l (.returned v) w' := by
  rcases h.2 with ⟨_, h2⟩ | ⟨g, cap, cur, hv, hg, hc, hn, _, hs, ht⟩
  · omega
  · refine ⟨g, cap, cur.toList.drop n, by rw [hv, hl], hg, ?_, by omega, hb⟩
    rw [Nat.mul_one] at ht
    rw [← ht, List.take_append_drop]
    exact hc
theorem _root_.Go.Blk.bytes_app {w : World} {g : Nat} {l : List By} {tl : List Value} (h : Blk w g 5 (l.map vb ++ tl)) : BytesAt w g 0 l := fun k hk => by
  rw [Nat.zero_add, h.cell, List.getElem?_append_left (by simpa using hk), List.getElem?_map, List.getElem?_eq_getElem hk]; rfl

end Go.Proofs.Ythocaimiofehkaa.Hs
