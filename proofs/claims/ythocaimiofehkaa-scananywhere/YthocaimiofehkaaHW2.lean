/- The contract of schedule: the plan of a block, by value. -/
import Derived.Test.YthocaimiofehkaaHW1
import Derived.Test.YthocaimiofehkaaBlk
import Derived.StillTailTactics
import Derived.Deep.DeepCutAuto
namespace Go.Proofs.Ythocaimiofehkaa.Hs
open Go.RowKit HashMath

/-- a word in a cell -/
abbrev vw (x : Wd) : Value := .int .u32 (u x)
abbrev vb (x : By) : Value := .int .u8 (ub x)
/-- bytes that the walk may read -/
def BytesAt (w : World) (b o : Nat) (p : List By) : Prop := ∀ k (h : k < p.length), w.cell? ⟨b, o + k, none⟩ = some (vb p[k])
theorem BytesAt.getD {w : World} {b o : Nat} {p : List By} (h : BytesAt w b o p) (k : Nat) (hk : k < p.length) : w.cell? ⟨b, o + k, none⟩ = some (vb (p.getD k 0)) := by
  rw [h k hk]; simp [List.getD, List.getElem?_eq_getElem hk]
theorem block_of_cell {W : World} {p : Addr} {v : Value} (h : W.cell? p = some v) : p.block < W.heap.size := World.block_lt_of_cell? W _ h
theorem BytesAt.lt {w : World} {b o : Nat} {p : List By} (h : BytesAt w b o p) (hk : 0 < p.length) : b < w.heap.size := block_of_cell (h 0 hk)
theorem BytesAt.below {B : Nat} {w w' : World} {b o : Nat} {p : List By} (h : BytesAt w b o p) (hb : Below B w w') (hB : b < B) : BytesAt w' b o p :=
  fun k hk => by rw [hb.cell (p := ⟨b, o + k, none⟩) hB]; exact h k hk
end Go.Proofs.Ythocaimiofehkaa.Hs
