/- The contracts of Short, and of the reference's Bytes and Join. -/
import Derived.Test.YthocaimiofehkaaHW7
import Derived.Laws.AppendOwnNone
import Derived.Maps.AppendAt
namespace Go.Proofs.Ythocaimiofehkaa.Hs
open Go.RowKit HashMath

/-- the first k folded -/
def foldK (s : List By) (k : Nat) : List By := (List.range 20).map fun i => if i < k then s.getD i 0 ^^^ s.getD (i + 20) 0 else s.getD i 0
theorem foldK_length (s : List By) (k : Nat) : (foldK s k).length = 20 := by simp [foldK]
theorem foldK_zero (s : List By) (h : s.length = 32) : foldK s 0 = s.take 20 := by
  apply List.ext_getElem
  · simp [foldK, h]
  · intro i h1 h2
    have : i < 32 := by simp [foldK] at h1; omega
    simp [foldK, List.getD, h, this]
theorem foldK_get (s : List By) (k : Nat) (h : k < 20) : (foldK s k)[k]? = some (s.getD k 0) := by
  unfold foldK
  rw [List.getElem?_map, List.getElem?_range h]; simp
theorem foldK_set (s : List By) (k : Nat) : (foldK s k).set k (s.getD k 0 ^^^ s.getD (k + 20) 0) = foldK s (k + 1) := by
  apply List.ext_getElem
  · simp [foldK]
  · intro i h1 h2
    rw [List.getElem_set]
    by_cases e : k = i
    · subst e; simp [foldK]
    · rw [if_neg e]
      simp only [foldK, List.getElem_map, List.getElem_range]
      by_cases h3 : i < k
      · rw [if_pos h3, if_pos (by omega)]
      · rw [if_neg h3, if_neg (by omega)]
theorem foldK_last (p : List By) : foldK (sum p) 12 = short p := rfl
theorem short_length (p : List By) : (short p).length = 20 := by simp [short]
structure ShortRel (w : World) (g g2 : Nat) (s : List By) (tl : List Value) (k : Nat) (wr : World) : Prop where
  below : Below w.heap.size w wr
  sum : Blk wr g 5 (s.map vb ++ tl)
  short : Blk wr g2 5 ((foldK s k).map vb)

end Go.Proofs.Ythocaimiofehkaa.Hs
