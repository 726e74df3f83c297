/- The contract of mix: one block. -/
import Derived.Test.YthocaimiofehkaaHW2
namespace Go.Proofs.Ythocaimiofehkaa.Hs
open Go.RowKit HashMath

/-- the eight words, by value -/
abbrev cellsS (s : St) : List Value := [vw s.a, vw s.b, vw s.c, vw s.d, vw s.e, vw s.f, vw s.g, vw s.h]
abbrev aggS (s : St) : Value := .agg #[vw s.a, vw s.b, vw s.c, vw s.d, vw s.e, vw s.f, vw s.g, vw s.h]
/-- the two tables of the program -/
structure Tabs (w : World) : Prop where
  start : w.rangeAt 0 0 (cellsS H0)
  rounds : w.rangeAt 1 0 (K0.map vw)
theorem Tabs.size {w : World} (h : Tabs w) : 1 < w.heap.size := block_of_cell (h.rounds 0 (vw (K0.getD 0 0)) rfl)
theorem Tabs.below {B : Nat} {w w' : World} (h : Tabs w) (hb : Below B w w') (hB : 1 < B) : Tabs w' :=
  ⟨fun j v hv => by rw [hb.cell (p := ⟨0, 0 + j, none⟩) (by show 0 < B; omega)]; exact h.start j v hv, fun j v hv => by rw [hb.cell (p := ⟨1, 0 + j, none⟩) hB]; exact h.rounds j v hv⟩
theorem map_getD (l : List Wd) (k : Nat) (h : k < l.length) : (l.map vw)[k]? = some (vw (l.getD k 0)) := by
  rw [List.getElem?_map, List.getElem?_eq_getElem h, List.getD_eq_getElem?_getD, List.getElem?_eq_getElem h]; rfl
/-- the first k words summed up -/
def addUp (ss ts : List Wd) (k : Nat) : List Wd := (List.zipWith (· + ·) ss ts).take k ++ ss.drop k
theorem addUp_zero (ss ts : List Wd) : addUp ss ts 0 = ss := by simp [addUp]
theorem addUp_getD (ss ts : List Wd) (k : Nat) (h1 : k < ss.length) (h2 : k < ts.length) : (addUp ss ts k)[k]? = some (ss.getD k 0) := by
  have : ((List.zipWith (· + ·) ss ts).take k).length = k := by simp; omega
  unfold addUp
  rw [List.getElem?_append_right (by omega), this, Nat.sub_self, List.getElem?_drop, Nat.add_zero, List.getElem?_eq_getElem h1, List.getD_eq_getElem?_getD, List.getElem?_eq_getElem h1]; rfl
theorem addUp_succ (ss ts : List Wd) (k : Nat) (h1 : k < ss.length) (h2 : k < ts.length) : (addUp ss ts k).set k (ss.getD k 0 + ts.getD k 0) = addUp ss ts (k + 1) := by
  have hl : ((List.zipWith (· + ·) ss ts).take k).length = k := by simp; omega
  unfold addUp
  rw [List.set_append_right _ _ (by omega), hl, Nat.sub_self, List.drop_eq_getElem_cons h1, List.set_cons_zero]
  rw [List.take_succ_eq_append_getElem (by simp; omega), List.getElem_zipWith]
  rw [List.getD_eq_getElem?_getD, List.getElem?_eq_getElem h1, List.getD_eq_getElem?_getD, List.getElem?_eq_getElem h2]
  simp
end Go.Proofs.Ythocaimiofehkaa.Hs
