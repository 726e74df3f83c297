/- The contracts of Texts and Bytes of the writer, of bytes.Clone, NewReader, and the document's example of wire. -/
import Derived.Test.YtkmjknehbaofcaaW3
namespace Go.Proofs.Ytkmjknehbaofcaa
open Go.RowKit BaseMath WireMath

abbrev vs (s : List By) : Value := .string ⟨s.toArray⟩
/-- a slice of texts -/
def StrsIs (w : World) (A : Option Addr) (ls : List (List By)) : Prop := 0 < ls.length → ∃ b o, A = some ⟨b, o, none⟩ ∧ ∀ k (h : k < ls.length), w.cell? ⟨b, o + k, none⟩ = some (vs ls[k])
theorem StrsIs.below {w w' : World} {A : Option Addr} {ls : List (List By)} {B : Nat} (h : StrsIs w A ls) (hb : Below B w w') (hA : 0 < ls.length → ∀ a, A = some a → a.block < B) : StrsIs w' A ls := fun h0 => by
  obtain ⟨b, o, rfl, hc⟩ := h h0
  refine ⟨b, o, rfl, fun k hk => ?_⟩
  rw [World.cell?_of_block (w := w) (a := ⟨b, o + k, none⟩) (hb.block b (hA h0 _ rfl))]; exact hc k hk
theorem StrsIs.lt {w : World} {A : Option Addr} {ls : List (List By)} (h : StrsIs w A ls) : 0 < ls.length → ∀ a, A = some a → a.block < w.heap.size := fun h0 a ha => by
  obtain ⟨b, o, rfl, hc⟩ := h h0
  cases ha
  exact block_of_cell (hc 0 h0)
def flatN (ls : List (List By)) (k : Nat) : List By := (ls.take k).flatMap textB
theorem flatN_succ (ls : List (List By)) (k : Nat) (h : k < ls.length) : flatN ls (k + 1) = flatN ls k ++ textB ls[k] := by
  unfold flatN; rw [List.take_succ_eq_append_getElem h, List.flatMap_append, List.flatMap_cons, List.flatMap_nil, List.append_nil]
theorem flatN_all (ls : List (List By)) : flatN ls ls.length = ls.flatMap textB := by unfold flatN; rw [List.take_length]
theorem flatN_le (ls : List (List By)) (k : Nat) (h : k < ls.length) : (flatN ls k).length + 2 + ls[k].length ≤ (ls.flatMap textB).length := by
  have e : ls.flatMap textB = flatN ls (k + 1) ++ (ls.drop (k + 1)).flatMap textB := by
    unfold flatN; rw [← List.flatMap_append, List.take_append_drop]
  rw [e, flatN_succ ls k h, List.length_append, List.length_append]
  simp [textB, numB]; omega
theorem row_empty (w : World) : (w.alloc (.cells #[] 5)).ownsRow w.heap.size 5 1 (.slice (some ⟨w.heap.size, 0, none⟩) 0 0) ([] : List By).length (([] : List By).map vb) :=
  ⟨rfl, .inr ⟨w.heap.size, 0, #[], rfl, Nat.le_refl _, Blk.new w 5 #[], Nat.le_refl _, Nat.zero_le _, rfl, rfl⟩⟩
end Go.Proofs.Ytkmjknehbaofcaa
