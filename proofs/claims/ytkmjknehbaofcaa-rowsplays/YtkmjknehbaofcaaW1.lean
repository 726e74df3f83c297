/- A reader in memory; the contracts of its leaves: fail, Left, OK, End, take. -/
import Derived.Test.YtkmjknehbaofcaaB2
import Derived.Test.YtkmjknehbaofcaaWMath
namespace Go.Proofs.Ytkmjknehbaofcaa
open Go.RowKit BaseMath WireMath

/-- of what was there, only that block may have turned -/
structure OnlyAt (g : Nat) (w w' : World) : Prop where
  os : w'.os = w.os
  tape : w'.tape = w.tape
  output : w'.output = w.output
  size : w.heap.size ≤ w'.heap.size
  other : ∀ c, c < w.heap.size → c ≠ g → w'.heap[c]? = w.heap[c]?
theorem OnlyAt.refl (g : Nat) (w : World) : OnlyAt g w w := ⟨rfl, rfl, rfl, Nat.le_refl _, fun _ _ _ => rfl⟩
theorem OnlyAt.trans {g : Nat} {a b c : World} (h : OnlyAt g a b) (k : OnlyAt g b c) : OnlyAt g a c :=
  ⟨k.os.trans h.os, k.tape.trans h.tape, k.output.trans h.output, Nat.le_trans h.size k.size, fun i hi hn => (k.other i (Nat.lt_of_lt_of_le hi h.size) hn).trans (h.other i hi hn)⟩
theorem OnlyAt.setCell {g : Nat} {a w : World} (h : OnlyAt g a w) (o : Nat) (v : Value) : OnlyAt g a (w.setCell ⟨g, o, none⟩ v) :=
  ⟨h.os, h.tape, h.output, by rw [World.size_setCell]; exact h.size, fun c hc hn => by rw [Below.heap_setCell w ⟨g, o, none⟩ v c hn]; exact h.other c hc hn⟩
theorem OnlyAt.below {g B : Nat} {w w' : World} (h : OnlyAt g w w') (hB : B ≤ g) (hw : B ≤ w.heap.size) : Below B w w' :=
  ⟨h.os, h.tape, h.output, h.size, fun k hk => h.other k (by omega) (by omega)⟩
theorem OnlyAt.of_below {g : Nat} {w w' : World} (h : Below w.heap.size w w') : OnlyAt g w w' := ⟨h.os, h.tape, h.output, h.size, fun c hc _ => h.block c hc⟩
theorem BytesAt.same {w w' : World} {b o : Nat} {p : List By} (h : BytesAt w b o p) (hb : w'.heap[b]? = w.heap[b]?) : BytesAt w' b o p := fun k hk => by
  rw [World.cell?_of_block (w := w) (a := ⟨b, o + k, none⟩) hb]; exact h k hk
theorem SrcIs.only {w w' : World} {A : Option Addr} {p : List By} {g : Nat} (h : SrcIs w A p) (ho : OnlyAt g w w') (hne : 0 < p.length → ∀ a, A = some a → a.block ≠ g) : SrcIs w' A p := fun h0 => by
  obtain ⟨b, o, rfl, hc⟩ := h h0
  exact ⟨b, o, rfl, hc.same (ho.other b (hc.lt h0) (hne h0 _ rfl))⟩
theorem Blk.only {w w' : World} {b g : Nat} {t : TypeId} {cs : List Value} (h : Blk w b t cs) (ho : OnlyAt g w w') (hne : b ≠ g) : Blk w' b t cs := by
  unfold Blk; rw [ho.other b h.lt hne]; exact h

theorem Blk.set2 {w : World} {b : Nat} {t : TypeId} {x y : Value} (h : Blk w b t [x, y]) (x' y' : Value) : Blk ((w.setCell ⟨b, 0, none⟩ x').setCell ⟨b, 1, none⟩ y') b t [x', y'] := by
  have h1 := (h.set 0 x').set 1 y'
  simpa using h1
end Go.Proofs.Ytkmjknehbaofcaa
