/- Blocks that are known whole: their cells, stores into them, loads and stores of a whole array. No program is named but as a letter. -/
import Derived.WalkKit
import Derived.WalkSmall
import Derived.Laws.Rows
import Derived.Laws.Tables
import Derived.Laws.CopyOwn
import Derived.Deep.WholeRow
import Derived.Deep.MidRow
import Derived.Lib.Hide
namespace Go
open Go.RowKit

/-- block b holds just these cells -/
def Blk (w : World) (b : Nat) (t : TypeId) (cs : List Value) : Prop := w.heap[b]? = some (.cells cs.toArray t (0, 0))
section
variable {w w' : World} {b : Nat} {t : TypeId} {cs : List Value}
theorem Blk.cell (h : Blk w b t cs) (i : Nat) : w.cell? ⟨b, i, none⟩ = cs[i]? := by
  rw [cell_of_row w b i cs.toArray t (0, 0) h]; simp
theorem Blk.frozen (h : Blk w b t cs) (i : Nat) : w.frozen? ⟨b, i, none⟩ = false := frozen_of_row w b i cs.toArray t h
theorem Blk.lt (h : Blk w b t cs) : b < w.heap.size := by
  rcases Nat.lt_or_ge b w.heap.size with h1 | h1
  · exact h1
  · unfold Blk at h; rw [Array.getElem?_eq_none h1] at h; cases h
theorem Blk.set (h : Blk w b t cs) (i : Nat) (v : Value) : Blk (w.setCell ⟨b, i, none⟩ v) b t (cs.set i v) := by
  unfold Blk; rw [heap_setCell_same w b i cs.toArray t v h]; simp
theorem Blk.other (h : Blk w b t cs) {p : Addr} (hp : b ≠ p.block) (v : Value) : Blk (w.setCell p v) b t cs := by
  unfold Blk; rw [heap_setCell_other w p b v hp]; exact h
theorem Blk.drew (h : Blk w b t cs) : Blk w.drew b t cs := h
theorem Blk.drewN (h : Blk w b t cs) (n : Nat) : Blk (w.drewN n) b t cs := h
theorem Blk.alloc (h : Blk w b t cs) (o : Obj) : Blk (w.alloc o) b t cs := by
  unfold Blk; rw [Below.heap_alloc w o b h.lt]; exact h
theorem Blk.new (w : World) (t : TypeId) (cs : Array Value) : Blk (w.alloc (.cells cs t)) w.heap.size t cs.toList := by
  unfold Blk; rw [heap_alloc_last]
theorem Blk.below {B : Nat} (h : Blk w b t cs) (hb : Below B w w') (hB : b < B) : Blk w' b t cs := by
  unfold Blk; rw [hb.block b hB]; exact h
theorem Blk.range (h : Blk w b t cs) : w.rangeAt b 0 cs := fun j v hv => by rw [Nat.zero_add, h.cell]; exact hv
theorem Blk.there (h : Blk w b t cs) : w.there b 0 cs.length := fun j hj => ⟨by rw [Nat.zero_add, h.cell, List.getElem?_eq_getElem hj]; rfl, by rw [Nat.zero_add]; exact h.frozen j⟩
theorem Blk.load {P : Program} {n : Nat} {e : TypeId} (h : Blk w b t cs) (hu : P.underlying t = some (.array n e)) (hi : (P.info? t).map (·.size) = some cs.length) :
    (Instr.loadAt t (.pointer (some ⟨b, 0, none⟩))).run P w = .ok (.agg cs.toArray) w := run_loadAt_mid w b 0 t cs _ h.range hu rfl hi
theorem Blk.setRow (h : Blk w b t cs) (cs' : List Value) : Blk (w.setRow b cs'.toArray) b t cs' := setRow_heap w b _ _ t _ h
theorem Blk.other_row {g : Nat} (h : Blk w b t cs) (hne : b ≠ g) (cs' : Array Value) : Blk (w.setRow g cs') b t cs := by
  unfold Blk; rw [setRow_other w g b cs' hne]; exact h
theorem Blk.store {P : Program} {cs' : List Value} (h : Blk w b t cs) (hl : cs'.length = cs.length) (hi : (P.info? t).map (·.size) = some cs.length) (h1 : cs'.all (·.oneCell') = true) :
    (Instr.storeAt t (.pointer (some ⟨b, 0, none⟩)) (.agg cs'.toArray)).run P w = .ok () (w.setRow b cs'.toArray) := by
  simp only [Instr.storeAt, Instr.sureAddr, Sem.run_bind, Sem.run_pure, Result.andThen]
  exact run_storeVar_row w b t t cs.toArray cs'.toArray h (by simpa [hl] using hi) (by simp [hl]) (by simpa using h1)
theorem Blk.loadVar {P : Program} {n : Nat} {e : TypeId} (h : Blk w b t cs) (hu : P.underlying t = some (.array n e)) (hi : (P.info? t).map (·.size) = some cs.length) :
    (loadVar t ⟨b, 0, none⟩).run P w = .ok (.agg cs.toArray) w := run_loadVar_mid w b 0 t cs _ h.range hu rfl hi
theorem results_cell_one {fn : Func} {p : Tmp} {ty : TypeId} (h : fn.results = #[.cell p ty]) (tmps : Array Value) (P : Program) (w : World) :
    (results fn tmps).run P w = ((asAddr (tmps.getD p undef)).run P w).andThen fun a w₁ => ((loadVar ty a).run P w₁) := by
  simp only [results, h]
  simp [Sem.run_bind, Result.andThen]
/-- A RESULT THROUGH A CELL: an array by value -/
theorem bodyPost_blk {P : Program} {fn : Func} {R : Ending → World → Prop} {a : Act} {p : Tmp} {n : Nat} {e : TypeId} (hf : fn.results = #[.cell p t]) (hp : a.tmps.getD p undef = .pointer (some ⟨b, 0, none⟩))
    (h : Blk w b t cs) (hu : P.underlying t = some (.array n e)) (hi : (P.info? t).map (·.size) = some cs.length) (hd : a.defers = []) (hR : R (.returned (.agg cs.toArray)) w) : bodyPost P fn R .ret a w := by
  refine bodyPost_ret (v := .agg cs.toArray) ?_ hd hR
  rw [results_cell_one hf, hp]
  simp only [asAddr, Sem.run_pure, Result.andThen, h.loadVar hu hi]
/-- THE LOAD OF A WHOLE ARRAY, at the list of a plain region's operations -/
theorem wpList_load_blk {P : Program} {ops : Array Oper} {rest : List Oper} {op : Oper} {a : Act} {Q : Exit → Act → World → Prop} {n : Nat} {e : TypeId} (hgd : op.guard = none) (x : Operand) (ho : op.op = .load t x)
    (hx : a.eval x = .pointer (some ⟨b, 0, none⟩)) (h : Blk w b t cs) (hu : P.underlying t = some (.array n e)) (hi : (P.info? t).map (·.size) = some cs.length)
    (k : wpList P ops Q rest (a.put op.dst (.agg cs.toArray)) w) : wpList P ops Q (op :: rest) a w :=
  wpList_load_mid hgd t x ho b 0 hx cs _ h.range hu rfl hi k
/-- what a store of a whole array leaves -/
structure RowSet (w : World) (b : Nat) (t : TypeId) (cs : List Value) (w' : World) : Prop where
  blk : Blk w' b t cs
  size : w'.heap.size = w.heap.size
  other : ∀ c, c ≠ b → w'.heap[c]? = w.heap[c]?
  below : ∀ B w0, Below B w0 w → B ≤ b → Below B w0 w'
theorem Blk.rowSet (h : Blk w b t cs) (cs' : List Value) : RowSet w b t cs' (w.setRow b cs'.toArray) :=
  ⟨h.setRow cs', size_setRow _ _ _, fun c hc => setRow_other w b c _ hc, fun _ _ hb hB => below_setRow hb hB _⟩
theorem RowSet.keep {b' : Nat} {t' : TypeId} {cs' : List Value} (h : RowSet w b t cs w') (k : Blk w b' t' cs') (hne : b' ≠ b) : Blk w' b' t' cs' := by
  unfold Blk; rw [h.other b' hne]; exact k
theorem RowSet.cell (h : RowSet w b t cs w') {p : Addr} (hne : p.block ≠ b) : w'.cell? p = w.cell? p := World.cell?_of_block (h.other p.block hne)
theorem wpList_store_blk {P : Program} {ops : Array Oper} {rest : List Oper} {op : Oper} {a : Act} {Q : Exit → Act → World → Prop} {cs' : List Value} (hgd : op.guard = none) (x y : Operand) (ho : op.op = .store t x y)
    (hx : a.eval x = .pointer (some ⟨b, 0, none⟩)) (hy : a.eval y = .agg cs'.toArray) (h : Blk w b t cs) (hl : cs'.length = cs.length) (hi : (P.info? t).map (·.size) = some cs.length) (h1 : cs'.all (·.oneCell') = true)
    (k : ∀ w', RowSet w b t cs' w' → wpList P ops Q rest (a.put op.dst undef) w') : wpList P ops Q (op :: rest) a w := by
  refine wpList_plain hgd fun K hK => ?_
  unfold Oper.wp execOp
  simp only [ho, hx, hy, Sem.run_bind, h.store (P := P) hl hi h1, Result.andThen_ok, Sem.run_pure]
  exact hK _ _ (k _ (h.rowSet cs'))
/-- COPY INTO A BLOCK THAT IS KNOWN WHOLE, at the list of a plain region's operations -/
theorem wpList_copy_blk {P : Program} {ops : Array Oper} {rest : List Oper} {o : Oper} {a : Act} {Q : Exit → Act → World → Prop} (hgd : o.guard = none) (d s : Operand) (dT sT : TypeId)
    (ho : o.op = .call { callee := .builtin .copy, args := #[d, s], argTypes := #[dT, sT] }) (elem : TypeId) (hu : P.underlying dT = some (.slice elem)) (hsz : (P.info? elem).map (·.size) = some 1)
    (off dLen dCap : Nat) (ad : Addr) (sLen sCap : Nat) (hd : a.eval d = .slice (some ⟨b, off, none⟩) dLen dCap) (hs : a.eval s = .slice (some ad) sLen sCap)
    (hg : Blk w b t cs) (vs : List Value) (hn : vs.length = Nat.min sLen dLen)
    (hsrc : ∀ j v, vs[j]? = some v → w.cell? (ad.add j) = some v) (hfit : off + vs.length ≤ cs.length) (h1 : ∀ v ∈ vs, v.oneCell' = true)
    (h : ∀ w', RowSet w b t (cs.take off ++ (vs ++ cs.drop (off + vs.length))) w' → wpList P ops Q rest (a.put o.dst (goInt vs.length)) w') : wpList P ops Q (o :: rest) a w :=
  wpList_copy_own hgd d s dT sT ho elem hu hsz b off dLen dCap ad sLen sCap hd hs cs.toArray t hg vs hn hsrc (by simpa using hfit) h1
    (h _ (by have := hg.rowSet (cs.take off ++ (vs ++ cs.drop (off + vs.length))); simpa using this))
theorem RowSet.refl (h : Blk w b t cs) : RowSet w b t cs w := ⟨h, rfl, fun _ _ => rfl, fun _ _ hb _ => hb⟩
/-- the same, where there may be nothing to copy -/
theorem wpList_copy_any {P : Program} {ops : Array Oper} {rest : List Oper} {o : Oper} {a : Act} {Q : Exit → Act → World → Prop} (hgd : o.guard = none) (d s : Operand) (dT sT : TypeId)
    (ho : o.op = .call { callee := .builtin .copy, args := #[d, s], argTypes := #[dT, sT] }) (elem : TypeId) (hu : P.underlying dT = some (.slice elem)) (hsz : (P.info? elem).map (·.size) = some 1)
    (off dLen dCap : Nat) (A : Option Addr) (sLen sCap : Nat) (hd : a.eval d = .slice (some ⟨b, off, none⟩) dLen dCap) (hs : a.eval s = .slice A sLen sCap)
    (hg : Blk w b t cs) (vs : List Value) (hn : vs.length = Nat.min sLen dLen)
    (hsrc : 0 < vs.length → ∃ ad, A = some ad ∧ ∀ j v, vs[j]? = some v → w.cell? (ad.add j) = some v) (hfit : off + vs.length ≤ cs.length) (h1 : ∀ v ∈ vs, v.oneCell' = true)
    (h : ∀ w', RowSet w b t (cs.take off ++ (vs ++ cs.drop (off + vs.length))) w' → wpList P ops Q rest (a.put o.dst (goInt vs.length)) w') : wpList P ops Q (o :: rest) a w := by
  by_cases h0 : vs.length = 0
  · obtain rfl : vs = [] := List.eq_nil_of_length_eq_zero h0
    refine wpList_copy_nothing hgd d s dT sT ho elem hu hsz _ A dLen dCap sLen sCap hd hs (by simpa using hn.symm) ?_
    exact h w (by simpa using RowSet.refl hg)
  · obtain ⟨ad, rfl, hs2⟩ := hsrc (by omega)
    exact wpList_copy_blk hgd d s dT sT ho elem hu hsz off dLen dCap ad sLen sCap hd hs hg vs hn hs2 hfit h1 h
end
end Go
