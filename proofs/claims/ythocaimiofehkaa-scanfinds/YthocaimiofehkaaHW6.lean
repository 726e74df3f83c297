/- The contract of Sum. -/
import Derived.Test.YthocaimiofehkaaHW5
namespace Go.Proofs.Ythocaimiofehkaa.Hs
open Go.RowKit HashMath

theorem SrcIs.below {w w' : World} {A : Option Addr} {p : List By} (h : SrcIs w A p) (hb : Below w.heap.size w w') : SrcIs w' A p := fun h0 => by
  obtain ⟨b, o, rfl, hc⟩ := h h0
  exact ⟨b, o, rfl, hc.below hb (hc.lt h0)⟩
theorem SrcIs.drop {w : World} {b o : Nat} {p : List By} (h : BytesAt w b o p) (k : Nat) (hk : k ≤ p.length) : BytesAt w b (o + k) (p.drop k) := fun j hj => by
  have hj' : k + j < p.length := by simp at hj; omega
  rw [Nat.add_assoc, h (k + j) hj']; simp
theorem BytesAt.take {w : World} {b o : Nat} {p : List By} (h : BytesAt w b o p) (k : Nat) : BytesAt w b o (p.take k) := fun j hj => by
  have hj' : j < p.length := by simp at hj; omega
  rw [h j hj']; simp
/-- THE LOAD OF A WHOLE ARRAY in a region that draws its order, ahead of a forced tail -/
theorem wpStill_load_blk {P : Program} {ops : Array Oper} {rest : List Oper} {op : Oper} {a : Act} {w : World} {Q : Act → Prop} {b : Nat} {t : TypeId} {cs : List Value} {n : Nat} {e : TypeId} (hgd : op.guard = none) (x : Operand) (ho : op.op = .load t x)
    (hx : a.eval x = .pointer (some ⟨b, 0, none⟩)) (h : Blk w b t cs) (hu : P.underlying t = some (.array n e)) (hi : (P.info? t).map (·.size) = some cs.length)
    (k : wpStill P ops w Q rest (a.put op.dst (.agg cs.toArray))) : wpStill P ops w Q (op :: rest) a := by
  refine wpStill_step fun K hK => ?_
  simp only [Region.wanted, hgd, if_true]
  unfold Oper.still execOp
  simp only [ho, hx, Sem.run_bind, h.load (P := P) hu hi, Result.andThen_ok, Sem.run_pure, Oper.stillUpon_value]
  exact hK _ k
theorem run_congr (K : List Wd) (s : St) (p t : List By) (k : Nat) (h : 64 * k ≤ p.length) : run K s p k = run K s (p ++ t) k := by
  induction k with
  | zero => rfl
  | succ k ih =>
    show comp K (run K s p k) _ = comp K (run K s (p ++ t) k) _
    rw [ih (by omega), List.drop_append_of_le_length (by omega), List.take_append_of_le_length (by simp; omega)]
/-- what is behind the whole blocks -/
def rest (p : List By) (k : Nat) : List By := (pad p).drop (64 * k)
theorem rest_eq (p : List By) (k m z : Nat) (h : 64 * k + m = p.length) (hm : m < 64) (hz : m < 56 ∧ z = 55 - m ∨ 56 ≤ m ∧ z = 119 - m) :
    p.drop (64 * k) ++ [128#8] ++ List.replicate z 0#8 ++ be8 (8 * p.length) = rest p k := by
  have e : zeros p.length = z := by unfold zeros; omega
  unfold rest pad
  rw [e, List.append_assoc, List.append_assoc, List.append_assoc p, List.append_assoc p, List.drop_append_of_le_length (by omega)]
  simp
theorem run_pad (p : List By) (k : Nat) (h : 64 * k ≤ p.length) : run K0 H0 p k = run K0 H0 (pad p) k := by
  unfold pad
  rw [List.append_assoc, List.append_assoc]; exact run_congr _ _ _ _ _ h
theorem rest_length (p : List By) (k : Nat) : (rest p k).length = (pad p).length - 64 * k := by unfold rest; simp
theorem rest_run (p : List By) (k j : Nat) : comp K0 (run K0 H0 (pad p) (k + j)) (((rest p k).drop (64 * j)).take 64) = run K0 H0 (pad p) (k + (j + 1)) := by
  unfold rest
  rw [List.drop_drop, show 64 * k + 64 * j = 64 * (k + j) by omega]; rfl
theorem _root_.Go.Blk.bytes {w : World} {g : Nat} {l : List By} (h : Blk w g 5 (l.map vb)) : BytesAt w g 0 l := fun k hk => by
  rw [Nat.zero_add, h.cell, List.getElem?_map, List.getElem?_eq_getElem hk]; rfl
end Go.Proofs.Ythocaimiofehkaa.Hs
