/- Rows of bytes as lists, rows of a call's own, what is appended to them; the contracts of the reference's Bytes and Join. -/
import Derived.Test.YtkmjknehbaofcaaChecked
import Derived.Test.YtkmjknehbaofcaaBMath
import Derived.Test.YtkmjknehbaofcaaBlk
import Derived.WalkKit
import Derived.WalkSpells
import Derived.WalkLawsBesides
import Derived.Lib.Hide
import Derived.Laws.AppendOwnNone
import Derived.Maps.AppendAt
import Derived.Laws.MakeOwn
import Derived.Laws.IdiomStrings
import Derived.Laws.ShiftsVar
import Derived.Laws.ShiftsVarLaws
import Derived.Deep.QuietTactic
import Derived.BigQuiet
import Derived.IntWalk
namespace Go.Proofs.Ytkmjknehbaofcaa
open Go.RowKit BaseMath

theorem ret_int {k : IntKind} {a b : Int} (h : a = b) : Ending.returned (.int k a) = .returned (.int k b) := by rw [h]
abbrev vb (x : By) : Value := .int .u8 (x.toNat : Int)
/-- bytes at a place -/
def BytesAt (w : World) (b o : Nat) (p : List By) : Prop := ∀ k (h : k < p.length), w.cell? ⟨b, o + k, none⟩ = some (vb p[k])
theorem BytesAt.getD {w : World} {b o : Nat} {p : List By} (h : BytesAt w b o p) (k : Nat) (hk : k < p.length) : w.cell? ⟨b, o + k, none⟩ = some (vb (p.getD k 0)) := by
  rw [h k hk, List.getD_eq_getElem?_getD, List.getElem?_eq_getElem hk]; rfl
theorem block_of_cell {W : World} {p : Addr} {v : Value} (h : W.cell? p = some v) : p.block < W.heap.size := World.block_lt_of_cell? W _ h
theorem BytesAt.lt {w : World} {b o : Nat} {p : List By} (h : BytesAt w b o p) (hk : 0 < p.length) : b < w.heap.size := block_of_cell (h 0 hk)
theorem BytesAt.below {B : Nat} {w w' : World} {b o : Nat} {p : List By} (h : BytesAt w b o p) (hb : Below B w w') (hB : b < B) : BytesAt w' b o p :=
  fun k hk => by rw [hb.cell (p := ⟨b, o + k, none⟩) hB]; exact h k hk
/-- a slice that reads as these bytes: nil, empty or not -/
def SrcIs (w : World) (A : Option Addr) (p : List By) : Prop := 0 < p.length → ∃ b o, A = some ⟨b, o, none⟩ ∧ BytesAt w b o p
theorem SrcIs.below {w w' : World} {A : Option Addr} {p : List By} (h : SrcIs w A p) (hb : Below w.heap.size w w') : SrcIs w' A p := fun h0 => by
  obtain ⟨b, o, rfl, hc⟩ := h h0
  exact ⟨b, o, rfl, hc.below hb (hc.lt h0)⟩
theorem BytesAt.drop {w : World} {b o : Nat} {p : List By} (h : BytesAt w b o p) (k : Nat) : BytesAt w b (o + k) (p.drop k) := fun j hj => by
  have := h (k + j) (by simp at hj; omega)
  rw [show o + k + j = o + (k + j) by omega, this]; simp
theorem BytesAt.take {w : World} {b o : Nat} {p : List By} (h : BytesAt w b o p) (k : Nat) : BytesAt w b o (p.take k) := fun j hj => by
  rw [h j (by simp at hj; omega)]; simp
theorem Blk.bytes {w : World} {g : Nat} {l : List By} {tl : List Value} (h : Blk w g 5 (l.map vb ++ tl)) : BytesAt w g 0 l := fun k hk => by
  rw [Nat.zero_add, h.cell, List.getElem?_append_left (by simpa using hk)]; simp [hk]
theorem bytes_src {w : World} {l : List By} {b o : Nat} (h : BytesAt w b o l) : SrcIs w (some ⟨b, o, none⟩) l := fun _ => ⟨b, o, rfl, h⟩
theorem BytesAt.src {w : World} {b o : Nat} {p : List By} (h : BytesAt w b o p) : ∀ j y, (p.map vb)[j]? = some y → w.cell? ((⟨b, o, none⟩ : Addr).add j) = some y := fun j y hj => by
  have hl : j < p.length := by have := (List.getElem?_eq_some_iff.1 hj).1; simpa using this
  rw [Addr.add_mid, h j hl, ← hj]; simp [hl]
theorem info5 : (Try.prog.info? 5).map (fun i => (i.zero, i.size, i.bytes)) = some (some (.int .u8 0), 1, 1) := by kernel_rfl
theorem info3 : (Try.prog.info? 3).map (fun i => (i.zero, i.size, i.bytes)) = some (some (.int .i64 0), 1, 8) := by kernel_rfl
theorem info9 : (Try.prog.info? 9).map (fun i => (i.zero, i.size, i.bytes)) = some (some (.string ⟨#[]⟩), 1, 16) := by kernel_rfl
theorem info_parts {P : Program} {e : TypeId} {z : Value} {s k : Nat} (h : (P.info? e).map (fun i => (i.zero, i.size, i.bytes)) = some (some z, s, k)) :
    ∃ i, P.info? e = some i ∧ i.zero = some z ∧ i.size = s ∧ i.bytes = k := by
  cases hi : P.info? e with
  | none => rw [hi] at h; cases h
  | some i => rw [hi] at h; simp at h; exact ⟨i, rfl, h.1, h.2.1, h.2.2⟩

/-- a row of the call's own, behind w -/
structure RowRel (w : World) (e : TypeId) (l : List Value) (v : Value) (wr : World) : Prop where
  below : Below w.heap.size w wr
  own : wr.ownsRow w.heap.size e 1 v l.length l
theorem RowRel.none (w : World) (e : TypeId) : RowRel w e [] (.slice none 0 0) w := ⟨Below.refl _ _, World.ownsRow_nil _ _ _ _⟩
theorem RowRel.drewN {w : World} {e : TypeId} {l : List Value} {v : Value} {wr : World} (r : RowRel w e l v wr) (n : Nat) : RowRel w e l v (wr.drewN n) := ⟨below_drewN r.below n, r.own⟩
theorem RowRel.drew {w : World} {e : TypeId} {l : List Value} {v : Value} {wr : World} (r : RowRel w e l v wr) : RowRel w e l v wr.drew := ⟨r.below.drew, r.own⟩
/-- where it lies -/
theorem RowRel.at {w : World} {e : TypeId} {l : List Value} {v : Value} {wr : World} (r : RowRel w e l v wr) (h0 : 0 < l.length) :
    ∃ g c, v = .slice (some ⟨g, 0, .none⟩) l.length c ∧ w.heap.size ≤ g ∧ g < wr.heap.size ∧ wr.rangeAt g 0 l ∧ l.length ≤ c := by
  rcases r.own.2 with ⟨_, h2⟩ | ⟨g, cap, cur, hv, hg, hc, hn, _, hs, ht⟩
  · omega
  · subst hv
    rw [Nat.mul_one] at ht
    have hb : Blk wr g e (l ++ cur.toList.drop l.length) := by
      unfold Blk
      have e1 : cur.toList.take l.length ++ cur.toList.drop l.length = cur.toList := List.take_append_drop _ _
      rw [ht] at e1
      rw [e1]
      exact hc
    refine ⟨g, cap, rfl, hg, hb.lt, fun j y hj => ?_, hn⟩
    rw [Nat.zero_add, hb.cell, List.getElem?_append_left (List.getElem?_eq_some_iff.1 hj).1]; exact hj
/-- WHAT IS APPENDED TO IT, out of a block that the statement has just laid -/
theorem wpList_push {w W0 : World} {t e : TypeId} {z : Value} {k : Nat} {l : List Value} {v : Value} {ops : Array Oper} {rest : List Oper} {o : Oper} {a : Act} {Q : Exit → Act → World → Prop}
    (ht : Try.prog.underlying t = some (.slice e)) (hinf : (Try.prog.info? e).map (fun i => (i.zero, i.size, i.bytes)) = some (some z, 1, k)) (hzs : z.cells.size = 1) (hk : k ≤ 16)
    (hgd : o.guard = .none) (s x : Operand) (ho : o.op = .call { callee := .builtin .append, args := #[s, x], argTypes := #[t, t] }) (r : RowRel w e l v W0) (hs : a.eval s = v)
    (ns : List Value) (m : Nat) (hm : ns.length = m) (hx : a.eval x = .slice (some ⟨W0.heap.size, 0, .none⟩) m m) (h1 : ns.all (·.oneCell') = true) (hl : l.length + m ≤ 1000000)
    (h : ∀ v' w', RowRel w e (l ++ ns) v' w' → wpList Try.prog ops Q rest (a.put o.dst v') w') : wpList Try.prog ops Q (o :: rest) a (W0.alloc (.cells ns.toArray e)) := by
  obtain ⟨i0, hi, hz0, hz1, hz2⟩ := info_parts hinf
  have hsz := r.below.size
  have hb : (l.length + m) * k ≤ 140737488355328 := Nat.le_trans (Nat.mul_le_mul hl hk) (by decide)
  refine wpList_append_own _ hgd s x t ho w.heap.size e i0 z 1 k ht hi hz0 hz1 hz2 hzs (by decide) v l.length l hs (r.own.alloc _) ⟨W0.heap.size, 0, .none⟩ m m ns hx (by omega) ?_ ?_ (by unfold maxLen; omega) hb (by simp; omega) ?_
  · intro j y hj
    rw [Addr.add_mid, Nat.zero_add, (Blk.new W0 e ns.toArray).cell]; exact hj
  · exact fun y hy => List.all_eq_true.1 h1 y hy
  · intro v' w' h2 h3 _
    refine h v' w' ⟨(r.below.alloc hsz _).grown h3 (by simp; omega) (fun g hg' => (r.own.lt g hg').1), ?_⟩
    rw [List.length_append, hm]; exact h2
theorem RowRel.alloc {w : World} {e : TypeId} {l : List Value} {v : Value} {wr : World} (r : RowRel w e l v wr) (o : Obj) : RowRel w e l v (wr.alloc o) := ⟨r.below.alloc r.below.size o, r.own.alloc o⟩
/-- a slice of bytes that a call has made, as a source -/
theorem own_src {w : World} {base : Nat} {v : Value} {n : Nat} {l : List By} (h : w.ownsRow base 5 1 v n (l.map vb)) (hl : l.length = n) :
    ∃ A c, v = .slice A l.length c ∧ SrcIs w A l ∧ (A = none → c = 0) ∧ l.length ≤ c ∧ ∀ a, A = some a → base ≤ a.block ∧ a.block < w.heap.size := by
  rcases h.2 with ⟨hv, h0⟩ | ⟨g, cap, cur, hv, hg, hc, hn, _, hs, ht⟩
  · have : l = [] := List.eq_nil_of_length_eq_zero (by omega)
    subst this
    exact ⟨none, 0, hv, fun h => absurd h (by simp), fun _ => rfl, by simp, fun a ha => by cases ha⟩
  · rw [Nat.mul_one] at ht
    have hb : Blk w g 5 (l.map vb ++ cur.toList.drop n) := by rw [← ht, List.take_append_drop]; exact hc
    refine ⟨some ⟨g, 0, none⟩, cap, by rw [hv, hl], fun _ => ⟨g, 0, rfl, Blk.bytes hb⟩, (fun h => by cases h), by omega, fun a ha => ?_⟩
    cases ha
    exact ⟨hg, hb.lt⟩
theorem RowRel.src {w wr : World} {v : Value} {l : List By} (h : RowRel w 5 (l.map vb) v wr) :
    ∃ A c, v = .slice A l.length c ∧ SrcIs wr A l ∧ (A = .none → c = 0) ∧ l.length ≤ c ∧ ∀ a, A = some a → w.heap.size ≤ a.block ∧ a.block < wr.heap.size :=
  own_src (n := l.length) (by simpa using h.own) rfl
/-- BYTES APPENDED TO A ROW OF THE CALL's OWN, wherever they come from: nil, empty or not -/
theorem wpList_append_src {w : World} {ops : Array Oper} {rest : List Oper} {o : Oper} {a : Act} {Q : Exit → Act → World → Prop} (hgd : o.guard = none) (s x : Operand)
    (ho : o.op = .call { callee := .builtin .append, args := #[s, x], argTypes := #[66, 66] }) (base : Nat)
    (v : Value) (n : Nat) (xs : List By) (hs : a.eval s = v) (hown : w.ownsRow base 5 1 v n (xs.map vb))
    (A : Option Addr) (c : Nat) (l : List By) (hx : a.eval x = .slice A l.length c) (hN : A = none → c = 0) (hA : SrcIs w A l) (hbd : n + l.length ≤ 1000000) (hbase : base ≤ w.heap.size)
    (h : ∀ v' w', w'.ownsRow base 5 1 v' (n + l.length) ((xs ++ l).map vb) → w.grownBy w' v.ownBlock → wpList Try.prog ops Q rest (a.put o.dst v') w') : wpList Try.prog ops Q (o :: rest) a w := by
  obtain ⟨i0, hi, hz0, hz1, hz2⟩ := info_parts info5
  cases A with
  | none =>
    have hl : l = [] := by
      cases l with
      | nil => rfl
      | cons y r => obtain ⟨b, o, he, _⟩ := hA (by simp); cases he
    subst hl
    obtain rfl := hN rfl
    exact wpList_append_own_none hgd s x 66 ho base 5 i0 1 Try.underlying66 hi v n (xs.map vb) hs hown hx (h v w (by simpa using hown) ⟨rfl, rfl, rfl, Nat.le_refl _, fun _ _ _ => rfl⟩)
  | some ad =>
    refine wpList_append_own w hgd s x 66 ho base 5 i0 (.int .u8 0) 1 1 Try.underlying66 hi hz0 hz1 hz2 rfl (by decide) v n (xs.map vb) hs hown ad l.length c (l.map vb) hx (by simp) ?_ ?_ (by unfold maxLen; omega) (by omega) hbase ?_
    · intro j y hj
      have h0 : 0 < l.length := by have := (List.getElem?_eq_some_iff.1 hj).1; simp at this; omega
      obtain ⟨b, o, he, hc⟩ := hA h0
      cases he
      exact hc.src j y hj
    · intro y hy; obtain ⟨z, _, rfl⟩ := List.mem_map.1 hy; rfl
    · intro v' w' h1 h2 _
      refine h v' w' ?_ h2
      rwa [List.map_append]
end Go.Proofs.Ytkmjknehbaofcaa
