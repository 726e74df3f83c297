/- Rows of bytes and texts as lists, rows of a call's own, trees in memory. -/
import Derived.Test.YtlehgacbcacokaaChecked
import Derived.Test.YtlehgacbcacokaaG2
import Derived.Test.YtlehgacbcacokaaG1
import Derived.WalkKit
import Derived.WalkSpells
import Derived.WalkLawsBesides
import Derived.Lib.Hide
import Derived.Laws.AppendOwnNone
import Derived.Maps.AppendAt
import Derived.Laws.MakeOwn
import Derived.Laws.IdiomStrings
import Derived.Laws.ShiftsVar
import Derived.Laws.ShiftsVarLaws
import Derived.Deep.QuietTactic
import Derived.BigQuiet
import Derived.IntWalk
import Derived.Test.YtlehgacbcacokaaRows
import Derived.ProofKit
import Derived.OpenShut
import Derived.Deep.DeepHandedRow
import Derived.Lay
import Derived.Carry
import Derived.ChangeMaps5
import Derived.Deep.Slices
import Derived.Deep.Fields
import Derived.ChangeSame
import Derived.SliceStrings
namespace Go.Proofs.Ytlehgacbcacokaa
open Go.RowKit TreeMath

theorem ret_int {k : IntKind} {a b : Int} (h : a = b) : Ending.returned (.int k a) = .returned (.int k b) := by rw [h]
abbrev vb (x : By) : Value := .int .u8 (x.toNat : Int)
/-- bytes at a place -/
def BytesAt (w : World) (b o : Nat) (p : List By) : Prop := ∀ k (h : k < p.length), w.cell? ⟨b, o + k, none⟩ = some (vb p[k])
theorem BytesAt.getD {w : World} {b o : Nat} {p : List By} (h : BytesAt w b o p) (k : Nat) (hk : k < p.length) : w.cell? ⟨b, o + k, none⟩ = some (vb (p.getD k 0)) := by
  rw [h k hk, List.getD_eq_getElem?_getD, List.getElem?_eq_getElem hk]; rfl
theorem block_of_cell {W : World} {p : Addr} {v : Value} (h : W.cell? p = some v) : p.block < W.heap.size := World.block_lt_of_cell? W _ h
theorem BytesAt.lt {w : World} {b o : Nat} {p : List By} (h : BytesAt w b o p) (hk : 0 < p.length) : b < w.heap.size := block_of_cell (h 0 hk)
theorem BytesAt.below {B : Nat} {w w' : World} {b o : Nat} {p : List By} (h : BytesAt w b o p) (hb : Below B w w') (hB : b < B) : BytesAt w' b o p :=
  fun k hk => by rw [hb.cell (p := ⟨b, o + k, none⟩) hB]; exact h k hk
/-- a slice that reads as these bytes: nil, empty or not -/
def SrcIs (w : World) (A : Option Addr) (p : List By) : Prop := 0 < p.length → ∃ b o, A = some ⟨b, o, none⟩ ∧ BytesAt w b o p
theorem SrcIs.below {w w' : World} {A : Option Addr} {p : List By} (h : SrcIs w A p) (hb : Below w.heap.size w w') : SrcIs w' A p := fun h0 => by
  obtain ⟨b, o, rfl, hc⟩ := h h0
  exact ⟨b, o, rfl, hc.below hb (hc.lt h0)⟩
theorem BytesAt.drop {w : World} {b o : Nat} {p : List By} (h : BytesAt w b o p) (k : Nat) : BytesAt w b (o + k) (p.drop k) := fun j hj => by
  have := h (k + j) (by simp at hj; omega)
  rw [show o + k + j = o + (k + j) by omega, this]; simp
theorem BytesAt.take {w : World} {b o : Nat} {p : List By} (h : BytesAt w b o p) (k : Nat) : BytesAt w b o (p.take k) := fun j hj => by
  rw [h j (by simp at hj; omega)]; simp
theorem Blk.bytes {w : World} {g : Nat} {l : List By} {tl : List Value} (h : Blk w g 5 (l.map vb ++ tl)) : BytesAt w g 0 l := fun k hk => by
  rw [Nat.zero_add, h.cell, List.getElem?_append_left (by simpa using hk)]; simp [hk]
theorem bytes_src {w : World} {l : List By} {b o : Nat} (h : BytesAt w b o l) : SrcIs w (some ⟨b, o, none⟩) l := fun _ => ⟨b, o, rfl, h⟩
theorem BytesAt.src {w : World} {b o : Nat} {p : List By} (h : BytesAt w b o p) : ∀ j y, (p.map vb)[j]? = some y → w.cell? ((⟨b, o, none⟩ : Addr).add j) = some y := fun j y hj => by
  have hl : j < p.length := by have := (List.getElem?_eq_some_iff.1 hj).1; simpa using this
  rw [Addr.add_mid, h j hl, ← hj]; simp [hl]
theorem info5 : (Try.prog.info? 5).map (fun i => (i.zero, i.size, i.bytes)) = some (some (.int .u8 0), 1, 1) := by kernel_rfl
theorem info3 : (Try.prog.info? 3).map (fun i => (i.zero, i.size, i.bytes)) = some (some (.int .i64 0), 1, 8) := by kernel_rfl
theorem info9 : (Try.prog.info? 9).map (fun i => (i.zero, i.size, i.bytes)) = some (some (.string ⟨#[]⟩), 1, 16) := by kernel_rfl
theorem info_parts {P : Program} {e : TypeId} {z : Value} {s k : Nat} (h : (P.info? e).map (fun i => (i.zero, i.size, i.bytes)) = some (some z, s, k)) :
    ∃ i, P.info? e = some i ∧ i.zero = some z ∧ i.size = s ∧ i.bytes = k := by
  cases hi : P.info? e with
  | none => rw [hi] at h; cases h
  | some i => rw [hi] at h; simp at h; exact ⟨i, rfl, h.1, h.2.1, h.2.2⟩

/-- a row of the call's own, behind w -/
structure RowRel (w : World) (e : TypeId) (l : List Value) (v : Value) (wr : World) : Prop where
  below : Below w.heap.size w wr
  own : wr.ownsRow w.heap.size e 1 v l.length l
theorem RowRel.none (w : World) (e : TypeId) : RowRel w e [] (.slice none 0 0) w := ⟨Below.refl _ _, World.ownsRow_nil _ _ _ _⟩
theorem RowRel.drewN {w : World} {e : TypeId} {l : List Value} {v : Value} {wr : World} (r : RowRel w e l v wr) (n : Nat) : RowRel w e l v (wr.drewN n) := ⟨below_drewN r.below n, r.own⟩
theorem RowRel.drew {w : World} {e : TypeId} {l : List Value} {v : Value} {wr : World} (r : RowRel w e l v wr) : RowRel w e l v wr.drew := ⟨r.below.drew, r.own⟩
/-- where it lies -/
theorem RowRel.at {w : World} {e : TypeId} {l : List Value} {v : Value} {wr : World} (r : RowRel w e l v wr) (h0 : 0 < l.length) :
    ∃ g c, v = .slice (some ⟨g, 0, .none⟩) l.length c ∧ w.heap.size ≤ g ∧ g < wr.heap.size ∧ wr.rangeAt g 0 l ∧ l.length ≤ c := by
  rcases r.own.2 with ⟨_, h2⟩ | ⟨g, cap, cur, hv, hg, hc, hn, _, hs, ht⟩
  · omega
  · subst hv
    rw [Nat.mul_one] at ht
    have hb : Blk wr g e (l ++ cur.toList.drop l.length) := by
      unfold Blk
      have e1 : cur.toList.take l.length ++ cur.toList.drop l.length = cur.toList := List.take_append_drop _ _
      rw [ht] at e1
      rw [e1]
      exact hc
    refine ⟨g, cap, rfl, hg, hb.lt, fun j y hj => ?_, hn⟩
    rw [Nat.zero_add, hb.cell, List.getElem?_append_left (List.getElem?_eq_some_iff.1 hj).1]; exact hj
/-- WHAT IS APPENDED TO IT, out of a block that the statement has just laid -/
theorem wpList_push {w W0 : World} {t e : TypeId} {z : Value} {k : Nat} {l : List Value} {v : Value} {ops : Array Oper} {rest : List Oper} {o : Oper} {a : Act} {Q : Exit → Act → World → Prop}
    (ht : Try.prog.underlying t = some (.slice e)) (hinf : (Try.prog.info? e).map (fun i => (i.zero, i.size, i.bytes)) = some (some z, 1, k)) (hzs : z.cells.size = 1) (hk : k ≤ 16)
    (hgd : o.guard = .none) (s x : Operand) (ho : o.op = .call { callee := .builtin .append, args := #[s, x], argTypes := #[t, t] }) (r : RowRel w e l v W0) (hs : a.eval s = v)
    (ns : List Value) (m : Nat) (hm : ns.length = m) (hx : a.eval x = .slice (some ⟨W0.heap.size, 0, .none⟩) m m) (h1 : ns.all (·.oneCell') = true) (hl : l.length + m ≤ 1000000)
    (h : ∀ v' w', RowRel w e (l ++ ns) v' w' → wpList Try.prog ops Q rest (a.put o.dst v') w') : wpList Try.prog ops Q (o :: rest) a (W0.alloc (.cells ns.toArray e)) := by
  obtain ⟨i0, hi, hz0, hz1, hz2⟩ := info_parts hinf
  have hsz := r.below.size
  have hb : (l.length + m) * k ≤ 140737488355328 := Nat.le_trans (Nat.mul_le_mul hl hk) (by decide)
  refine wpList_append_own _ hgd s x t ho w.heap.size e i0 z 1 k ht hi hz0 hz1 hz2 hzs (by decide) v l.length l hs (r.own.alloc _) ⟨W0.heap.size, 0, .none⟩ m m ns hx (by omega) ?_ ?_ (by unfold maxLen; omega) hb (by simp; omega) ?_
  · intro j y hj
    rw [Addr.add_mid, Nat.zero_add, (Blk.new W0 e ns.toArray).cell]; exact hj
  · exact fun y hy => List.all_eq_true.1 h1 y hy
  · intro v' w' h2 h3 _
    refine h v' w' ⟨(r.below.alloc hsz _).grown h3 (by simp; omega) (fun g hg' => (r.own.lt g hg').1), ?_⟩
    rw [List.length_append, hm]; exact h2
theorem RowRel.alloc {w : World} {e : TypeId} {l : List Value} {v : Value} {wr : World} (r : RowRel w e l v wr) (o : Obj) : RowRel w e l v (wr.alloc o) := ⟨r.below.alloc r.below.size o, r.own.alloc o⟩
/-- a slice of bytes that a call has made, as a source -/
theorem own_src {w : World} {base : Nat} {v : Value} {n : Nat} {l : List By} (h : w.ownsRow base 5 1 v n (l.map vb)) (hl : l.length = n) :
    ∃ A c, v = .slice A l.length c ∧ SrcIs w A l ∧ (A = none → c = 0) ∧ l.length ≤ c ∧ ∀ a, A = some a → base ≤ a.block ∧ a.block < w.heap.size := by
  rcases h.2 with ⟨hv, h0⟩ | ⟨g, cap, cur, hv, hg, hc, hn, _, hs, ht⟩
  · have : l = [] := List.eq_nil_of_length_eq_zero (by omega)
    subst this
    exact ⟨none, 0, hv, fun h => absurd h (by simp), fun _ => rfl, by simp, fun a ha => by cases ha⟩
  · rw [Nat.mul_one] at ht
    have hb : Blk w g 5 (l.map vb ++ cur.toList.drop n) := by rw [← ht, List.take_append_drop]; exact hc
    refine ⟨some ⟨g, 0, none⟩, cap, by rw [hv, hl], fun _ => ⟨g, 0, rfl, Blk.bytes hb⟩, (fun h => by cases h), by omega, fun a ha => ?_⟩
    cases ha
    exact ⟨hg, hb.lt⟩
theorem RowRel.src {w wr : World} {v : Value} {l : List By} (h : RowRel w 5 (l.map vb) v wr) :
    ∃ A c, v = .slice A l.length c ∧ SrcIs wr A l ∧ (A = .none → c = 0) ∧ l.length ≤ c ∧ ∀ a, A = some a → w.heap.size ≤ a.block ∧ a.block < wr.heap.size :=
  own_src (n := l.length) (by simpa using h.own) rfl
/-- BYTES APPENDED TO A ROW OF THE CALL's OWN, wherever they come from: nil, empty or not -/
theorem wpList_append_src {w : World} {ops : Array Oper} {rest : List Oper} {o : Oper} {a : Act} {Q : Exit → Act → World → Prop} (hgd : o.guard = none) (s x : Operand)
    (ho : o.op = .call { callee := .builtin .append, args := #[s, x], argTypes := #[24, 24] }) (base : Nat)
    (v : Value) (n : Nat) (xs : List By) (hs : a.eval s = v) (hown : w.ownsRow base 5 1 v n (xs.map vb))
    (A : Option Addr) (c : Nat) (l : List By) (hx : a.eval x = .slice A l.length c) (hN : A = none → c = 0) (hA : SrcIs w A l) (hbd : n + l.length ≤ 1000000) (hbase : base ≤ w.heap.size)
    (h : ∀ v' w', w'.ownsRow base 5 1 v' (n + l.length) ((xs ++ l).map vb) → w.grownBy w' v.ownBlock → wpList Try.prog ops Q rest (a.put o.dst v') w') : wpList Try.prog ops Q (o :: rest) a w := by
  obtain ⟨i0, hi, hz0, hz1, hz2⟩ := info_parts info5
  cases A with
  | none =>
    have hl : l = [] := by
      cases l with
      | nil => rfl
      | cons y r => obtain ⟨b, o, he, _⟩ := hA (by simp); cases he
    subst hl
    obtain rfl := hN rfl
    exact wpList_append_own_none hgd s x 24 ho base 5 i0 1 Try.underlying24 hi v n (xs.map vb) hs hown hx (h v w (by simpa using hown) ⟨rfl, rfl, rfl, Nat.le_refl _, fun _ _ _ => rfl⟩)
  | some ad =>
    refine wpList_append_own w hgd s x 24 ho base 5 i0 (.int .u8 0) 1 1 Try.underlying24 hi hz0 hz1 hz2 rfl (by decide) v n (xs.map vb) hs hown ad l.length c (l.map vb) hx (by simp) ?_ ?_ (by unfold maxLen; omega) (by omega) hbase ?_
    · intro j y hj
      have h0 : 0 < l.length := by have := (List.getElem?_eq_some_iff.1 hj).1; simp at this; omega
      obtain ⟨b, o, he, hc⟩ := hA h0
      cases he
      exact hc.src j y hj
    · intro y hy; obtain ⟨z, _, rfl⟩ := List.mem_map.1 hy; rfl
    · intro v' w' h1 h2 _
      refine h v' w' ?_ h2
      rwa [List.map_append]

theorem run_store_float (P : Program) (w : World) (a : Addr) (m : Mode) (k : FloatKind) (x : Nat) : (store a (.float k x) m).run P w = stored P w a (.float k x) m := run_store P w a _ m rfl
theorem run_store_fn (P : Program) (w : World) (a : Addr) (m : Mode) (fn : Fn) (first captured : Array Value) : (store a (.func fn first captured) m).run P w = stored P w a (.func fn first captured) m := run_store P w a _ m rfl
attribute [go_sem] run_store_float run_store_fn
abbrev vs (s : List By) : Value := .string ⟨s.toArray⟩
/-- a slice of texts -/
def StrsIs (w : World) (A : Option Addr) (ls : List (List By)) : Prop := 0 < ls.length → ∃ b o, A = some ⟨b, o, none⟩ ∧ ∀ k (h : k < ls.length), w.cell? ⟨b, o + k, none⟩ = some (vs ls[k])
theorem StrsIs.below {w w' : World} {A : Option Addr} {ls : List (List By)} {B : Nat} (h : StrsIs w A ls) (hb : Below B w w') (hA : 0 < ls.length → ∀ a, A = some a → a.block < B) : StrsIs w' A ls := fun h0 => by
  obtain ⟨b, o, rfl, hc⟩ := h h0
  refine ⟨b, o, rfl, fun k hk => ?_⟩
  rw [World.cell?_of_block (w := w) (a := ⟨b, o + k, none⟩) (hb.block b (hA h0 _ rfl))]; exact hc k hk
theorem StrsIs.lt {w : World} {A : Option Addr} {ls : List (List By)} (h : StrsIs w A ls) : 0 < ls.length → ∀ a, A = some a → a.block < w.heap.size := fun h0 a ha => by
  obtain ⟨b, o, rfl, hc⟩ := h h0
  cases ha
  exact block_of_cell (hc 0 h0)
theorem SrcIs.belowB {w w' : World} {A : Option Addr} {p : List By} {B : Nat} (h : SrcIs w A p) (hb : Below B w w') (hA : 0 < p.length → ∀ a, A = some a → a.block < B) : SrcIs w' A p := fun h0 => by
  obtain ⟨b, o, rfl, hc⟩ := h h0
  exact ⟨b, o, rfl, hc.below hb (hA h0 _ rfl)⟩
theorem SrcIs.lt {w : World} {A : Option Addr} {p : List By} (h : SrcIs w A p) : 0 < p.length → ∀ a, A = some a → a.block < w.heap.size := fun h0 a ha => by
  obtain ⟨b, o, rfl, hc⟩ := h h0
  cases ha
  exact hc.lt h0
/-- the seven cells of a node -/
def cellsOf (x : Hd) (n : Nat) : List Value := [vb x.kind, .slice x.na x.names.length x.nc, .slice x.ka n x.kc, .slice x.da x.data.length x.dc, .bool x.run, .float .f64 x.stamp, vs x.target]
def cellsT : T → List Value | .mk x ks => cellsOf x ks.length
/-- a node by value -/
abbrev nv (x : Hd) (n : Nat) : Value := .agg #[vb x.kind, .slice x.na x.names.length x.nc, .slice x.ka n x.kc, .slice x.da x.data.length x.dc, .bool x.run, .float .f64 x.stamp, vs x.target]
def val : T → Value | .mk x ks => nv x ks.length
def CellsAt (w : World) (b o : Nat) (cs : List Value) : Prop := ∀ j v, cs[j]? = some v → w.cell? ⟨b, o + j, none⟩ = some v
theorem CellsAt.same {w w' : World} {b o : Nat} {cs : List Value} (h : CellsAt w b o cs) (hb : w'.heap[b]? = w.heap[b]?) : CellsAt w' b o cs := fun j v hv => by
  rw [World.cell?_of_block (w := w) (a := ⟨b, o + j, none⟩) hb]; exact h j v hv
structure HdOk (w : World) (top : Nat) (x : Hd) : Prop where
  nsrc : StrsIs w x.na x.names
  nlt : 0 < x.names.length → ∀ a, x.na = some a → a.block < top
  nnil : x.na = none → x.nc = 0
  ncap : x.names.length ≤ x.nc
  nlen : x.names.length ≤ maxLen
  neach : ∀ t ∈ x.names, t.length ≤ maxLen
  dsrc : SrcIs w x.da x.data
  dlt : 0 < x.data.length → ∀ a, x.da = some a → a.block < top
  dnil : x.da = none → x.dc = 0
  dcap : x.data.length ≤ x.dc
  dlen : x.data.length ≤ maxLen
  stamp : x.stamp < 18446744073709551616
  tlen : x.target.length ≤ maxLen
  knil : x.ka = none → x.kc = 0
def KidsAt (w : World) (top : Nat) (A : Option Addr) (ks : List T) : Prop := 0 < ks.length → ∃ b o, A = some ⟨b, o, none⟩ ∧ b < top ∧ ∀ i (h : i < ks.length), CellsAt w b (o + i * 7) (cellsT ks[i])
/-- a tree in memory, all of it below top -/
inductive Ok (w : World) (top : Nat) : T → Prop
  | mk (x : Hd) (ks : List T) (hx : HdOk w top x) (hl : ks.length ≤ maxLen) (hc : ks.length ≤ x.kc) (hk : KidsAt w top x.ka ks) (hks : ∀ k ∈ ks, Ok w top k) : Ok w top (.mk x ks)
section
variable {w w' : World} {top : Nat}
theorem HdOk.below {x : Hd} (h : HdOk w top x) (hb : Below top w w') : HdOk w' top x :=
  ⟨h.nsrc.below hb h.nlt, h.nlt, h.nnil, h.ncap, h.nlen, h.neach, h.dsrc.belowB hb h.dlt, h.dlt, h.dnil, h.dcap, h.dlen, h.stamp, h.tlen, h.knil⟩
theorem KidsAt.below {A : Option Addr} {ks : List T} (h : KidsAt w top A ks) (hb : Below top w w') : KidsAt w' top A ks := fun h0 => by
  obtain ⟨b, o, rfl, hlt, hc⟩ := h h0
  exact ⟨b, o, rfl, hlt, fun i hi => (hc i hi).same (hb.block b hlt)⟩
theorem Ok.keep {t : T} (h : Ok w top t) (hb : Below top w w') : Ok w' top t := by
  induction h with
  | mk x ks hx hl hc hk hks ih => exact .mk x ks (hx.below hb) hl hc (hk.below hb) ih
theorem HdOk.up {x : Hd} {top' : Nat} (h : HdOk w top x) (ht : top ≤ top') : HdOk w top' x :=
  ⟨h.nsrc, fun a b c => Nat.lt_of_lt_of_le (h.nlt a b c) ht, h.nnil, h.ncap, h.nlen, h.neach, h.dsrc, fun a b c => Nat.lt_of_lt_of_le (h.dlt a b c) ht, h.dnil, h.dcap, h.dlen, h.stamp, h.tlen, h.knil⟩
theorem Ok.up {t : T} {top' : Nat} (h : Ok w top t) (ht : top ≤ top') : Ok w top' t := by
  induction h with
  | mk x ks hx hl hc hk hks ih =>
    refine .mk x ks (hx.up ht) hl hc (fun h0 => ?_) ih
    obtain ⟨b, o, e, hlt, h⟩ := hk h0
    exact ⟨b, o, e, by omega, h⟩
theorem Ok.hd {x : Hd} {ks : List T} (h : Ok w top (.mk x ks)) : HdOk w top x := by cases h; assumption
theorem Ok.len {x : Hd} {ks : List T} (h : Ok w top (.mk x ks)) : ks.length ≤ maxLen := by cases h; assumption
theorem Ok.cap {x : Hd} {ks : List T} (h : Ok w top (.mk x ks)) : ks.length ≤ x.kc := by cases h; assumption
theorem Ok.at {x : Hd} {ks : List T} (h : Ok w top (.mk x ks)) : KidsAt w top x.ka ks := by cases h; assumption
theorem Ok.kid {x : Hd} {ks : List T} (h : Ok w top (.mk x ks)) {k : T} (hk : k ∈ ks) : Ok w top k := by cases h with | mk _ _ _ _ _ _ hks => exact hks k hk
end
/-- of what was there, only blocks in S may have turned; in S' is no other of them -/
structure Turned (S S' : Nat → Prop) (w w' : World) : Prop where
  os : w'.os = w.os
  tape : w'.tape = w.tape
  output : w'.output = w.output
  size : w.heap.size ≤ w'.heap.size
  other : ∀ c, c < w.heap.size → ¬ S c → w'.heap[c]? = w.heap[c]?
  own : ∀ c, S' c → S c ∨ w.heap.size ≤ c
theorem Turned.refl (S : Nat → Prop) (w : World) : Turned S S w w := ⟨rfl, rfl, rfl, Nat.le_refl _, fun _ _ _ => rfl, fun _ h => Or.inl h⟩
theorem Turned.trans {S S' S'' : Nat → Prop} {a b c : World} (h : Turned S S' a b) (k : Turned S' S'' b c) : Turned S S'' a c :=
  ⟨k.os.trans h.os, k.tape.trans h.tape, k.output.trans h.output, Nat.le_trans h.size k.size,
   fun i hi hn => (k.other i (Nat.lt_of_lt_of_le hi h.size) (fun h' => by rcases h.own i h' with e | e; exact hn e; omega)).trans (h.other i hi hn),
   fun i hi => by rcases k.own i hi with e | e; exact h.own i e; exact Or.inr (Nat.le_trans h.size e)⟩
theorem Turned.of_below {S : Nat → Prop} {w w' : World} (h : Below w.heap.size w w') : Turned S S w w' := ⟨h.os, h.tape, h.output, h.size, fun c hc _ => h.block c hc, fun _ h => Or.inl h⟩
theorem Turned.below {S S' : Nat → Prop} {w w' : World} {B : Nat} (h : Turned S S' w w') (hS : ∀ c, S c → B ≤ c) (hB : B ≤ w.heap.size) : Below B w w' :=
  ⟨h.os, h.tape, h.output, h.size, fun k hk => h.other k (by omega) (fun hs => by have := hS k hs; omega)⟩
theorem Turned.blk {S S' : Nat → Prop} {w w' : World} {b : Nat} {t : TypeId} {cs : List Value} (h : Turned S S' w w') (hb : Blk w b t cs) (hS : ¬ S b) : Blk w' b t cs := by
  unfold Blk; rw [h.other b hb.lt hS]; exact hb
end Go.Proofs.Ytlehgacbcacokaa

/- What all laws of this seat share: the last step of a row whose law answers true and leaves what was there; nodes that came in, opened. -/
namespace Go.Proofs.Ytlehgacbcacokaa
open Go.ChangeShapes Go.WideShapes Go.ChangeAt Go.RowKit Go.WideElems Go.ChangeMaps Go.Deep TreeMath

theorem own : ownKnob Try.prog.godebug = none := by kernel_rfl
theorem cells4 : Try.prog.cellsOf 4 = 1 := by kernel_rfl
theorem cells5 : Try.prog.cellsOf 5 = 1 := by kernel_rfl
theorem cells9 : Try.prog.cellsOf 9 = 1 := by kernel_rfl
theorem cells22 : Try.prog.cellsOf 22 = 1 := by kernel_rfl
theorem cells23 : Try.prog.cellsOf 23 = 1 := by kernel_rfl
theorem cells24 : Try.prog.cellsOf 24 = 1 := by kernel_rfl
theorem cells25 : Try.prog.cellsOf 25 = 1 := by kernel_rfl
theorem cells27 : Try.prog.cellsOf 27 = 7 := by kernel_rfl
theorem laidOut : laidOutB Try.prog = true := by kernel_rfl
theorem list_of {α : Type} {P : Nat → α → Prop} : ∀ (n : Nat), (∀ i, i < n → ∃ x, P i x) → ∃ l : List α, l.length = n ∧ ∀ i (h : i < l.length), P i l[i]
  | 0, _ => ⟨[], rfl, fun i h => absurd h (by simp)⟩
  | n + 1, key => by
    obtain ⟨l, hlen, hl⟩ := list_of n (fun i hin => key i (by omega))
    obtain ⟨x, hx⟩ := key n (by omega)
    refine ⟨l ++ [x], by simp [hlen], fun i h => ?_⟩
    by_cases e : i < l.length
    · rw [List.getElem_append_left e]; exact hl i e
    · have : i = l.length := by simp at h; omega
      subst this
      rw [List.getElem_concat_length rfl, hlen]; exact hx
section
variable {H : Type} {enc : TypeId × Value → H}

/-- THE LAST STEP OF A ROW: the law has answered true; what was read reads as it did. -/
theorem post_law {f : Func} {s : ChangeSpec} {W W' : World} {args : Array Value} {ds : List (DataW H)} {before : List MemPlace}
    (hW : DataW.Whole enc Try.prog f.params.toList s.vars false W args.toList ds [] before) (hv : s.vars = []) (ht : f.resultTypes = #[4])
    (hr : (s.fn H (ds ++ [])).results = [.lit (.bool true)]) (ha : (s.fn H (ds ++ [])).args = ds) (hg : (s.fn H (ds ++ [])).vars = [])
    (hargs : DataW.TrodAll enc Try.prog W' 0 (fun b => decide (b < W.heap.size)) true f.params.toList args.toList ds before)
    (hb : Below W.heap.size W W') : s.post enc Try.prog f false true false false W args (.bool true) W' := by
  refine ⟨ds, [], before, [], before, [], hW, ?_, ?_, ?_, ?_, fun h => by cases h⟩
  · rw [hr, ht]
    exact trodAll_cons_mk (shut_bool Try.underlying4 _) trodAll_mk0
  · rw [ha]; exact hargs
  · rw [hg, hv]; rfl
  · exact World.keptBut_mono (fun p hp => ⟨hp, Or.inr (Or.inl hp)⟩) (hb.frame (· ∈ before))

theorem byte_of {x : Int} (h : (Lit.int .u8 x).wf = true) : ∃ b : By, x = (b.toNat : Int) := by
  have := bounds_u8 h
  obtain ⟨m, rfl⟩ : ∃ m : Nat, x = m := ⟨x.toNat, by omega⟩
  exact ⟨UInt8.ofNat m, by rw [UInt8.toNat_ofNat_of_lt' (by show m < 256; omega)]⟩
theorem trod_floatK {P : Program} {w : World} {base : Nat} {spare : Nat → Bool} {held : Bool} {fuel : Nat} {t : TypeId} {cs : List Value} {x : DataW H × List MemPlace} {k : FloatKind} (ht : P.underlying t = some (.float k))
    (h : DataW.trod enc P w base spare held fuel t cs = some x) : ∃ n : Nat, cs = [.float k n] ∧ (Lit.float k n).wf = true := by
  cases fuel with
  | zero => simp [DataW.trod] at h
  | succ n =>
    unfold DataW.trod at h
    rw [ht] at h
    split at h <;> simp_all
theorem trod_float {P : Program} {w : World} {base : Nat} {spare : Nat → Bool} {held : Bool} {fuel : Nat} {t : TypeId} {cs : List Value} {x : DataW H × List MemPlace} (ht : P.underlying t = some (.float .f64))
    (h : DataW.trod enc P w base spare held fuel t cs = some x) : ∃ n : Nat, cs = [.float .f64 n] ∧ n < 18446744073709551616 := by
  obtain ⟨n, h1, h2⟩ := trod_floatK ht h
  refine ⟨n, h1, ?_⟩
  have := of_decide_eq_true (show decide (n < 2 ^ 64) = true from h2)
  omega
/-- bytes that came in -/
theorem open_bys {W : World} {fuel : Nat} {v : Value} {x : DataW H × List MemPlace} (h : DataW.trod enc Try.prog W 0 (fun _ => true) true fuel 24 [v] = some x) :
    ∃ (A : Option Addr) (cap : Nat) (bs : List By), v = .slice A bs.length cap ∧ bs.length ≤ maxLen ∧ bs.length ≤ cap ∧ (A = none → cap = 0) ∧ SrcIs W A bs := by
  rcases open_ints Try.underlying24 Try.underlying5 cells5 h with ⟨hcs, hx⟩ | ⟨a, n, cap, zs, hcs, _, hl, hm, hz, hx, hcell, hwz⟩
  · obtain rfl : v = .slice none 0 0 := by simpa using hcs
    exact ⟨none, 0, [], rfl, by unfold maxLen; simp, by simp, fun _ => rfl, fun h => absurd h (by simp)⟩
  · obtain rfl : v = .slice (some a) n cap := by simpa using hcs
    simp only [if_true] at hz
    have hlen : ((zs.take n).map (fun z => UInt8.ofNat z.toNat)).length = n := by simp; omega
    refine ⟨some a, cap, (zs.take n).map (fun z => UInt8.ofNat z.toNat), by rw [hlen], by omega, by omega, (fun h => by cases h), ?_⟩
    intro hpos
    have hp : 0 < zs.length := by rw [hlen] at hpos; omega
    obtain ⟨b, off, rfl, hc⟩ := ints_at hcell hp
    refine ⟨b, off, rfl, ?_⟩
    intro k hk
    have hk' : k < zs.length := by rw [hlen] at hk; omega
    rw [hc k hk']
    simp only [List.getElem_map, List.getElem_take, List.getD_eq_getElem?_getD, List.getElem?_eq_getElem hk', Option.getD_some]
    have := bounds_u8 (hwz zs[k] (List.getElem_mem hk'))
    obtain ⟨m, hm'⟩ : ∃ m : Nat, zs[k] = m := ⟨zs[k].toNat, by omega⟩
    rw [hm']
    show _ = some (Value.int .u8 ((UInt8.ofNat (Int.toNat (m : Int))).toNat : Int))
    rw [Int.toNat_natCast, UInt8.toNat_ofNat_of_lt' (by show m < 256; omega)]
/-- texts that came in -/
theorem open_strs {W : World} {fuel : Nat} {v : Value} {x : DataW H × List MemPlace} (h : DataW.trod enc Try.prog W 0 (fun _ => true) true fuel 22 [v] = some x) :
    ∃ (A : Option Addr) (c : Nat) (ls : List (List By)), v = .slice A ls.length c ∧ ls.length ≤ maxLen ∧ ls.length ≤ c ∧ (A = none → c = 0) ∧ StrsIs W A ls ∧ ∀ t ∈ ls, t.length ≤ maxLen := by
  rcases open_strings Try.underlying22 Try.underlying9 cells9 h with ⟨hcs, _⟩ | ⟨a, len, cap, ss, hcs, _, hl, hm, hz, _, hcell, hall⟩
  · obtain rfl : v = .slice none 0 0 := by simpa using hcs
    exact ⟨none, 0, [], rfl, by unfold maxLen; simp, by simp, fun _ => rfl, fun h => absurd h (by simp), by simp⟩
  · obtain rfl : v = .slice (some a) len cap := by simpa using hcs
    simp only [if_true] at hz
    have hlen : ((ss.take len).map fun s => s.data.toList).length = len := by simp; omega
    refine ⟨some a, cap, (ss.take len).map fun s => s.data.toList, by rw [hlen], by omega, by omega, (fun h => by cases h), ?_, ?_⟩
    · intro hpos
      rw [hlen] at hpos
      obtain ⟨b, off, spot⟩ := a
      have hspot : spot = none := by simpa [Addr.add] using World.cell?_spot (hcell 0 (by omega))
      subst hspot
      refine ⟨b, off, rfl, fun k hk => ?_⟩
      rw [hlen] at hk
      have hk' : k < ss.length := by omega
      rw [← Addr.add_mid, hcell k hk']
      simp only [List.getElem_map, List.getElem_take, List.getD_eq_getElem?_getD, List.getElem?_eq_getElem hk', Option.getD_some]
    · intro t ht
      obtain ⟨s, hs, rfl⟩ := List.mem_map.1 ht
      have := hall s (List.mem_of_mem_take hs)
      simpa using this
theorem ne_of_dropTake {cs : List Value} {k n : Nat} (h : cs.length = n) (hk : k < n) : (cs.drop k).take 1 = [cs[k]'(by omega)] := by
  rw [List.drop_eq_getElem_cons (by omega)]; rfl
set_option maxRecDepth 100000 in
/-- a node, to whatever depth -/
theorem open_cells {W : World} : ∀ (fuel : Nat) (cs : List Value) (x : DataW H × List MemPlace), DataW.trod enc Try.prog W 0 (fun _ => true) true fuel 27 cs = some x → ∃ t : T, cs = cellsT t ∧ Ok W W.heap.size t := by
  intro fuel
  induction fuel using Nat.strongRecOn with
  | _ fuel ih =>
  intro cs x h
  obtain ⟨xs, n, rfl, _, hcl, hxl, hg⟩ := DataW.trod_struct Try.underlying27 h
  rw [cells27] at hcl
  match cs, hcl with
  | [v0, v1, v2, v3, v4, v5, v6], _ =>
    have g0 : DataW.trod enc Try.prog W 0 (fun _ => true) true n 5 (([v0, v1, v2, v3, v4, v5, v6].drop 0).take (Try.prog.cellsOf 5)) = xs[0]? := hg 0 _ rfl
    have g1 : DataW.trod enc Try.prog W 0 (fun _ => true) true n 22 (([v0, v1, v2, v3, v4, v5, v6].drop 1).take (Try.prog.cellsOf 22)) = xs[1]? := hg 1 _ rfl
    have g2 : DataW.trod enc Try.prog W 0 (fun _ => true) true n 23 (([v0, v1, v2, v3, v4, v5, v6].drop 2).take (Try.prog.cellsOf 23)) = xs[2]? := hg 2 _ rfl
    have g3 : DataW.trod enc Try.prog W 0 (fun _ => true) true n 24 (([v0, v1, v2, v3, v4, v5, v6].drop 3).take (Try.prog.cellsOf 24)) = xs[3]? := hg 3 _ rfl
    have g4 : DataW.trod enc Try.prog W 0 (fun _ => true) true n 4 (([v0, v1, v2, v3, v4, v5, v6].drop 4).take (Try.prog.cellsOf 4)) = xs[4]? := hg 4 _ rfl
    have g5 : DataW.trod enc Try.prog W 0 (fun _ => true) true n 25 (([v0, v1, v2, v3, v4, v5, v6].drop 5).take (Try.prog.cellsOf 25)) = xs[5]? := hg 5 _ rfl
    have g6 : DataW.trod enc Try.prog W 0 (fun _ => true) true n 9 (([v0, v1, v2, v3, v4, v5, v6].drop 6).take (Try.prog.cellsOf 9)) = xs[6]? := hg 6 _ rfl
    rw [cells5] at g0
    rw [cells22] at g1
    rw [cells23] at g2
    rw [cells24] at g3
    rw [cells4] at g4
    rw [cells25] at g5
    rw [cells9] at g6
    have hx7 : xs.length = 7 := hxl
    replace g0 : DataW.trod enc Try.prog W 0 (fun _ => true) true n 5 [v0] = some (xs[0]'(by omega)) := by rw [List.getElem?_eq_getElem (by omega)] at g0; exact g0
    replace g1 : DataW.trod enc Try.prog W 0 (fun _ => true) true n 22 [v1] = some (xs[1]'(by omega)) := by rw [List.getElem?_eq_getElem (by omega)] at g1; exact g1
    replace g2 : DataW.trod enc Try.prog W 0 (fun _ => true) true n 23 [v2] = some (xs[2]'(by omega)) := by rw [List.getElem?_eq_getElem (by omega)] at g2; exact g2
    replace g3 : DataW.trod enc Try.prog W 0 (fun _ => true) true n 24 [v3] = some (xs[3]'(by omega)) := by rw [List.getElem?_eq_getElem (by omega)] at g3; exact g3
    replace g4 : DataW.trod enc Try.prog W 0 (fun _ => true) true n 4 [v4] = some (xs[4]'(by omega)) := by rw [List.getElem?_eq_getElem (by omega)] at g4; exact g4
    replace g5 : DataW.trod enc Try.prog W 0 (fun _ => true) true n 25 [v5] = some (xs[5]'(by omega)) := by rw [List.getElem?_eq_getElem (by omega)] at g5; exact g5
    replace g6 : DataW.trod enc Try.prog W 0 (fun _ => true) true n 9 [v6] = some (xs[6]'(by omega)) := by rw [List.getElem?_eq_getElem (by omega)] at g6; exact g6
    obtain ⟨n0, e0, _, w0⟩ := DataW.trod_int Try.underlying5 g0
    obtain ⟨kb, rfl⟩ := byte_of w0
    obtain rfl : v0 = vb kb := by simpa using e0
    obtain ⟨NA, nc, ls, rfl, hn1, hn2, hn3, hn4, hn5⟩ := open_strs g1
    obtain ⟨DA, dc, bs, rfl, hd1, hd2, hd3, hd4⟩ := open_bys g3
    obtain ⟨rb, e4, _⟩ := DataW.trod_bool Try.underlying4 g4
    obtain rfl : v4 = .bool rb := by simpa using e4
    obtain ⟨st, e5, hst⟩ := trod_float Try.underlying25 g5
    obtain rfl : v5 = .float .f64 st := by simpa using e5
    obtain ⟨s6, e6, _, hs6⟩ := DataW.trod_string Try.underlying9 g6
    obtain rfl : v6 = .string s6 := by simpa using e6
    have fin : ∀ (A : Option Addr) (kc : Nat) (ks : List T), v2 = .slice A ks.length kc → (A = none → kc = 0) → ks.length ≤ maxLen → ks.length ≤ kc → KidsAt W W.heap.size A ks → (∀ k ∈ ks, Ok W W.heap.size k) →
        ∃ t : T, [vb kb, .slice NA ls.length nc, v2, .slice DA bs.length dc, .bool rb, .float .f64 st, .string s6] = cellsT t ∧ Ok W W.heap.size t := fun A kc ks hv hA h1 h2 h3 h4 =>
      ⟨.mk ⟨kb, NA, nc, ls, A, kc, DA, dc, bs, rb, st, s6.data.toList⟩ ks, by rw [hv]; rfl,
        .mk _ _ ⟨hn4, hn4.lt, hn3, hn2, hn1, hn5, hd4, hd4.lt, hd3, hd2, hd1, hst, by simpa using hs6, hA⟩ h1 h2 h3 h4⟩
    rcases DataW.trod_slice Try.underlying23 g2 with ⟨h0, _⟩ | ⟨a, len, cap, elems, rest, m, hm, h0, _, _, hl, hcm, hlen, hel, -, -⟩
    · obtain rfl : v2 = .slice none 0 0 := by simpa using h0
      exact fin none 0 [] rfl (fun _ => rfl) (by simp) (by simp) (fun h => absurd h (by simp)) (fun k hk => by cases hk)
    · obtain rfl : v2 = .slice (some a) len cap := by simpa using h0
      rw [cells27] at hel
      have key : ∀ i, i < len → ∃ k : T, (∀ j u, (cellsT k)[j]? = some u → W.cell? ((a.add (i * 7)).add j) = some u) ∧ Ok W W.heap.size k := by
        intro i hi
        have he := hel i hi
        rw [List.getElem?_eq_getElem (by omega), Option.bind_eq_some_iff] at he
        obtain ⟨cs', hc', ht'⟩ := he
        obtain ⟨k, rfl, hok⟩ := ih m (by omega) cs' _ ht'
        obtain ⟨_, hcl', hat⟩ := World.cells?_some hc'
        refine ⟨k, fun j u hj => ?_, hok⟩
        have hj7 : j < 7 := by
          have := (List.getElem?_eq_some_iff.1 hj).1
          cases k; simpa [cellsT, cellsOf] using this
        rw [hat j hj7, hj]
      obtain ⟨ks, rfl, hks⟩ := list_of len key
      refine fin (some a) cap ks rfl (fun h => by cases h) (by omega) hl (fun hpos => ?_) (fun k hk => ?_)
      · obtain ⟨b, off, spot⟩ := a
        obtain ⟨y, ly, hky⟩ : ∃ y ly, ks[0] = T.mk y ly := by cases ks[0]; exact ⟨_, _, rfl⟩
        have c0 := (hks 0 hpos).1 0 (vb y.kind) (by rw [hky]; rfl)
        have hspot : spot = none := by simpa [Addr.add] using World.cell?_spot c0
        subst hspot
        refine ⟨b, off, rfl, ?_, fun i hi j u hj => ?_⟩
        · have := block_of_cell c0; simpa [Addr.add_mid] using this
        · have := (hks i hi).1 j u hj
          rwa [Addr.add_mid, Addr.add_mid] at this
      · obtain ⟨i, hi, rfl⟩ := List.getElem_of_mem hk
        exact (hks i hi).2
set_option maxRecDepth 100000 in
/-- a node that came in -/
theorem open_node {W : World} {base : Nat} {v : Value} {d : DataW H} {ps : List MemPlace} (hv : Value.okWide Try.prog W .any base 27 v) (h : DataW.Trod enc Try.prog W 0 (fun _ => true) true 27 v d ps) :
    ∃ (x : Hd) (ks : List T), v = nv x ks.length ∧ Ok W W.heap.size (.mk x ks) := by
  obtain ⟨cs, rfl, hsz⟩ := okWide_struct Try.underlying27 hv
  obtain ⟨fuel, hf⟩ := h
  obtain ⟨t, ht, hok⟩ := open_cells fuel _ _ hf
  obtain ⟨x, ks⟩ := t
  refine ⟨x, ks, ?_, hok⟩
  have : cs.toList = cellsT (.mk x ks) := ht
  obtain ⟨l⟩ := cs
  simp only at this
  rw [this]; rfl
end
end Go.Proofs.Ytlehgacbcacokaa
