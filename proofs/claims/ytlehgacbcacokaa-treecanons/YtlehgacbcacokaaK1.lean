/- Rows of bytes and texts as lists, rows of a call's own, trees in memory. -/
import Derived.Test.YtlehgacbcacokaaChecked
import Derived.Test.YtlehgacbcacokaaTMath
import Derived.Test.YtlehgacbcacokaaBlk
import Derived.WalkKit
import Derived.WalkSpells
import Derived.WalkLawsBesides
import Derived.Lib.Hide
import Derived.Laws.AppendOwnNone
import Derived.Maps.AppendAt
import Derived.Laws.MakeOwn
import Derived.Laws.IdiomStrings
import Derived.Laws.ShiftsVar
import Derived.Laws.ShiftsVarLaws
import Derived.Deep.QuietTactic
import Derived.BigQuiet
import Derived.IntWalk
namespace Go.Proofs.Ytlehgacbcacokaa
open Go.RowKit TreeMath

theorem ret_int {k : IntKind} {a b : Int} (h : a = b) : Ending.returned (.int k a) = .returned (.int k b) := by rw [h]
abbrev vb (x : By) : Value := .int .u8 (x.toNat : Int)
/-- bytes at a place -/
def BytesAt (w : World) (b o : Nat) (p : List By) : Prop := ∀ k (h : k < p.length), w.cell? ⟨b, o + k, none⟩ = some (vb p[k])
theorem BytesAt.getD {w : World} {b o : Nat} {p : List By} (h : BytesAt w b o p) (k : Nat) (hk : k < p.length) : w.cell? ⟨b, o + k, none⟩ = some (vb (p.getD k 0)) := by
  rw [h k hk, List.getD_eq_getElem?_getD, List.getElem?_eq_getElem hk]; rfl
theorem block_of_cell {W : World} {p : Addr} {v : Value} (h : W.cell? p = some v) : p.block < W.heap.size := World.block_lt_of_cell? W _ h
theorem BytesAt.lt {w : World} {b o : Nat} {p : List By} (h : BytesAt w b o p) (hk : 0 < p.length) : b < w.heap.size := block_of_cell (h 0 hk)
theorem BytesAt.below {B : Nat} {w w' : World} {b o : Nat} {p : List By} (h : BytesAt w b o p) (hb : Below B w w') (hB : b < B) : BytesAt w' b o p :=
  fun k hk => by rw [hb.cell (p := ⟨b, o + k, none⟩) hB]; exact h k hk
/-- a slice that reads as these bytes: nil, empty or not -/
def SrcIs (w : World) (A : Option Addr) (p : List By) : Prop := 0 < p.length → ∃ b o, A = some ⟨b, o, none⟩ ∧ BytesAt w b o p
theorem SrcIs.below {w w' : World} {A : Option Addr} {p : List By} (h : SrcIs w A p) (hb : Below w.heap.size w w') : SrcIs w' A p := fun h0 => by
  obtain ⟨b, o, rfl, hc⟩ := h h0
  exact ⟨b, o, rfl, hc.below hb (hc.lt h0)⟩
theorem BytesAt.drop {w : World} {b o : Nat} {p : List By} (h : BytesAt w b o p) (k : Nat) : BytesAt w b (o + k) (p.drop k) := fun j hj => by
  have := h (k + j) (by simp at hj; omega)
  rw [show o + k + j = o + (k + j) by omega, this]; simp
theorem BytesAt.take {w : World} {b o : Nat} {p : List By} (h : BytesAt w b o p) (k : Nat) : BytesAt w b o (p.take k) := fun j hj => by
  rw [h j (by simp at hj; omega)]; simp
theorem Blk.bytes {w : World} {g : Nat} {l : List By} {tl : List Value} (h : Blk w g 5 (l.map vb ++ tl)) : BytesAt w g 0 l := fun k hk => by
  rw [Nat.zero_add, h.cell, List.getElem?_append_left (by simpa using hk)]; simp [hk]
theorem bytes_src {w : World} {l : List By} {b o : Nat} (h : BytesAt w b o l) : SrcIs w (some ⟨b, o, none⟩) l := fun _ => ⟨b, o, rfl, h⟩
theorem BytesAt.src {w : World} {b o : Nat} {p : List By} (h : BytesAt w b o p) : ∀ j y, (p.map vb)[j]? = some y → w.cell? ((⟨b, o, none⟩ : Addr).add j) = some y := fun j y hj => by
  have hl : j < p.length := by have := (List.getElem?_eq_some_iff.1 hj).1; simpa using this
  rw [Addr.add_mid, h j hl, ← hj]; simp [hl]
theorem info5 : (Try.prog.info? 5).map (fun i => (i.zero, i.size, i.bytes)) = some (some (.int .u8 0), 1, 1) := by kernel_rfl
theorem info3 : (Try.prog.info? 3).map (fun i => (i.zero, i.size, i.bytes)) = some (some (.int .i64 0), 1, 8) := by kernel_rfl
theorem info9 : (Try.prog.info? 9).map (fun i => (i.zero, i.size, i.bytes)) = some (some (.string ⟨#[]⟩), 1, 16) := by kernel_rfl
theorem info_parts {P : Program} {e : TypeId} {z : Value} {s k : Nat} (h : (P.info? e).map (fun i => (i.zero, i.size, i.bytes)) = some (some z, s, k)) :
    ∃ i, P.info? e = some i ∧ i.zero = some z ∧ i.size = s ∧ i.bytes = k := by
  cases hi : P.info? e with
  | none => rw [hi] at h; cases h
  | some i => rw [hi] at h; simp at h; exact ⟨i, rfl, h.1, h.2.1, h.2.2⟩

/-- a row of the call's own, behind w -/
structure RowRel (w : World) (e : TypeId) (l : List Value) (v : Value) (wr : World) : Prop where
  below : Below w.heap.size w wr
  own : wr.ownsRow w.heap.size e 1 v l.length l
theorem RowRel.none (w : World) (e : TypeId) : RowRel w e [] (.slice none 0 0) w := ⟨Below.refl _ _, World.ownsRow_nil _ _ _ _⟩
theorem RowRel.drewN {w : World} {e : TypeId} {l : List Value} {v : Value} {wr : World} (r : RowRel w e l v wr) (n : Nat) : RowRel w e l v (wr.drewN n) := ⟨below_drewN r.below n, r.own⟩
theorem RowRel.drew {w : World} {e : TypeId} {l : List Value} {v : Value} {wr : World} (r : RowRel w e l v wr) : RowRel w e l v wr.drew := ⟨r.below.drew, r.own⟩
/-- where it lies -/
theorem RowRel.at {w : World} {e : TypeId} {l : List Value} {v : Value} {wr : World} (r : RowRel w e l v wr) (h0 : 0 < l.length) :
    ∃ g c, v = .slice (some ⟨g, 0, .none⟩) l.length c ∧ w.heap.size ≤ g ∧ g < wr.heap.size ∧ wr.rangeAt g 0 l ∧ l.length ≤ c := by
  rcases r.own.2 with ⟨_, h2⟩ | ⟨g, cap, cur, hv, hg, hc, hn, _, hs, ht⟩
  · omega
  · subst hv
    rw [Nat.mul_one] at ht
    have hb : Blk wr g e (l ++ cur.toList.drop l.length) := by
      unfold Blk
      have e1 : cur.toList.take l.length ++ cur.toList.drop l.length = cur.toList := List.take_append_drop _ _
      rw [ht] at e1
      rw [e1]
      exact hc
    refine ⟨g, cap, rfl, hg, hb.lt, fun j y hj => ?_, hn⟩
    rw [Nat.zero_add, hb.cell, List.getElem?_append_left (List.getElem?_eq_some_iff.1 hj).1]; exact hj
/-- WHAT IS APPENDED TO IT, out of a block that the statement has just laid -/
theorem wpList_push {w W0 : World} {t e : TypeId} {z : Value} {k : Nat} {l : List Value} {v : Value} {ops : Array Oper} {rest : List Oper} {o : Oper} {a : Act} {Q : Exit → Act → World → Prop}
    (ht : Try.prog.underlying t = some (.slice e)) (hinf : (Try.prog.info? e).map (fun i => (i.zero, i.size, i.bytes)) = some (some z, 1, k)) (hzs : z.cells.size = 1) (hk : k ≤ 16)
    (hgd : o.guard = .none) (s x : Operand) (ho : o.op = .call { callee := .builtin .append, args := #[s, x], argTypes := #[t, t] }) (r : RowRel w e l v W0) (hs : a.eval s = v)
    (ns : List Value) (m : Nat) (hm : ns.length = m) (hx : a.eval x = .slice (some ⟨W0.heap.size, 0, .none⟩) m m) (h1 : ns.all (·.oneCell') = true) (hl : l.length + m ≤ 1000000)
    (h : ∀ v' w', RowRel w e (l ++ ns) v' w' → wpList Try.prog ops Q rest (a.put o.dst v') w') : wpList Try.prog ops Q (o :: rest) a (W0.alloc (.cells ns.toArray e)) := by
  obtain ⟨i0, hi, hz0, hz1, hz2⟩ := info_parts hinf
  have hsz := r.below.size
  have hb : (l.length + m) * k ≤ 140737488355328 := Nat.le_trans (Nat.mul_le_mul hl hk) (by decide)
  refine wpList_append_own _ hgd s x t ho w.heap.size e i0 z 1 k ht hi hz0 hz1 hz2 hzs (by decide) v l.length l hs (r.own.alloc _) ⟨W0.heap.size, 0, .none⟩ m m ns hx (by omega) ?_ ?_ (by unfold maxLen; omega) hb (by simp; omega) ?_
  · intro j y hj
    rw [Addr.add_mid, Nat.zero_add, (Blk.new W0 e ns.toArray).cell]; exact hj
  · exact fun y hy => List.all_eq_true.1 h1 y hy
  · intro v' w' h2 h3 _
    refine h v' w' ⟨(r.below.alloc hsz _).grown h3 (by simp; omega) (fun g hg' => (r.own.lt g hg').1), ?_⟩
    rw [List.length_append, hm]; exact h2
theorem RowRel.alloc {w : World} {e : TypeId} {l : List Value} {v : Value} {wr : World} (r : RowRel w e l v wr) (o : Obj) : RowRel w e l v (wr.alloc o) := ⟨r.below.alloc r.below.size o, r.own.alloc o⟩
/-- a slice of bytes that a call has made, as a source -/
theorem own_src {w : World} {base : Nat} {v : Value} {n : Nat} {l : List By} (h : w.ownsRow base 5 1 v n (l.map vb)) (hl : l.length = n) :
    ∃ A c, v = .slice A l.length c ∧ SrcIs w A l ∧ (A = none → c = 0) ∧ l.length ≤ c ∧ ∀ a, A = some a → base ≤ a.block ∧ a.block < w.heap.size := by
  rcases h.2 with ⟨hv, h0⟩ | ⟨g, cap, cur, hv, hg, hc, hn, _, hs, ht⟩
  · have : l = [] := List.eq_nil_of_length_eq_zero (by omega)
    subst this
    exact ⟨none, 0, hv, fun h => absurd h (by simp), fun _ => rfl, by simp, fun a ha => by cases ha⟩
  · rw [Nat.mul_one] at ht
    have hb : Blk w g 5 (l.map vb ++ cur.toList.drop n) := by rw [← ht, List.take_append_drop]; exact hc
    refine ⟨some ⟨g, 0, none⟩, cap, by rw [hv, hl], fun _ => ⟨g, 0, rfl, Blk.bytes hb⟩, (fun h => by cases h), by omega, fun a ha => ?_⟩
    cases ha
    exact ⟨hg, hb.lt⟩
theorem RowRel.src {w wr : World} {v : Value} {l : List By} (h : RowRel w 5 (l.map vb) v wr) :
    ∃ A c, v = .slice A l.length c ∧ SrcIs wr A l ∧ (A = .none → c = 0) ∧ l.length ≤ c ∧ ∀ a, A = some a → w.heap.size ≤ a.block ∧ a.block < wr.heap.size :=
  own_src (n := l.length) (by simpa using h.own) rfl
/-- BYTES APPENDED TO A ROW OF THE CALL's OWN, wherever they come from: nil, empty or not -/
theorem wpList_append_src {w : World} {ops : Array Oper} {rest : List Oper} {o : Oper} {a : Act} {Q : Exit → Act → World → Prop} (hgd : o.guard = none) (s x : Operand)
    (ho : o.op = .call { callee := .builtin .append, args := #[s, x], argTypes := #[24, 24] }) (base : Nat)
    (v : Value) (n : Nat) (xs : List By) (hs : a.eval s = v) (hown : w.ownsRow base 5 1 v n (xs.map vb))
    (A : Option Addr) (c : Nat) (l : List By) (hx : a.eval x = .slice A l.length c) (hN : A = none → c = 0) (hA : SrcIs w A l) (hbd : n + l.length ≤ 1000000) (hbase : base ≤ w.heap.size)
    (h : ∀ v' w', w'.ownsRow base 5 1 v' (n + l.length) ((xs ++ l).map vb) → w.grownBy w' v.ownBlock → wpList Try.prog ops Q rest (a.put o.dst v') w') : wpList Try.prog ops Q (o :: rest) a w := by
  obtain ⟨i0, hi, hz0, hz1, hz2⟩ := info_parts info5
  cases A with
  | none =>
    have hl : l = [] := by
      cases l with
      | nil => rfl
      | cons y r => obtain ⟨b, o, he, _⟩ := hA (by simp); cases he
    subst hl
    obtain rfl := hN rfl
    exact wpList_append_own_none hgd s x 24 ho base 5 i0 1 Try.underlying24 hi v n (xs.map vb) hs hown hx (h v w (by simpa using hown) ⟨rfl, rfl, rfl, Nat.le_refl _, fun _ _ _ => rfl⟩)
  | some ad =>
    refine wpList_append_own w hgd s x 24 ho base 5 i0 (.int .u8 0) 1 1 Try.underlying24 hi hz0 hz1 hz2 rfl (by decide) v n (xs.map vb) hs hown ad l.length c (l.map vb) hx (by simp) ?_ ?_ (by unfold maxLen; omega) (by omega) hbase ?_
    · intro j y hj
      have h0 : 0 < l.length := by have := (List.getElem?_eq_some_iff.1 hj).1; simp at this; omega
      obtain ⟨b, o, he, hc⟩ := hA h0
      cases he
      exact hc.src j y hj
    · intro y hy; obtain ⟨z, _, rfl⟩ := List.mem_map.1 hy; rfl
    · intro v' w' h1 h2 _
      refine h v' w' ?_ h2
      rwa [List.map_append]

theorem run_store_float (P : Program) (w : World) (a : Addr) (m : Mode) (k : FloatKind) (x : Nat) : (store a (.float k x) m).run P w = stored P w a (.float k x) m := run_store P w a _ m rfl
theorem run_store_fn (P : Program) (w : World) (a : Addr) (m : Mode) (fn : Fn) (first captured : Array Value) : (store a (.func fn first captured) m).run P w = stored P w a (.func fn first captured) m := run_store P w a _ m rfl
attribute [go_sem] run_store_float run_store_fn
abbrev vs (s : List By) : Value := .string ⟨s.toArray⟩
/-- a slice of texts -/
def StrsIs (w : World) (A : Option Addr) (ls : List (List By)) : Prop := 0 < ls.length → ∃ b o, A = some ⟨b, o, none⟩ ∧ ∀ k (h : k < ls.length), w.cell? ⟨b, o + k, none⟩ = some (vs ls[k])
theorem StrsIs.below {w w' : World} {A : Option Addr} {ls : List (List By)} {B : Nat} (h : StrsIs w A ls) (hb : Below B w w') (hA : 0 < ls.length → ∀ a, A = some a → a.block < B) : StrsIs w' A ls := fun h0 => by
  obtain ⟨b, o, rfl, hc⟩ := h h0
  refine ⟨b, o, rfl, fun k hk => ?_⟩
  rw [World.cell?_of_block (w := w) (a := ⟨b, o + k, none⟩) (hb.block b (hA h0 _ rfl))]; exact hc k hk
theorem StrsIs.lt {w : World} {A : Option Addr} {ls : List (List By)} (h : StrsIs w A ls) : 0 < ls.length → ∀ a, A = some a → a.block < w.heap.size := fun h0 a ha => by
  obtain ⟨b, o, rfl, hc⟩ := h h0
  cases ha
  exact block_of_cell (hc 0 h0)
theorem SrcIs.belowB {w w' : World} {A : Option Addr} {p : List By} {B : Nat} (h : SrcIs w A p) (hb : Below B w w') (hA : 0 < p.length → ∀ a, A = some a → a.block < B) : SrcIs w' A p := fun h0 => by
  obtain ⟨b, o, rfl, hc⟩ := h h0
  exact ⟨b, o, rfl, hc.below hb (hA h0 _ rfl)⟩
theorem SrcIs.lt {w : World} {A : Option Addr} {p : List By} (h : SrcIs w A p) : 0 < p.length → ∀ a, A = some a → a.block < w.heap.size := fun h0 a ha => by
  obtain ⟨b, o, rfl, hc⟩ := h h0
  cases ha
  exact hc.lt h0
/-- the seven cells of a node -/
def cellsOf (x : Hd) (n : Nat) : List Value := [vb x.kind, .slice x.na x.names.length x.nc, .slice x.ka n x.kc, .slice x.da x.data.length x.dc, .bool x.run, .float .f64 x.stamp, vs x.target]
def cellsT : T → List Value | .mk x ks => cellsOf x ks.length
/-- a node by value -/
abbrev nv (x : Hd) (n : Nat) : Value := .agg #[vb x.kind, .slice x.na x.names.length x.nc, .slice x.ka n x.kc, .slice x.da x.data.length x.dc, .bool x.run, .float .f64 x.stamp, vs x.target]
def val : T → Value | .mk x ks => nv x ks.length
def CellsAt (w : World) (b o : Nat) (cs : List Value) : Prop := ∀ j v, cs[j]? = some v → w.cell? ⟨b, o + j, none⟩ = some v
theorem CellsAt.same {w w' : World} {b o : Nat} {cs : List Value} (h : CellsAt w b o cs) (hb : w'.heap[b]? = w.heap[b]?) : CellsAt w' b o cs := fun j v hv => by
  rw [World.cell?_of_block (w := w) (a := ⟨b, o + j, none⟩) hb]; exact h j v hv
structure HdOk (w : World) (top : Nat) (x : Hd) : Prop where
  nsrc : StrsIs w x.na x.names
  nlt : 0 < x.names.length → ∀ a, x.na = some a → a.block < top
  nnil : x.na = none → x.nc = 0
  ncap : x.names.length ≤ x.nc
  nlen : x.names.length ≤ maxLen
  neach : ∀ t ∈ x.names, t.length ≤ maxLen
  dsrc : SrcIs w x.da x.data
  dlt : 0 < x.data.length → ∀ a, x.da = some a → a.block < top
  dnil : x.da = none → x.dc = 0
  dcap : x.data.length ≤ x.dc
  dlen : x.data.length ≤ maxLen
  stamp : x.stamp < 18446744073709551616
  tlen : x.target.length ≤ maxLen
  knil : x.ka = none → x.kc = 0
def KidsAt (w : World) (top : Nat) (A : Option Addr) (ks : List T) : Prop := 0 < ks.length → ∃ b o, A = some ⟨b, o, none⟩ ∧ b < top ∧ ∀ i (h : i < ks.length), CellsAt w b (o + i * 7) (cellsT ks[i])
/-- a tree in memory, all of it below top -/
inductive Ok (w : World) (top : Nat) : T → Prop
  | mk (x : Hd) (ks : List T) (hx : HdOk w top x) (hl : ks.length ≤ maxLen) (hc : ks.length ≤ x.kc) (hk : KidsAt w top x.ka ks) (hks : ∀ k ∈ ks, Ok w top k) : Ok w top (.mk x ks)
section
variable {w w' : World} {top : Nat}
theorem HdOk.below {x : Hd} (h : HdOk w top x) (hb : Below top w w') : HdOk w' top x :=
  ⟨h.nsrc.below hb h.nlt, h.nlt, h.nnil, h.ncap, h.nlen, h.neach, h.dsrc.belowB hb h.dlt, h.dlt, h.dnil, h.dcap, h.dlen, h.stamp, h.tlen, h.knil⟩
theorem KidsAt.below {A : Option Addr} {ks : List T} (h : KidsAt w top A ks) (hb : Below top w w') : KidsAt w' top A ks := fun h0 => by
  obtain ⟨b, o, rfl, hlt, hc⟩ := h h0
  exact ⟨b, o, rfl, hlt, fun i hi => (hc i hi).same (hb.block b hlt)⟩
theorem Ok.keep {t : T} (h : Ok w top t) (hb : Below top w w') : Ok w' top t := by
  induction h with
  | mk x ks hx hl hc hk hks ih => exact .mk x ks (hx.below hb) hl hc (hk.below hb) ih
theorem HdOk.up {x : Hd} {top' : Nat} (h : HdOk w top x) (ht : top ≤ top') : HdOk w top' x :=
  ⟨h.nsrc, fun a b c => Nat.lt_of_lt_of_le (h.nlt a b c) ht, h.nnil, h.ncap, h.nlen, h.neach, h.dsrc, fun a b c => Nat.lt_of_lt_of_le (h.dlt a b c) ht, h.dnil, h.dcap, h.dlen, h.stamp, h.tlen, h.knil⟩
theorem Ok.up {t : T} {top' : Nat} (h : Ok w top t) (ht : top ≤ top') : Ok w top' t := by
  induction h with
  | mk x ks hx hl hc hk hks ih =>
    refine .mk x ks (hx.up ht) hl hc (fun h0 => ?_) ih
    obtain ⟨b, o, e, hlt, h⟩ := hk h0
    exact ⟨b, o, e, by omega, h⟩
theorem Ok.hd {x : Hd} {ks : List T} (h : Ok w top (.mk x ks)) : HdOk w top x := by cases h; assumption
theorem Ok.len {x : Hd} {ks : List T} (h : Ok w top (.mk x ks)) : ks.length ≤ maxLen := by cases h; assumption
theorem Ok.cap {x : Hd} {ks : List T} (h : Ok w top (.mk x ks)) : ks.length ≤ x.kc := by cases h; assumption
theorem Ok.at {x : Hd} {ks : List T} (h : Ok w top (.mk x ks)) : KidsAt w top x.ka ks := by cases h; assumption
theorem Ok.kid {x : Hd} {ks : List T} (h : Ok w top (.mk x ks)) {k : T} (hk : k ∈ ks) : Ok w top k := by cases h with | mk _ _ _ _ _ _ hks => exact hks k hk
end
/-- of what was there, only blocks in S may have turned; in S' is no other of them -/
structure Turned (S S' : Nat → Prop) (w w' : World) : Prop where
  os : w'.os = w.os
  tape : w'.tape = w.tape
  output : w'.output = w.output
  size : w.heap.size ≤ w'.heap.size
  other : ∀ c, c < w.heap.size → ¬ S c → w'.heap[c]? = w.heap[c]?
  own : ∀ c, S' c → S c ∨ w.heap.size ≤ c
theorem Turned.refl (S : Nat → Prop) (w : World) : Turned S S w w := ⟨rfl, rfl, rfl, Nat.le_refl _, fun _ _ _ => rfl, fun _ h => Or.inl h⟩
theorem Turned.trans {S S' S'' : Nat → Prop} {a b c : World} (h : Turned S S' a b) (k : Turned S' S'' b c) : Turned S S'' a c :=
  ⟨k.os.trans h.os, k.tape.trans h.tape, k.output.trans h.output, Nat.le_trans h.size k.size,
   fun i hi hn => (k.other i (Nat.lt_of_lt_of_le hi h.size) (fun h' => by rcases h.own i h' with e | e; exact hn e; omega)).trans (h.other i hi hn),
   fun i hi => by rcases k.own i hi with e | e; exact h.own i e; exact Or.inr (Nat.le_trans h.size e)⟩
theorem Turned.of_below {S : Nat → Prop} {w w' : World} (h : Below w.heap.size w w') : Turned S S w w' := ⟨h.os, h.tape, h.output, h.size, fun c hc _ => h.block c hc, fun _ h => Or.inl h⟩
theorem Turned.below {S S' : Nat → Prop} {w w' : World} {B : Nat} (h : Turned S S' w w') (hS : ∀ c, S c → B ≤ c) (hB : B ≤ w.heap.size) : Below B w w' :=
  ⟨h.os, h.tape, h.output, h.size, fun k hk => h.other k (by omega) (fun hs => by have := hS k hs; omega)⟩
theorem Turned.blk {S S' : Nat → Prop} {w w' : World} {b : Nat} {t : TypeId} {cs : List Value} (h : Turned S S' w w') (hb : Blk w b t cs) (hS : ¬ S b) : Blk w' b t cs := by
  unfold Blk; rw [h.other b hb.lt hS]; exact hb
end Go.Proofs.Ytlehgacbcacokaa
