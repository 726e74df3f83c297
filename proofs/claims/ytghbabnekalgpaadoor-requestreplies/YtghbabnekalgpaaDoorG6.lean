/- Replies out of bytes: what holds while one is read. -/
import Derived.Test.YtghbabnekalgpaaDoorG4
import Derived.Test.YtghbabnekalgpaaDoorQ9
namespace Go.Proofs.YtghbabnekalgpaaDoor
open Go.RowKit BaseMath WireMath RealMath ReqMath

theorem run_store_float (P : Program) (w : World) (a : Addr) (m : Mode) (k : FloatKind) (x : Nat) : (store a (.float k x) m).run P w = stored P w a (.float k x) m := run_store P w a _ m rfl
attribute [go_sem] run_store_float
def zeroRep : RepV := ⟨0, false, 0, 0, [], []⟩
/-- what bytes are, as a reply -/
def decRep (p : List By) : RepV × Int :=
  let r1 := after 1 ⟨p, false⟩
  let r2 := after 1 r1
  let r3 := after 2 r2
  let r4 := after 8 r3
  if 1 < numR 1 r1 ∨ ofE (numR 8 r3) ≠ 0 ∨ whole (textsA 255 (textA r4)) = false then (zeroRep, 2)
  else (⟨numR 1 ⟨p, false⟩, ((numR 1 r1 : Nat) : Int) == 1, numR 2 r2, ofV (numR 8 r3), textR r4, textsR 255 (textA r4)⟩, 0)
theorem ofV_lt (x : Nat) (hx : x < 18446744073709551616) : ofV x < 18446744073709551616 := by unfold ofV; split <;> omega
theorem ofE_cases (x : Nat) : ofE x = 0 ∨ ofE x = 2 := by unfold ofE; split <;> simp
abbrev ZR : List Value := [.int .i64 0, .bool false, .int .i64 0, .float .f64 0, ns, ns]
structure St (w : World) (T : TypeId) (top g q : Nat) (W : World) (r : Rd) (fs : List Value) : Prop where
  rd : RdIs W T top g r
  box : Blk W q 63 fs
  zero : Blk W w.heap.size 63 ZR
  below : Below w.heap.size w W
  gq : g < q
  dg : w.heap.size < g
theorem St.read {w : World} {T : TypeId} {top g q : Nat} {W W' : World} {r r' : Rd} {fs : List Value} (h : St w T top g q W r fs) (hr : RdIs W' T top g r') (ho : OnlyAt g W W') : St w T top g q W' r' fs :=
  ⟨hr, Blk.only h.box ho (by have := h.gq; omega), Blk.only h.zero ho (by have := h.dg; omega), h.below.trans (ho.below (by have := h.dg; omega) h.below.size), h.gq, h.dg⟩
theorem St.grow {w : World} {T : TypeId} {top g q : Nat} {W W' : World} {r : Rd} {fs : List Value} (h : St w T top g q W r fs) (hb : Below W.heap.size W W') : St w T top g q W' r fs :=
  ⟨h.rd.below hb h.rd.lt, h.box.below hb h.box.lt, h.zero.below hb h.zero.lt, h.below.trans (hb.mono h.below.size), h.gq, h.dg⟩
theorem St.store {w : World} {T : TypeId} {top g q : Nat} {W : World} {r : Rd} {fs : List Value} (h : St w T top g q W r fs) (i : Nat) (v : Value) : St w T top g q (W.setCell ⟨q, i, none⟩ v) r (fs.set i v) :=
  ⟨h.rd.only ((OnlyAt.refl q W).setCell i v) (by have := h.gq; omega) (by have := h.gq; have := h.rd.le; omega), h.box.set i v, h.zero.other (by have := h.gq; have := h.dg; simp only; omega) v, h.below.setCell (by have := h.gq; have := h.dg; simp only; omega) v, h.gq, h.dg⟩
theorem info63 : (Tryd.prog.info? 63).map (·.size) = some 6 := by kernel_rfl
def DecRPost (w : World) (x : RepV × Int) (e : Ending) (w' : World) : Prop := Below w.heap.size w w' ∧ ∃ v, e = .returned (.tuple #[v, .int .i64 x.2]) ∧ RepIs w' v x.1
theorem decr_zero {w w' : World} {x : RepV × Int} (hx : x = (zeroRep, 2)) (hb : Below w.heap.size w w') : DecRPost w x (.returned (.tuple #[.agg #[.int .i64 0, .bool false, .int .i64 0, .float .f64 0, ns, ns], .int .i64 2])) w' := by
  subst hx; exact ⟨hb, _, rfl, none, 0, none, 0, rfl, fun h => absurd h (by simp [zeroRep]), fun h => absurd h (by simp [zeroRep])⟩
theorem decr_ok {w w' : World} {x : RepV × Int} {e : Int} {b : Bool} {n : Int} {s : Nat} {sm : List By} {ps : List (List By)} {A R : Option Addr} {ca cr : Nat} (hx : x = (⟨e, b, n, s, sm, ps⟩, 0)) (hb : Below w.heap.size w w') (hA : SrcIs w' A sm) (hR : StrsIs w' R ps) :
    DecRPost w x (.returned (.tuple #[.agg #[.int .i64 e, .bool b, .int .i64 n, .float .f64 s, .slice A sm.length ca, .slice R ps.length cr], .int .i64 0])) w' := by
  subst hx; exact ⟨hb, _, rfl, A, ca, R, cr, rfl, hA, hR⟩
end Go.Proofs.YtghbabnekalgpaaDoor
