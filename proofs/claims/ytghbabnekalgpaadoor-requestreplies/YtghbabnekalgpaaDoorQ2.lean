/- Requests in memory; the contracts of layItem and layOuts. -/
import Derived.Test.YtghbabnekalgpaaDoorQ1
import Derived.Test.YtghbabnekalgpaaDoorW14
import Derived.Deep.RegionHeld3
import Derived.Deep.CutBlock
namespace Go.Proofs.YtghbabnekalgpaaDoor
open Go.RowKit BaseMath WireMath ReqMath

def NeedsAt (w : World) (A : Option Addr) (l : List Int) : Prop := 0 < l.length → ∃ b o, A = some ⟨b, o, none⟩ ∧ ∀ i (h : i < l.length), w.cell? ⟨b, o + i, none⟩ = some (.int .i64 l[i])
theorem NeedsAt.lt {w : World} {A : Option Addr} {l : List Int} (h : NeedsAt w A l) (h0 : 0 < l.length) (a : Addr) (ha : A = some a) : a.block < w.heap.size := by
  obtain ⟨b, o, rfl, hc⟩ := h h0
  cases ha
  exact block_of_cell (hc 0 h0)
theorem NeedsAt.below {w w' : World} {A : Option Addr} {l : List Int} (h : NeedsAt w A l) (hb : Below w.heap.size w w') : NeedsAt w' A l := fun h0 => by
  obtain ⟨b, o, rfl, hc⟩ := h h0
  have hl : b < w.heap.size := block_of_cell (hc 0 h0)
  refine ⟨b, o, rfl, fun i hi => ?_⟩
  rw [hb.cell (p := ⟨b, o + i, none⟩) hl]; exact hc i hi
theorem StrsIs.belowS {w w' : World} {A : Option Addr} {ls : List (List By)} (h : StrsIs w A ls) (hb : Below w.heap.size w w') : StrsIs w' A ls := h.below hb (fun h0 a ha => h.lt h0 a ha)
/-- one Out, by its four slots -/
def OutV4 (w : World) (x : OutV) (A R M : Option Addr) : Prop :=
  SrcIs w A x.arch ∧ StrsIs w R x.refs ∧ NeedsAt w M x.needs
theorem OutV4.below {w w' : World} {x : OutV} {A R M : Option Addr} (h : OutV4 w x A R M) (hb : Below w.heap.size w w') : OutV4 w' x A R M := ⟨h.1.below hb, h.2.1.belowS hb, h.2.2.below hb⟩
def OutCells (w : World) (b o : Nat) (x : OutV) : Prop := ∃ A ca R cr M cm, w.cell? ⟨b, o, none⟩ = some (vs x.name) ∧ w.cell? ⟨b, o + 1, none⟩ = some (.slice A x.arch.length ca) ∧ w.cell? ⟨b, o + 2, none⟩ = some (.slice R x.refs.length cr) ∧
  w.cell? ⟨b, o + 3, none⟩ = some (.slice M x.needs.length cm) ∧ OutV4 w x A R M
theorem OutCells.below {w w' : World} {b o : Nat} {x : OutV} (h : OutCells w b o x) (hb : Below w.heap.size w w') : OutCells w' b o x := by
  obtain ⟨A, ca, R, cr, M, cm, h0, h1, h2, h3, h4⟩ := h
  have hl : b < w.heap.size := block_of_cell h0
  have hh : ∀ q, w'.cell? ⟨b, q, none⟩ = w.cell? ⟨b, q, none⟩ := fun q => hb.cell (p := ⟨b, q, none⟩) hl
  exact ⟨A, ca, R, cr, M, cm, by rw [hh]; exact h0, by rw [hh]; exact h1, by rw [hh]; exact h2, by rw [hh]; exact h3, h4.below hb⟩
def OutsAt (w : World) (O : Option Addr) (l : List OutV) : Prop := 0 < l.length → ∃ b o, O = some ⟨b, o, none⟩ ∧ ∀ i (h : i < l.length), OutCells w b (o + i * 4) l[i]
theorem OutsAt.below {w w' : World} {O : Option Addr} {l : List OutV} (h : OutsAt w O l) (hb : Below w.heap.size w w') : OutsAt w' O l := fun h0 => by
  obtain ⟨b, o, rfl, hc⟩ := h h0
  exact ⟨b, o, rfl, fun i hi => (hc i hi).below hb⟩
theorem OutsAt.nil (w : World) (O : Option Addr) : OutsAt w O [] := fun h => absurd h (by simp)
theorem StrsIs.nil (w : World) (O : Option Addr) : StrsIs w O [] := fun h => absurd h (by simp)
theorem SrcIs.nil (w : World) (O : Option Addr) : SrcIs w O [] := fun h => absurd h (by simp)
theorem NeedsAt.nil (w : World) (O : Option Addr) : NeedsAt w O [] := fun h => absurd h (by simp)
/-- a request as a value, with what it points at -/
def ReqIs (w : World) (v : Value) (r : ReqV) : Prop := ∃ A ca R cr O co, v = .agg #[vb r.kind, vs r.name, vs r.path, .slice A r.arch.length ca, .slice R r.refs.length cr, .slice O r.outs.length co] ∧ SrcIs w A r.arch ∧ StrsIs w R r.refs ∧ OutsAt w O r.outs
theorem ReqIs.below {w w' : World} {v : Value} {r : ReqV} (h : ReqIs w v r) (hb : Below w.heap.size w w') : ReqIs w' v r := by
  obtain ⟨A, ca, R, cr, O, co, he, h1, h2, h3⟩ := h
  exact ⟨A, ca, R, cr, O, co, he, h1.below hb, h2.belowS hb, h3.below hb⟩

def LayPost (w : World) (base g : Nat) (v : Value) (l : List By) (e : Ending) (w' : World) : Prop := e = .returned (.tuple #[]) ∧ ∃ v', WrIs w' base g v' l ∧ WrStep g v v' w w'
theorem WrIs.glt {w : World} {base g : Nat} {v : Value} {l : List By} (h : WrIs w base g v l) : g < w.heap.size := h.blk.lt
theorem WrIs.base_lt {w : World} {base g : Nat} {v : Value} {l : List By} (h : WrIs w base g v l) : base ≤ w.heap.size := by have := h.lo; have := h.glt; omega
theorem textB_length (s : List By) : (textB s).length = 2 + s.length := by unfold textB; rw [List.length_append, numB_length]
theorem itemB_length (n a : List By) (rs : List (List By)) : (itemB n a rs).length = (2 + n.length) + (2 + a.length) + (1 + (rs.flatMap textB).length) := by
  unfold itemB textsB; simp only [List.length_append, textB_length, List.length_cons, List.length_nil]
set_option maxHeartbeats 2000000 in
set_option maxRecDepth 100000 in
theorem layitem_any (w0 : World) (base g : Nat) (v : Value) (l n a : List By) (rs : List (List By)) (A : Option Addr) (ca : Nat) (R : Option Addr) (cr : Nat) (hrs : rs.length ≤ 255) (hbd : l.length + (itemB n a rs).length ≤ 1000000) (w : World)
    (h : WrIs w base g v l) (hA : SrcIs w0 A a) (hR : StrsIs w0 R rs) (hb0 : Below w0.heap.size w0 w) (hw0 : w0.heap.size ≤ base) :
    Calls Tryd.prog 42 #[.pointer (some ⟨g, 0, none⟩), vs n, .slice A a.length ca, .slice R rs.length cr] w (LayPost w base g v (l ++ itemB n a rs)) := by
  rw [itemB_length] at hbd
  have H := Lib.hid h
  have HCV : Hid (∀ W, Below base w W → (convert 37 9 (.slice A a.length ca)).run Tryd.prog W = .ok (vs a) W) := fun W hW => run_text_src (hA.below (hb0.trans (hW.mono hw0)))
  have HR := Lib.hid hR
  have HRS : Hid (∀ W, Below base w W → StrsIs W R rs) := fun W hW => HR.out.belowS (hb0.trans (hW.mono hw0))
  have HRL : Hid (0 < rs.length → ∀ x, R = some x → x.block < base) := fun h0 x hx => Nat.lt_of_lt_of_le (HR.out.lt h0 x hx) hw0
  have hbs := h.base_lt
  clear hA hR hb0 hw0 h
  have H0 : Hid (WrIs w.drew base g v l) := H.out.below (Below.refl _ _).drew
  have HD : Hid (Below base w w.drew) := (Below.refl _ _).drew
  have k0 := HCV.out w.drew HD.out
  go_enter Tryd.func42, Tryd.ntmps42
  go_upto_region 0 with fail
  go_region_held3 (fun W => (convert 37 9 (.slice A a.length ca)).run Tryd.prog W = .ok (vs a) W)
    (first | with_reducible exact k0 | with_reducible exact k1 | with_reducible exact k2 | with_reducible exact k3)
    (first
      | (go_at_call 41
         with_reducible refine (wtext_any base g v l n ?hh w.drew H0.out).mono ?_
         case hh => omega
         rintro e w2 ⟨rfl, v2, h1, h2⟩
         have HB2 : Hid (Below base w w2) := HD.out.trans (h2.below H0.out hbs)
         have H2 := Lib.hid h1
         have HS2 : Hid (WrStep g v v2 w w2) := (WrStep.of_below (Below.refl _ _).drew).trans h2
         have k1 := HCV.out w2 HB2.out
         clear h1 h2)
      | (go_at_call 41
         with_reducible refine (wtext_any base g v2 (l ++ textB n) a ?hh w2 H2.out).mono ?_
         case hh => simp only [List.length_append, textB_length]; omega
         rintro e w3 ⟨rfl, v3, h1, h2⟩
         have HB3 : Hid (Below base w w3) := HB2.out.trans (h2.below H2.out H2.out.base_lt)
         have H3 := Lib.hid h1
         have HS3 : Hid (WrStep g v v3 w w3) := HS2.out.trans h2
         have k2 := HCV.out w3 HB3.out
         clear h1 h2)
      | (go_at_call 61
         refine (wtexts_any base g v3 (l ++ textB n ++ textB a) R cr rs hrs ?hh w3 H3.out (HRS.out w3 HB3.out) HRL.out).mono ?_
         case hh => simp only [List.length_append, textB_length]; omega
         rintro e w4 ⟨rfl, v4, h1, h2⟩
         have H4 := Lib.hid h1
         have HS4 : Hid (WrStep g v v4 w w4) := HS3.out.trans h2
         have k3 := HCV.out w4 (HB3.out.trans (h2.below H3.out H3.out.base_lt))
         clear h1 h2)
      | fail)
  all_goals
    go_wp2_with fail
    refine bodyPost_end (v := .tuple #[]) (by simp [results, Tryd.results42]) rfl ⟨rfl, v4, ?_, HS4.out⟩
    unfold itemB
    rw [← List.append_assoc, ← List.append_assoc]
    exact H4.out
end Go.Proofs.YtghbabnekalgpaaDoor
