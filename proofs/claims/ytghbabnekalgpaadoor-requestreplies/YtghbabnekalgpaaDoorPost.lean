/- What all laws of this seat share: the last step of a row whose law answers true and leaves what was there; the table of kinds out of the row's list; bytes and texts that came in, opened. -/
import Derived.Test.YtghbabnekalgpaaDoorCards
import Derived.Test.YtghbabnekalgpaaDoorTie
import Derived.Test.YtghbabnekalgpaaDoorQ1
import Derived.ProofKit
import Derived.OpenShut
import Derived.Deep.DeepHandedRow
import Derived.Deep.Strs
import Derived.Lay
import Derived.Carry
import Derived.Lib.LaidTab
import Derived.LaidSub
import Derived.ChangeMaps5
namespace Go.Proofs.YtghbabnekalgpaaDoor
open Go.ChangeShapes Go.WideShapes Go.ChangeAt Go.RowKit Go.WideElems Go.ChangeMaps BaseMath WireMath ReqMath

set_option maxRecDepth 100000 in
theorem own : ownKnob Tryd.prog.godebug = none := by kernel_rfl
set_option maxRecDepth 100000 in
theorem cells5 : Tryd.prog.cellsOf 5 = 1 := by kernel_rfl
set_option maxRecDepth 100000 in
theorem laidOut : laidOutB Tryd.prog = true := by kernel_rfl
set_option maxRecDepth 100000 in
theorem gKinds : Tryd.prog.globalNamed "godown/request.kinds" = some 1 := by kernel_rfl
set_option maxRecDepth 100000 in
theorem gKindsType : (Tryd.prog.globals[1]?).map (·.type) = some 138 := by kernel_rfl
set_option maxRecDepth 100000 in
theorem cells138 : Tryd.prog.cellsOf 138 = 26 := by kernel_rfl
set_option maxRecDepth 100000 in
theorem cells92 : Tryd.prog.cellsOf 92 = 2 := by kernel_rfl
set_option maxRecDepth 100000 in
theorem cells9 : Tryd.prog.cellsOf 9 = 1 := by kernel_rfl
set_option maxRecDepth 100000 in
theorem cells90 : Tryd.prog.cellsOf 90 = 1 := by kernel_rfl

/-- the row's list, as all rows of this seat have it -/
def theLaid : List (String × DataW Unit) := Rows.requestKindsRow.laid
def lineK (k : Nat) : DataW Unit := .agg [.lit (.string (nameK k)), .lit (.int .i64 (hasK k : Nat))]
set_option maxRecDepth 100000 in
theorem laid_is : (Rows.laid_godown_request_kinds : DataW Unit) = .agg ((List.range 13).map lineK) := by rfl
set_option maxRecDepth 100000 in
theorem ktab_of {W : World} (h : laidMetH Tryd.prog theLaid W) : KTab W := by
  have h1 : laidMet Tryd.prog [("godown/request.kinds", Rows.laid_godown_request_kinds)] W := h
  obtain ⟨ps, ⟨g', t', cs, fuel, p, q, hg', ht', hvar, hd, _, _⟩, _⟩ := h1
  obtain rfl := Option.some.inj (gKinds.symm.trans hg')
  obtain rfl := Option.some.inj (gKindsType.symm.trans ht')
  obtain ⟨xs, m, rfl, hx, hl, hxl, hf⟩ := DataW.trod_array Tryd.underlying138 hd
  have hx1 : DataW.agg ((List.range 13).map lineK) = .agg (xs.map (·.1)) := by rw [← laid_is]; exact congrArg Prod.fst hx
  have hx2 : (List.range 13).map lineK = xs.map (·.1) := by injection hx1
  intro k hk
  have hfk := hf k hk
  have hxk : (xs.map (·.1))[k]? = some (lineK k) := by rw [← hx2]; simp [hk]
  obtain ⟨y, hy, hy1⟩ : ∃ y, xs[k]? = some y ∧ y.1 = lineK k := by
    rw [List.getElem?_map] at hxk
    exact Option.map_eq_some_iff.1 hxk
  rw [hy, cells92] at hfk
  obtain ⟨y0, y1, n, rfl, hlen, f0, f1⟩ := trod_struct2 Tryd.underlying92 hfk
  obtain ⟨s, hs, hs2, -⟩ := DataW.trod_string Tryd.underlying9 f0
  obtain ⟨z, hz, hz2, -⟩ := DataW.trod_int Tryd.underlying90 f1
  simp only [hs2, hz2, lineK] at hy1
  injection hy1 with hy1
  simp only [List.cons.injEq, DataW.lit.injEq, Lit.string.injEq, Lit.int.injEq, true_and, and_true] at hy1
  obtain ⟨e1, e2⟩ := hy1
  have c0 := World.var?_cell gKinds hvar (k * 2)
  have c1 := World.var?_cell gKinds hvar (k * 2 + 1)
  simp only [cells9, cells90] at hs hz
  have g0 : cs.toList[k * 2]? = some (.string s) := by
    have := congrArg (·[0]?) hs
    simpa [List.getElem?_take, List.getElem?_drop] using this
  have g1 : cs.toList[k * 2 + 1]? = some (.int .i64 z) := by
    have := congrArg (·[0]?) hz
    simpa [List.getElem?_take, List.getElem?_drop] using this
  have hsz : cs.size = 26 := by simpa [cells138] using hl
  constructor
  · rw [c0]
    rw [Array.getElem?_toList] at g0
    rw [g0]
    show some (Value.string s) = some (.string ⟨(nameK k).toArray⟩)
    rw [← e1]
  · rw [c1]
    rw [Array.getElem?_toList] at g1
    rw [g1, e2]

section
variable {H : Type} {enc : TypeId × Value → H}
set_option maxRecDepth 100000 in
/-- THE LAST STEP OF A ROW: the law has answered true; what was read reads as it did. -/
theorem post_law {f : Func} {s : ChangeSpec} {W W' : World} {args : Array Value} {ds : List (DataW H)} {before : List MemPlace}
    (hW : DataW.Whole enc Tryd.prog f.params.toList s.vars false W args.toList ds [] before) (hv : s.vars = []) (ht : f.resultTypes = #[4])
    (hr : (s.fn H (ds ++ [])).results = [.lit (.bool true)]) (ha : (s.fn H (ds ++ [])).args = ds) (hg : (s.fn H (ds ++ [])).vars = [])
    (hargs : DataW.TrodAll enc Tryd.prog W' 0 (fun b => decide (b < W.heap.size)) true f.params.toList args.toList ds before)
    (hb : Below W.heap.size W W') : s.post enc Tryd.prog f false true false false W args (.bool true) W' := by
  refine ⟨ds, [], before, [], before, [], hW, ?_, ?_, ?_, ?_, fun h => by cases h⟩
  · rw [hr, ht]
    exact trodAll_cons_mk (shut_bool Tryd.underlying4 _) trodAll_mk0
  · rw [ha]; exact hargs
  · rw [hg, hv]; rfl
  · exact World.keptBut_mono (fun p hp => ⟨hp, Or.inr (Or.inl hp)⟩) (hb.frame (· ∈ before))

set_option maxRecDepth 100000 in
theorem open_bytes {W : World} {base : Nat} {v : Value} {d : DataW H} {ps : List MemPlace}
    (hv : Value.okWide Tryd.prog W .any base 37 v) (h : DataW.Trod enc Tryd.prog W 0 (fun _ => true) true 37 v d ps) :
    ∃ A cap, ∃ bs : List By, v = .slice A bs.length cap ∧ bs.length ≤ maxLen ∧ bs.length ≤ cap ∧ (A = none → cap = 0) ∧ SrcIs W A bs := by
  obtain ⟨A, n, cap, rfl⟩ := okWide_slice Tryd.underlying37 hv
  obtain ⟨fuel, hf⟩ := h
  rcases open_ints Tryd.underlying37 Tryd.underlying5 cells5 hf with ⟨hcs, hx⟩ | ⟨a, len', cap', zs, hcs, _, hl, hm, hz, hx, hcell, hwz⟩
  · simp [Value.cells] at hcs
    obtain ⟨rfl, rfl, rfl⟩ := hcs
    exact ⟨none, 0, [], rfl, by unfold maxLen; simp, by simp, fun _ => rfl, fun h => absurd h (by simp)⟩
  · simp [Value.cells] at hcs
    obtain ⟨rfl, rfl, rfl⟩ := hcs
    simp only [if_true] at hz
    have hlen : ((zs.take n).map (fun z => UInt8.ofNat z.toNat)).length = n := by simp; omega
    refine ⟨some a, cap, (zs.take n).map (fun z => UInt8.ofNat z.toNat), by rw [hlen], by omega, by omega, (fun h => by cases h), ?_⟩
    intro hpos
    have hp : 0 < zs.length := by rw [hlen] at hpos; omega
    obtain ⟨b, off, rfl, hc⟩ := ints_at hcell hp
    refine ⟨b, off, rfl, ?_⟩
    intro k hk
    have hk' : k < zs.length := by rw [hlen] at hk; omega
    rw [hc k hk']
    simp only [List.getElem_map, List.getElem_take, List.getD_eq_getElem?_getD, List.getElem?_eq_getElem hk', Option.getD_some]
    have := bounds_u8 (hwz zs[k] (List.getElem_mem hk'))
    obtain ⟨m, hm'⟩ : ∃ m : Nat, zs[k] = m := ⟨zs[k].toNat, by omega⟩
    rw [hm']
    show _ = some (Value.int .u8 ((UInt8.ofNat (Int.toNat (m : Int))).toNat : Int))
    rw [Int.toNat_natCast, UInt8.toNat_ofNat_of_lt' (by show m < 256; omega)]
set_option maxRecDepth 100000 in
theorem byte_of {x : Int} (h : (Lit.int .u8 x).wf = true) : ∃ b : By, x = (b.toNat : Int) := by
  have := bounds_u8 h
  obtain ⟨m, rfl⟩ : ∃ m : Nat, x = m := ⟨x.toNat, by omega⟩
  exact ⟨UInt8.ofNat m, by rw [UInt8.toNat_ofNat_of_lt' (by show m < 256; omega)]⟩
set_option maxRecDepth 100000 in
theorem open_text {W : World} {base : Nat} {v : Value} {d : DataW H} {ps : List MemPlace}
    (hv : Value.okWide Tryd.prog W .any base 9 v) (h : DataW.Trod enc Tryd.prog W 0 (fun _ => true) true 9 v d ps) :
    ∃ l : List By, v = .string ⟨l.toArray⟩ ∧ d = .lit (.string l) ∧ ps = [] ∧ l.length ≤ maxLen := by
  obtain ⟨s, rfl, rfl, rfl, hs⟩ := open_string Tryd.underlying9 hv h
  exact ⟨s.data.toList, rfl, rfl, rfl, by simpa using hs⟩
set_option maxRecDepth 100000 in
theorem shut_text {W : World} {base : Nat} {sp : Nat → Bool} {l : List By} (hl : l.length ≤ maxLen) : DataW.Trod enc Tryd.prog W base sp true 9 (.string ⟨l.toArray⟩) (.lit (.string l)) [] := by
  have := shut_string (enc := enc) (w := W) (base := base) (sp := sp) (held := true) Tryd.underlying9 (s := ⟨l.toArray⟩) (by simpa [ByteArray.size] using hl)
  simpa using this
end
end Go.Proofs.YtghbabnekalgpaaDoor
