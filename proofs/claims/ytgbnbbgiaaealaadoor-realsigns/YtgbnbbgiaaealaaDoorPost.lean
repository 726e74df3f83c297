/- What all laws of this seat share: the tables that Text leans on, out of the row's list; the last step of a row whose law answers true and leaves what was there. -/
import Derived.Test.YtgbnbbgiaaealaaDoorCards
import Derived.Test.YtgbnbbgiaaealaaDoorTie
import Derived.Test.YtgbnbbgiaaealaaDoorW7
import Derived.ProofKit
import Derived.OpenShut
import Derived.Deep.DeepHandedRow
import Derived.Lib.LaidTab
import Derived.LaidSub
import Derived.Lay
namespace Go.Proofs.YtgbnbbgiaaealaaDoor
open Go.ChangeShapes Go.WideShapes Go.ChangeAt Go.RowKit RealMath

theorem own : ownKnob Tryd.prog.godebug = none := by kernel_rfl
theorem gTab : Tryd.prog.globalNamed "math/bits.deBruijn64tab" = some 3 := by kernel_rfl
theorem gTabType : (Tryd.prog.globals[3]?).map (·.type) = some 88 := by kernel_rfl
theorem cells88 : Tryd.prog.cellsOf 88 = 64 := by kernel_rfl
theorem cells5 : Tryd.prog.cellsOf 5 = 1 := by kernel_rfl
theorem gPow : Tryd.prog.globalNamed "internal/strconv.uint64pow10" = some 1 := by kernel_rfl

/-- the row's list, as all rows of this seat have it -/
def theLaid : List (String × DataW Unit) := Rows.realCanonsRow.laid
/-- the table's numbers -/
def tab64 : List Int := [0, 1, 56, 2, 57, 49, 28, 3, 61, 58, 42, 50, 38, 29, 17, 4, 62, 47, 59, 36, 45, 43, 51, 22, 53, 39, 33, 30, 24, 18, 12, 5, 63, 55, 48, 27, 60, 41, 37, 16, 46, 35, 44, 21, 52, 32, 23, 11, 54, 26, 40, 15, 34, 20, 31, 10, 25, 14, 19, 9, 13, 8, 7, 6]

theorem table {W : World} (h : laidMetH Tryd.prog theLaid W) : Lib.TabIs Tryd.prog W "math/bits.deBruijn64tab" .u8 tab64 := by
  have h1 := laidMetH.filter (fun x => x.1 == "math/bits.deBruijn64tab") h
  exact Lib.tabIs_of_head (rest := []) gTab gTabType Tryd.underlying88 Tryd.underlying5 cells5 cells88 h1

theorem tab_of {W : World} (h : laidMetH Tryd.prog theLaid W) : Tab W := by
  have hc : W.cell? ⟨3, 15, none⟩ = some (.int .u8 4) := (table h).cell gTab 15 (by decide)
  refine ⟨?_, hc⟩
  by_cases hs : 3 < W.heap.size
  · exact hs
  · have : W.heap[3]? = none := Array.getElem?_eq_none (by omega)
    simp [World.cell?, this] at hc

section
variable {H : Type} {enc : TypeId × Value → H}

/-- THE LAST STEP OF A ROW: the law has answered true; what was read reads as it did. -/
theorem post_law {f : Func} {s : ChangeSpec} {W W' : World} {args : Array Value} {ds : List (DataW H)} {before : List MemPlace}
    (hW : DataW.Whole enc Tryd.prog f.params.toList s.vars false W args.toList ds [] before) (hv : s.vars = []) (ht : f.resultTypes = #[4])
    (hr : (s.fn H (ds ++ [])).results = [.lit (.bool true)]) (ha : (s.fn H (ds ++ [])).args = ds) (hg : (s.fn H (ds ++ [])).vars = [])
    (hargs : DataW.TrodAll enc Tryd.prog W' 0 (fun b => decide (b < W.heap.size)) true f.params.toList args.toList ds before)
    (hb : Below W.heap.size W W') : s.post enc Tryd.prog f false true false false W args (.bool true) W' := by
  refine ⟨ds, [], before, [], before, [], hW, ?_, ?_, ?_, ?_, fun h => by cases h⟩
  · rw [hr, ht]
    exact trodAll_cons_mk (shut_bool Tryd.underlying4 _) trodAll_mk0
  · rw [ha]; exact hargs
  · rw [hg, hv]; rfl
  · exact World.keptBut_mono (fun p hp => ⟨hp, Or.inr (Or.inl hp)⟩) (hb.frame (· ∈ before))
end
end Go.Proofs.YtgbnbbgiaaealaaDoor
