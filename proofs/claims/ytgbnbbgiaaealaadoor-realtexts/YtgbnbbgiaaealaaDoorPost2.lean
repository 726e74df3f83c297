/- Both tables, out of the row's list. -/
import Derived.Test.YtgbnbbgiaaealaaDoorPost
import Derived.Test.YtgbnbbgiaaealaaDoorW12
namespace Go.Proofs.YtgbnbbgiaaealaaDoor
open Go.ChangeShapes Go.WideShapes Go.ChangeAt Go.RowKit RealMath

theorem gPowType : (Tryd.prog.globals[1]?).map (·.type) = some 73 := by kernel_rfl
theorem cells73 : Tryd.prog.cellsOf 73 = 20 := by kernel_rfl
theorem cells22' : Tryd.prog.cellsOf 22 = 1 := by kernel_rfl

theorem table2 {W : World} (h : laidMetH Tryd.prog theLaid W) : Lib.TabIs Tryd.prog W "internal/strconv.uint64pow10" .u64 Lib.pow10Tab := by
  have h1 := laidMetH.filter (fun x => x.1 == "internal/strconv.uint64pow10") h
  exact Lib.tabIs_of_head (rest := []) gPow' gPowType Tryd.underlying73 Tryd.underlying22 cells22' cells73 h1
theorem tab2_of {W : World} (h : laidMetH Tryd.prog theLaid W) : Tab2 W := ⟨tab_of h, table2 h⟩
end Go.Proofs.YtgbnbbgiaaealaaDoor
