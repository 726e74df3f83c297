/- RealMost answers true for every slice of uint64: Most of the numbers is the Same as one of them, none of them is greater, and its bits are the document's (of more than sixty numbers it asks the document's example alone). Conditions: none but the row's own (the three listed tables of the library hold what the program's text lays). -/
import Derived.Test.YtgbnbbgiaaealaaDoorPost
import Derived.Test.YtgbnbbgiaaealaaDoorArg
import Derived.Test.YtgbnbbgiaaealaaDoorL4
namespace Go.Proofs.YtgbnbbgiaaealaaDoor.realMost
open Go.ChangeShapes Go.WideShapes Go.ChangeAt Go.RowKit RealMath

theorem contract (H : Type) (enc : TypeId × Value → H) (W : World) (base : Nat) (args : Array Value) (ds gs : List (DataW H)) (before : List MemPlace)
    (hval : ∀ (j : Nat) t v, Tryd.f6.params[j]? = some t → args[j]? = some v → Value.okWide Tryd.prog W .any base t v)
    (hW : DataW.Whole enc Tryd.prog Tryd.f6.params.toList Rows.realMostSpec.vars false W args.toList ds gs before) (hL : laidMetH Tryd.prog Rows.realMostRow.laid W) :
    Calls Tryd.prog 6 args W fun e W' => ∃ v, e = .returned v ∧ Rows.realMostSpec.post enc Tryd.prog Tryd.f6 false true false false W args v W' := by
  exact slice_law (f := Tryd.f6) (s := Rows.realMostSpec) Tryd.params6 rfl (by kernel_rfl) (fun _ => rfl) most_all W base args ds gs before hval hW (tab_of hL)

theorem reads (os : Os) {H : Type} (enc : TypeId × Value → H) : ∃ places, DataW.whole enc Tryd.prog ((World.laidAll Tryd.prog os Rows.realMostRow.laid).forCall (fun _ _ => 0) ⟨#[], #[.slice none 0 0], []⟩).memory Tryd.f6.params.toList Rows.realMostSpec.vars false #[Value.slice none 0 0].toList 8 = some ([.nil], [], places) :=
  ⟨[], by kernel_rfl⟩

set_option maxRecDepth 100000 in
theorem lifted (os : Os) (started : os.Started) (H : Type) (enc : TypeId × Value → H) (F : Stop.Interp) :
    ReturnsInHanded {} Tryd.checked os 6 .any ((OpenSpec.ofChange Rows.realMostSpec).preRow enc Tryd.prog Tryd.f6 Rows.realMostRow.domain false Rows.realMostRow.laid) (((OpenSpec.ofChange Rows.realMostSpec).at F).post enc Tryd.prog Tryd.f6 false true false false) := by
  obtain ⟨places, hx⟩ := reads os enc
  refine returnsInHanded_of_row (C := Tryd.checked) (s := OpenSpec.ofChange Rows.realMostSpec) own started (by kernel_rfl) Tryd.func6
    (witness_row_at (enc := enc) (C := Tryd.checked) false (World.laidAll Tryd.prog os Rows.realMostRow.laid) #[.slice none 0 0] (World.laidAll_os _ _ _) (by kernel_rfl) (by kernel_rfl) (by kernel_rfl)
      (OpenSpec.preRow_of_cond 8 hx (by kernel_rfl) (fun k hk => by cases hk) (by kernel_rfl) (laidMet_laidAll _ (by kernel_rfl) (by kernel_rfl)))) ?_
  intro W base args ds gs before hval hW _ _ _ hL _ _
  exact contract H enc W base args ds gs before hval hW hL

theorem said : Rows.RealMostSaid :=
  OpenClaim.holds_of_cond 6 Tryd.f6 rfl rfl rfl rfl rfl rfl rfl ⟨rfl, rfl, rfl, rfl, rfl⟩ rfl rfl rfl rfl rfl (by kernel_rfl) Tryd.func6 (by kernel_rfl)
    (of_decide_eq_true (by kernel_rfl)) (by unfold Func.isWrapper; first | (rw [if_pos (by decide +kernel)]; kernel_rfl) | (rw [if_neg (by decide +kernel)]; exact ⟨rfl, rfl⟩))
    (fun os started H enc _ F => by rw [OpenClaim.pre_eq_preRow]; exact lifted os started H enc F)

/-- No parameter wants a stand-in; the program's own looks are off. -/
theorem plain (f : FuncId) (fn : Func) (hf : Tryd.pinned.checked.prog.funcNamed "godown/godownlaw01.RealMost" = some f) (hfn : Tryd.pinned.checked.prog.funcs[f]? = some fn) :
    false = Tryd.pinned.checked.prog.looks [] ∧ ∀ (j : Nat) t, fn.params[j]? = some t → Tryd.pinned.checked.prog.wantsStandIn t = false := by
  obtain rfl : f = 6 := Option.some.inj ((show Tryd.prog.funcNamed "godown/godownlaw01.RealMost" = some 6 by kernel_rfl).symm.trans hf) |>.symm
  obtain rfl : fn = Tryd.f6 := (Option.some.inj (Tryd.func6.symm.trans hfn)).symm
  refine ⟨by kernel_rfl, fun j t ht => ?_⟩
  rw [Tryd.params6] at ht
  obtain rfl : t = 34 := by simpa using Array.mem_of_getElem? ht
  exact (show Tryd.prog.wantsStandIn 34 = false by kernel_rfl)

end Go.Proofs.YtgbnbbgiaaealaaDoor.realMost
namespace Go.Proofs.YtgbnbbgiaaealaaDoor
/-- THE CARD -/
theorem realMost_holds : Rows.RealMostCardSaid :=
  Claim7.holds_tied_plain_at .later [] _ _ _ _ realMost.said (fun _ h => by cases h) (by kernel_rfl) (fun _ h => by cases h) realMost_row_tie rfl ⟨rfl, rfl⟩ (by kernel_rfl) rfl realMost.plain (by kernel_rfl)
end Go.Proofs.YtgbnbbgiaaealaaDoor
