/- RealSums answers true for every slice of uint64: the bits of Sum are those of the sum, one by one, as one of all that are alike (of more than sixty numbers it asks the document's example alone). Conditions: none but the row's own (the three listed tables of the library hold what the program's text lays). -/
import Derived.Test.YtgbnbbgiaaealaaDoorPost
import Derived.Test.YtgbnbbgiaaealaaDoorArg
import Derived.Test.YtgbnbbgiaaealaaDoorL5
namespace Go.Proofs.YtgbnbbgiaaealaaDoor.realSums
open Go.ChangeShapes Go.WideShapes Go.ChangeAt Go.RowKit RealMath

theorem contract (H : Type) (enc : TypeId × Value → H) (W : World) (base : Nat) (args : Array Value) (ds gs : List (DataW H)) (before : List MemPlace)
    (hval : ∀ (j : Nat) t v, Tryd.f7.params[j]? = some t → args[j]? = some v → Value.okWide Tryd.prog W .any base t v)
    (hW : DataW.Whole enc Tryd.prog Tryd.f7.params.toList Rows.realSumsSpec.vars false W args.toList ds gs before) (hL : laidMetH Tryd.prog Rows.realSumsRow.laid W) :
    Calls Tryd.prog 7 args W fun e W' => ∃ v, e = .returned v ∧ Rows.realSumsSpec.post enc Tryd.prog Tryd.f7 false true false false W args v W' := by
  exact slice_law (f := Tryd.f7) (s := Rows.realSumsSpec) Tryd.params7 rfl (by kernel_rfl) (fun _ => rfl) sums_all W base args ds gs before hval hW (tab_of hL)

theorem reads (os : Os) {H : Type} (enc : TypeId × Value → H) : ∃ places, DataW.whole enc Tryd.prog ((World.laidAll Tryd.prog os Rows.realSumsRow.laid).forCall (fun _ _ => 0) ⟨#[], #[.slice none 0 0], []⟩).memory Tryd.f7.params.toList Rows.realSumsSpec.vars false #[Value.slice none 0 0].toList 8 = some ([.nil], [], places) :=
  ⟨[], by kernel_rfl⟩

set_option maxRecDepth 100000 in
theorem lifted (os : Os) (started : os.Started) (H : Type) (enc : TypeId × Value → H) (F : Stop.Interp) :
    ReturnsInHanded {} Tryd.checked os 7 .any ((OpenSpec.ofChange Rows.realSumsSpec).preRow enc Tryd.prog Tryd.f7 Rows.realSumsRow.domain false Rows.realSumsRow.laid) (((OpenSpec.ofChange Rows.realSumsSpec).at F).post enc Tryd.prog Tryd.f7 false true false false) := by
  obtain ⟨places, hx⟩ := reads os enc
  refine returnsInHanded_of_row (C := Tryd.checked) (s := OpenSpec.ofChange Rows.realSumsSpec) own started (by kernel_rfl) Tryd.func7
    (witness_row_at (enc := enc) (C := Tryd.checked) false (World.laidAll Tryd.prog os Rows.realSumsRow.laid) #[.slice none 0 0] (World.laidAll_os _ _ _) (by kernel_rfl) (by kernel_rfl) (by kernel_rfl)
      (OpenSpec.preRow_of_cond 8 hx (by kernel_rfl) (fun k hk => by cases hk) (by kernel_rfl) (laidMet_laidAll _ (by kernel_rfl) (by kernel_rfl)))) ?_
  intro W base args ds gs before hval hW _ _ _ hL _ _
  exact contract H enc W base args ds gs before hval hW hL

theorem said : Rows.RealSumsSaid :=
  OpenClaim.holds_of_cond 7 Tryd.f7 rfl rfl rfl rfl rfl rfl rfl ⟨rfl, rfl, rfl, rfl, rfl⟩ rfl rfl rfl rfl rfl (by kernel_rfl) Tryd.func7 (by kernel_rfl)
    (of_decide_eq_true (by kernel_rfl)) (by unfold Func.isWrapper; first | (rw [if_pos (by decide +kernel)]; kernel_rfl) | (rw [if_neg (by decide +kernel)]; exact ⟨rfl, rfl⟩))
    (fun os started H enc _ F => by rw [OpenClaim.pre_eq_preRow]; exact lifted os started H enc F)

/-- No parameter wants a stand-in; the program's own looks are off. -/
theorem plain (f : FuncId) (fn : Func) (hf : Tryd.pinned.checked.prog.funcNamed "godown/godownlaw01.RealSums" = some f) (hfn : Tryd.pinned.checked.prog.funcs[f]? = some fn) :
    false = Tryd.pinned.checked.prog.looks [] ∧ ∀ (j : Nat) t, fn.params[j]? = some t → Tryd.pinned.checked.prog.wantsStandIn t = false := by
  obtain rfl : f = 7 := Option.some.inj ((show Tryd.prog.funcNamed "godown/godownlaw01.RealSums" = some 7 by kernel_rfl).symm.trans hf) |>.symm
  obtain rfl : fn = Tryd.f7 := (Option.some.inj (Tryd.func7.symm.trans hfn)).symm
  refine ⟨by kernel_rfl, fun j t ht => ?_⟩
  rw [Tryd.params7] at ht
  obtain rfl : t = 34 := by simpa using Array.mem_of_getElem? ht
  exact (show Tryd.prog.wantsStandIn 34 = false by kernel_rfl)

end Go.Proofs.YtgbnbbgiaaealaaDoor.realSums
namespace Go.Proofs.YtgbnbbgiaaealaaDoor
/-- THE CARD -/
theorem realSums_holds : Rows.RealSumsCardSaid :=
  Claim7.holds_tied_plain_at .later [] _ _ _ _ realSums.said (fun _ h => by cases h) (by kernel_rfl) (fun _ h => by cases h) realSums_row_tie rfl ⟨rfl, rfl⟩ (by kernel_rfl) rfl realSums.plain (by kernel_rfl)
end Go.Proofs.YtgbnbbgiaaealaaDoor
