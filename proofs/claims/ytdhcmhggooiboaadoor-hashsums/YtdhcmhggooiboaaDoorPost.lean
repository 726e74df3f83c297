/- What all laws of this seat share: the two tables out of the row's list; the last step of a row whose law answers true and leaves what was there; bytes that came in, opened. -/
import Derived.Test.YtdhcmhggooiboaaDoorCards
import Derived.Test.YtdhcmhggooiboaaDoorTie
import Derived.Test.YtdhcmhggooiboaaDoorW9
import Derived.ProofKit
import Derived.OpenShut
import Derived.Deep.DeepHandedRow
import Derived.Lib.LaidTab
import Derived.LaidSub
import Derived.Lay
import Derived.Carry
namespace Go.Proofs.YtdhcmhggooiboaaDoor
open Go.ChangeShapes Go.WideShapes Go.ChangeAt Go.RowKit Go.WideElems HashMath

theorem own : ownKnob Tryd.prog.godebug = none := by kernel_rfl
theorem gStart : Tryd.prog.globalNamed "godown/hash.start" = some 0 := by kernel_rfl
theorem gStartType : (Tryd.prog.globals[0]?).map (·.type) = some 39 := by kernel_rfl
theorem gRounds : Tryd.prog.globalNamed "godown/hash.rounds" = some 1 := by kernel_rfl
theorem gRoundsType : (Tryd.prog.globals[1]?).map (·.type) = some 49 := by kernel_rfl
theorem cells39 : Tryd.prog.cellsOf 39 = 8 := by kernel_rfl
theorem cells49 : Tryd.prog.cellsOf 49 = 64 := by kernel_rfl
theorem cells38 : Tryd.prog.cellsOf 38 = 1 := by kernel_rfl
theorem cells5 : Tryd.prog.cellsOf 5 = 1 := by kernel_rfl
theorem laidOut : laidOutB Tryd.prog = true := by kernel_rfl

/-- the row's list, as all rows of this seat have it -/
def theLaid : List (String × DataW Unit) := Rows.hashShortRow.laid

theorem tabs_of {W : World} (h : laidMetH Tryd.prog theLaid W) : Tabs W := by
  have h1 := laidMetH.filter (fun x => x.1 == "godown/hash.start") h
  have h2 := laidMetH.filter (fun x => x.1 == "godown/hash.rounds") h
  have t1 : Lib.TabIs Tryd.prog W "godown/hash.start" .u32 (H0.list.map u) := Lib.tabIs_of_head (rest := []) gStart gStartType Tryd.underlying39 Tryd.underlying38 cells38 cells39 h1
  have t2 : Lib.TabIs Tryd.prog W "godown/hash.rounds" .u32 (K0.map u) := Lib.tabIs_of_head (rest := []) gRounds gRoundsType Tryd.underlying49 Tryd.underlying38 cells38 cells49 h2
  refine ⟨fun j v hv => ?_, fun j v hv => ?_⟩
  · have hj : j < 8 := (List.getElem?_eq_some_iff.1 hv).1
    rw [Nat.zero_add, t1.cell gStart j hj, ← hv]
    show _ = (H0.list.map vw)[j]?
    rw [map_getD H0.list j hj, List.getD_eq_getElem?_getD, List.getElem?_map, List.getD_eq_getElem?_getD, List.getElem?_eq_getElem hj]; rfl
  · have hj : j < K0.length := by have := (List.getElem?_eq_some_iff.1 hv).1; simpa using this
    rw [Nat.zero_add, t2.cell gRounds j (by simpa using hj), ← hv]
    rw [map_getD K0 j hj, List.getD_eq_getElem?_getD, List.getElem?_map, List.getD_eq_getElem?_getD, List.getElem?_eq_getElem hj]; rfl

section
variable {H : Type} {enc : TypeId × Value → H}

/-- THE LAST STEP OF A ROW: the law has answered true; what was read reads as it did. -/
theorem post_law {f : Func} {s : ChangeSpec} {W W' : World} {args : Array Value} {ds : List (DataW H)} {before : List MemPlace}
    (hW : DataW.Whole enc Tryd.prog f.params.toList s.vars false W args.toList ds [] before) (hv : s.vars = []) (ht : f.resultTypes = #[4])
    (hr : (s.fn H (ds ++ [])).results = [.lit (.bool true)]) (ha : (s.fn H (ds ++ [])).args = ds) (hg : (s.fn H (ds ++ [])).vars = [])
    (hargs : DataW.TrodAll enc Tryd.prog W' 0 (fun b => decide (b < W.heap.size)) true f.params.toList args.toList ds before)
    (hb : Below W.heap.size W W') : s.post enc Tryd.prog f false true false false W args (.bool true) W' := by
  refine ⟨ds, [], before, [], before, [], hW, ?_, ?_, ?_, ?_, fun h => by cases h⟩
  · rw [hr, ht]
    exact trodAll_cons_mk (shut_bool Tryd.underlying4 _) trodAll_mk0
  · rw [ha]; exact hargs
  · rw [hg, hv]; rfl
  · exact World.keptBut_mono (fun p hp => ⟨hp, Or.inr (Or.inl hp)⟩) (hb.frame (· ∈ before))

theorem open_bytes {W : World} {base : Nat} {v : Value} {d : DataW H} {ps : List MemPlace}
    (hv : Value.okWide Tryd.prog W .any base 22 v) (h : DataW.Trod enc Tryd.prog W 0 (fun _ => true) true 22 v d ps) :
    ∃ A cap, ∃ bs : List By, v = .slice A bs.length cap ∧ bs.length ≤ maxLen ∧ bs.length ≤ cap ∧ (A = none → cap = 0) ∧ SrcIs W A bs := by
  obtain ⟨A, n, cap, rfl⟩ := okWide_slice Tryd.underlying22 hv
  obtain ⟨fuel, hf⟩ := h
  rcases open_ints Tryd.underlying22 Tryd.underlying5 cells5 hf with ⟨hcs, hx⟩ | ⟨a, len', cap', zs, hcs, _, hl, hm, hz, hx, hcell, hwz⟩
  · simp [Value.cells] at hcs
    obtain ⟨rfl, rfl, rfl⟩ := hcs
    exact ⟨none, 0, [], rfl, by unfold maxLen; simp, by simp, fun _ => rfl, fun h => absurd h (by simp)⟩
  · simp [Value.cells] at hcs
    obtain ⟨rfl, rfl, rfl⟩ := hcs
    simp only [if_true] at hz
    have hlen : ((zs.take n).map (BitVec.ofInt 8)).length = n := by simp; omega
    refine ⟨some a, cap, (zs.take n).map (BitVec.ofInt 8), by rw [hlen], by omega, by omega, (fun h => by cases h), ?_⟩
    intro hpos
    have hp : 0 < zs.length := by rw [hlen] at hpos; omega
    obtain ⟨b, off, rfl, hc⟩ := ints_at hcell hp
    refine ⟨b, off, rfl, ?_⟩
    intro k hk
    have hk' : k < zs.length := by rw [hlen] at hk; omega
    rw [hc k hk']
    simp only [List.getElem_map, List.getElem_take, List.getD_eq_getElem?_getD, List.getElem?_eq_getElem hk', Option.getD_some]
    have := bounds_u8 (hwz zs[k] (List.getElem_mem hk'))
    obtain ⟨m, hm'⟩ : ∃ m : Nat, zs[k] = m := ⟨zs[k].toNat, by omega⟩
    rw [hm']
    show _ = some (Value.int .u8 (ub (BitVec.ofInt 8 (m : Int))))
    rw [BitVec.ofInt_natCast, ub_ofNat m (by omega)]
theorem byte_of {x : Int} (h : (Lit.int .u8 x).wf = true) : ∃ b : By, x = ub b := by
  have := bounds_u8 h
  obtain ⟨m, rfl⟩ : ∃ m : Nat, x = m := ⟨x.toNat, by omega⟩
  exact ⟨BitVec.ofNat 8 m, (ub_ofNat m (by omega)).symm⟩
end
end Go.Proofs.YtdhcmhggooiboaaDoor
