/- What all laws of this seat share: the last step of a row whose law answers true and leaves what was there; bytes and texts that came in, opened. -/
import Derived.Test.YthmenbccofhjfaaDoorCards
import Derived.Test.YthmenbccofhjfaaDoorTie
import Derived.Test.YthmenbccofhjfaaDoorHW3
import Derived.Test.YthmenbccofhjfaaDoorB1
import Derived.ProofKit
import Derived.OpenShut
import Derived.Deep.DeepHandedRow
import Derived.Lay
import Derived.Carry
import Derived.Lib.LaidTab
import Derived.LaidSub
import Derived.ChangeMaps5
namespace Go.Proofs.YthmenbccofhjfaaDoor
open Go.ChangeShapes Go.WideShapes Go.ChangeAt Go.RowKit Go.WideElems Go.ChangeMaps BaseMath

theorem own : ownKnob Tryd.prog.godebug = none := by kernel_rfl
theorem cells5 : Tryd.prog.cellsOf 5 = 1 := by kernel_rfl
theorem laidOut : laidOutB Tryd.prog = true := by kernel_rfl
theorem gStart : Tryd.prog.globalNamed "godown/hash.start" = some 0 := by kernel_rfl
theorem gStartType : (Tryd.prog.globals[0]?).map (·.type) = some 77 := by kernel_rfl
theorem gRounds : Tryd.prog.globalNamed "godown/hash.rounds" = some 1 := by kernel_rfl
theorem gRoundsType : (Tryd.prog.globals[1]?).map (·.type) = some 83 := by kernel_rfl
theorem cells77 : Tryd.prog.cellsOf 77 = 8 := by kernel_rfl
theorem cells83 : Tryd.prog.cellsOf 83 = 64 := by kernel_rfl
theorem cells69 : Tryd.prog.cellsOf 69 = 1 := by kernel_rfl

/-- the row's list, as all rows of this seat have it -/
def theLaid : List (String × DataW Unit) := Rows.nameRightRow.laid

open HashMath in
theorem tabs_of {W : World} (h : laidMetH Tryd.prog theLaid W) : Hs.Tabs W := by
  have h1 := laidMetH.filter (fun x => x.1 == "godown/hash.start") h
  have h2 := laidMetH.filter (fun x => x.1 == "godown/hash.rounds") h
  have t1 : Lib.TabIs Tryd.prog W "godown/hash.start" .u32 (H0.list.map u) := Lib.tabIs_of_head (rest := []) gStart gStartType Tryd.underlying77 Tryd.underlying69 cells69 cells77 h1
  have t2 : Lib.TabIs Tryd.prog W "godown/hash.rounds" .u32 (K0.map u) := Lib.tabIs_of_head (rest := []) gRounds gRoundsType Tryd.underlying83 Tryd.underlying69 cells69 cells83 h2
  refine ⟨fun j v hv => ?_, fun j v hv => ?_⟩
  · have hj : j < 8 := (List.getElem?_eq_some_iff.1 hv).1
    rw [Nat.zero_add, t1.cell gStart j hj, ← hv]
    show _ = (H0.list.map Hs.vw)[j]?
    rw [Hs.map_getD H0.list j hj, List.getD_eq_getElem?_getD, List.getElem?_map, List.getD_eq_getElem?_getD, List.getElem?_eq_getElem hj]; rfl
  · have hj : j < K0.length := by have := (List.getElem?_eq_some_iff.1 hv).1; simpa using this
    rw [Nat.zero_add, t2.cell gRounds j (by simpa using hj), ← hv]
    rw [Hs.map_getD K0 j hj, List.getD_eq_getElem?_getD, List.getElem?_map, List.getD_eq_getElem?_getD, List.getElem?_eq_getElem hj]; rfl

section
variable {H : Type} {enc : TypeId × Value → H}

/-- THE LAST STEP OF A ROW: the law has answered true; what was read reads as it did. -/
theorem post_law {f : Func} {s : ChangeSpec} {W W' : World} {args : Array Value} {ds : List (DataW H)} {before : List MemPlace}
    (hW : DataW.Whole enc Tryd.prog f.params.toList s.vars false W args.toList ds [] before) (hv : s.vars = []) (ht : f.resultTypes = #[4])
    (hr : (s.fn H (ds ++ [])).results = [.lit (.bool true)]) (ha : (s.fn H (ds ++ [])).args = ds) (hg : (s.fn H (ds ++ [])).vars = [])
    (hargs : DataW.TrodAll enc Tryd.prog W' 0 (fun b => decide (b < W.heap.size)) true f.params.toList args.toList ds before)
    (hb : Below W.heap.size W W') : s.post enc Tryd.prog f false true false false W args (.bool true) W' := by
  refine ⟨ds, [], before, [], before, [], hW, ?_, ?_, ?_, ?_, fun h => by cases h⟩
  · rw [hr, ht]
    exact trodAll_cons_mk (shut_bool Tryd.underlying4 _) trodAll_mk0
  · rw [ha]; exact hargs
  · rw [hg, hv]; rfl
  · exact World.keptBut_mono (fun p hp => ⟨hp, Or.inr (Or.inl hp)⟩) (hb.frame (· ∈ before))

theorem open_bytes {W : World} {base : Nat} {v : Value} {d : DataW H} {ps : List MemPlace}
    (hv : Value.okWide Tryd.prog W .any base 26 v) (h : DataW.Trod enc Tryd.prog W 0 (fun _ => true) true 26 v d ps) :
    ∃ A cap, ∃ bs : List By, v = .slice A bs.length cap ∧ bs.length ≤ maxLen ∧ bs.length ≤ cap ∧ (A = none → cap = 0) ∧ SrcIs W A bs := by
  obtain ⟨A, n, cap, rfl⟩ := okWide_slice Tryd.underlying26 hv
  obtain ⟨fuel, hf⟩ := h
  rcases open_ints Tryd.underlying26 Tryd.underlying5 cells5 hf with ⟨hcs, hx⟩ | ⟨a, len', cap', zs, hcs, _, hl, hm, hz, hx, hcell, hwz⟩
  · simp [Value.cells] at hcs
    obtain ⟨rfl, rfl, rfl⟩ := hcs
    exact ⟨none, 0, [], rfl, by unfold maxLen; simp, by simp, fun _ => rfl, fun h => absurd h (by simp)⟩
  · simp [Value.cells] at hcs
    obtain ⟨rfl, rfl, rfl⟩ := hcs
    simp only [if_true] at hz
    have hlen : ((zs.take n).map (fun z => UInt8.ofNat z.toNat)).length = n := by simp; omega
    refine ⟨some a, cap, (zs.take n).map (fun z => UInt8.ofNat z.toNat), by rw [hlen], by omega, by omega, (fun h => by cases h), ?_⟩
    intro hpos
    have hp : 0 < zs.length := by rw [hlen] at hpos; omega
    obtain ⟨b, off, rfl, hc⟩ := ints_at hcell hp
    refine ⟨b, off, rfl, ?_⟩
    intro k hk
    have hk' : k < zs.length := by rw [hlen] at hk; omega
    rw [hc k hk']
    simp only [List.getElem_map, List.getElem_take, List.getD_eq_getElem?_getD, List.getElem?_eq_getElem hk', Option.getD_some]
    have := bounds_u8 (hwz zs[k] (List.getElem_mem hk'))
    obtain ⟨m, hm'⟩ : ∃ m : Nat, zs[k] = m := ⟨zs[k].toNat, by omega⟩
    rw [hm']
    show _ = some (Value.int .u8 ((UInt8.ofNat (Int.toNat (m : Int))).toNat : Int))
    rw [Int.toNat_natCast, UInt8.toNat_ofNat_of_lt' (by show m < 256; omega)]
theorem byte_of {x : Int} (h : (Lit.int .u8 x).wf = true) : ∃ b : By, x = (b.toNat : Int) := by
  have := bounds_u8 h
  obtain ⟨m, rfl⟩ : ∃ m : Nat, x = m := ⟨x.toNat, by omega⟩
  exact ⟨UInt8.ofNat m, by rw [UInt8.toNat_ofNat_of_lt' (by show m < 256; omega)]⟩
theorem open_text {W : World} {base : Nat} {v : Value} {d : DataW H} {ps : List MemPlace}
    (hv : Value.okWide Tryd.prog W .any base 9 v) (h : DataW.Trod enc Tryd.prog W 0 (fun _ => true) true 9 v d ps) :
    ∃ l : List By, v = .string ⟨l.toArray⟩ ∧ d = .lit (.string l) ∧ ps = [] ∧ l.length ≤ maxLen := by
  obtain ⟨s, rfl, rfl, rfl, hs⟩ := open_string Tryd.underlying9 hv h
  exact ⟨s.data.toList, rfl, rfl, rfl, by simpa using hs⟩
theorem shut_text {W : World} {base : Nat} {sp : Nat → Bool} {l : List By} (hl : l.length ≤ maxLen) : DataW.Trod enc Tryd.prog W base sp true 9 (.string ⟨l.toArray⟩) (.lit (.string l)) [] := by
  have := shut_string (enc := enc) (w := W) (base := base) (sp := sp) (held := true) Tryd.underlying9 (s := ⟨l.toArray⟩) (by simpa [ByteArray.size] using hl)
  simpa using this
end
end Go.Proofs.YthmenbccofhjfaaDoor
