/- The digests of hash over this seat's bytes: the contracts of Sum and Short, the program's. -/
import Derived.Test.YthocaimiofehkaaW4
import Derived.Test.YthocaimiofehkaaHW9
namespace Go.Proofs.Ythocaimiofehkaa
open Go.RowKit BaseMath WireMath

def hb (p : List By) : List (BitVec 8) := p.map UInt8.toBitVec
def bh (p : List (BitVec 8)) : List By := p.map UInt8.ofBitVec
theorem hb_length (p : List By) : (hb p).length = p.length := by simp [hb]
theorem bh_length (p : List (BitVec 8)) : (bh p).length = p.length := by simp [bh]
/-- the sum, and the folded one, of this seat's bytes -/
def sumU (p : List By) : List By := bh (HashMath.sum (hb p))
def shortU (p : List By) : List By := bh (HashMath.short (hb p))
theorem sumU_length (p : List By) : (sumU p).length = 32 := by unfold sumU; rw [bh_length, HashMath.sum_length]
theorem shortU_length (p : List By) : (shortU p).length = 20 := by unfold shortU; rw [bh_length, Hs.short_length]
theorem src_hb {w : World} {A : Option Addr} {p : List By} (h : SrcIs w A p) : Hs.SrcIs w A (hb p) := fun h0 => by
  obtain ⟨b, o, rfl, hc⟩ := h (by rwa [hb_length] at h0)
  refine ⟨b, o, rfl, fun k hk => ?_⟩
  rw [hc k (by rwa [hb_length] at hk)]
  simp only [hb, List.getElem_map]
  rfl
theorem bh_map (l : List (BitVec 8)) : l.map Hs.vb = (bh l).map vb := by
  simp only [bh, List.map_map]; rfl
/-- a new slice of bytes -/
def NewU (w : World) (l : List By) (e : Ending) (w' : World) : Prop :=
  ∃ A c, e = .returned (.slice A l.length c) ∧ SrcIs w' A l ∧ (A = none → c = 0) ∧ l.length ≤ c ∧ Below w.heap.size w w'
theorem newU_of {w w' : World} {l : List (BitVec 8)} {e : Ending} (h : Hs.NewB w l e w') : NewU w (bh l) e w' := by
  obtain ⟨g, cap, tl, rfl, hg, hb, hl, hbe⟩ := h
  refine ⟨some ⟨g, 0, none⟩, cap, by rw [bh_length], ?_, (fun h => by cases h), by rw [bh_length]; exact hl, hbe⟩
  rw [bh_map] at hb
  exact bytes_src (Blk.bytes hb)
theorem newU_row {w w' : World} {l : List By} {v : Value} (h : RowRel w 5 (l.map vb) v w') : NewU w l (.returned v) w' := by
  obtain ⟨A, c, rfl, hs, hn, hl, _⟩ := h.src
  exact ⟨A, c, rfl, hs, hn, hl, h.below⟩
end Go.Proofs.Ythocaimiofehkaa
