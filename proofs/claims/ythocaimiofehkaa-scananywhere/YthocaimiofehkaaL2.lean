/- The walk of NamePaths. -/
import Derived.Test.YthocaimiofehkaaN6
namespace Go.Proofs.Ythocaimiofehkaa
open Go.RowKit BaseMath WireMath NameMath

theorem path_title (p title : List By) (hp : p.length = 20) : pathB (text p ++ 45 :: title) = rightB title := by
  cases h : rightB title with
  | true => exact path_letters hp title h
  | false =>
    have hl : (text p).length = 32 := by rw [text_length, hp]; rfl
    have e2 : (text p ++ 45 :: title).drop 33 = title := by
      rw [show (33 : Nat) = (text p).length + 1 by omega, List.drop_append]; simp
    unfold pathB
    rw [e2, h]; simp
theorem cat2 (a b : List By) : ByteArray.mk a.toArray ++ ByteArray.mk b.toArray = ⟨(a ++ b).toArray⟩ := by
  apply ByteArray.ext
  simp [ByteArray.data_append]
/-- a text turned into bytes: cells that may be written -/
structure Free (w : World) (g : Nat) (s : List By) : Prop where
  at' : BytesAt w g 0 s
  free : ∀ j, j < s.length → w.frozen? ⟨g, j, none⟩ = false
theorem Free.set {w : World} {g : Nat} {s : List By} (h : Free w g s) (m : Nat) (c : By) : BytesAt (w.setCell ⟨g, m, none⟩ (vb c)) g 0 (s.set m c) := by
  intro k hk
  rw [List.length_set] at hk
  have h0 := h.at' k hk
  rw [Nat.zero_add] at h0 ⊢
  rw [List.getElem_set]
  by_cases e : m = k
  · subst e
    rw [World.cell?_setCell_same _ _ _ h0, if_pos rfl]
  · rw [World.cell?_setCell_other _ _ _ _ (by intro h; cases h; exact e rfl), h0, if_neg e]
theorem str_free (s : List By) (w : World) : ∃ c w2, (convert 9 26 (.string ⟨s.toArray⟩)).run Try.prog w = .ok (.slice (some ⟨w.heap.size, 0, none⟩) s.length c) w2 ∧ Free w2 w.heap.size s ∧ Below w.heap.size w w2 := by
  have h := run_bytes_of_string (P := Try.prog) w 9 26 5 ⟨s.toArray⟩ Try.underlying9 Try.underlying26 Try.underlying5
  have hs : (ByteArray.mk s.toArray).size = s.length := by simp [ByteArray.size]
  rw [hs] at h
  refine ⟨_, _, h, ⟨fun k hk => ?_, fun j hj => ?_⟩, (Below.refl _ _).drew.alloc (Nat.le_refl _) _⟩
  · rw [Nat.zero_add]
    have hc := World.cell?_alloc_mark w.drew (bytesRow ⟨s.toArray⟩ (grownCap w s.length 0 5)) 5 ((bytesRow ⟨s.toArray⟩ (grownCap w s.length 0 5)).size, (bytesRow ⟨s.toArray⟩ (grownCap w s.length 0 5)).size + 1) k
    refine Eq.trans hc ?_
    rw [bytesRow_at _ _ _ (by simpa using hk)]
    simp
  · have hf := World.frozen?_alloc_mark w.drew (bytesRow ⟨s.toArray⟩ (grownCap w s.length 0 5)) 5 (bytesRow ⟨s.toArray⟩ (grownCap w s.length 0 5)).size ((bytesRow ⟨s.toArray⟩ (grownCap w s.length 0 5)).size + 1) j
    refine Eq.trans hf ?_
    have hj' : j < (bytesRow ⟨s.toArray⟩ (grownCap w s.length 0 5)).size := by
      have h0 := bytesRow_at ⟨s.toArray⟩ (grownCap w s.length 0 5) j (by simpa using hj)
      exact (Array.getElem?_eq_some_iff.1 h0).1
    simp; omega
theorem make_n (t : Value) (A : Option Addr) (ca : Nat) (arch : List By) (ha : arch.length ≤ 1000) (hNA : A = none → ca = 0) (w : World) (ht : Hs.HasherIs w t) (hA : SrcIs w A arch) :
    Calls Try.prog 22 #[t, .string ⟨#[110]⟩, .slice A arch.length ca, .slice none 0 0] w fun e w' => e = .returned (.tuple #[vs (pathOf [110] arch []), .int .i64 0]) ∧ Below w.heap.size w w' := by
  have hl : (laidB (sumU arch) [] [110]).length ≤ 1000 := by
    unfold laidB textB textsB
    simp [numB_length, sumU_length]
  exact rmake_yes t [110] A ca arch none 0 [] (by decide) ⟨by simp, fun k h => by simp at h, List.Pairwise.nil⟩ ha hNA hl w ht hA (fun h => by simp at h)
end Go.Proofs.Ythocaimiofehkaa
