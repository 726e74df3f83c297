/- The document's examples of base, and the walks of BaseLens, BaseLetters, BaseTurned. -/
import Derived.Test.YthocaimiofehkaaB6
namespace Go.Proofs.Ythocaimiofehkaa
open Go.RowKit BaseMath

theorem bytes_good (s : List By) (hs : s.length ≤ 100000) (h : good s = true) (w : World) :
    Calls Try.prog 38 #[.string ⟨s.toArray⟩] w fun e w' => ∃ v, e = .returned (.tuple #[v, .int .i64 0]) ∧ RowRel w 5 ((dec s).map vb) v w' :=
  (bytes_any s hs w).mono fun e w' hp => by
    rcases hp with ⟨_, hp⟩ | ⟨h2, _⟩
    · exact hp
    · rw [h] at h2; cases h2
theorem bytes_bad (s : List By) (hs : s.length ≤ 100000) (h : good s = false) (w : World) :
    Calls Try.prog 38 #[.string ⟨s.toArray⟩] w fun e w' => e = .returned (.tuple #[.slice none 0 0, .int .i64 2]) ∧ Below w.heap.size w w' :=
  (bytes_any s hs w).mono fun e w' hp => by
    rcases hp with ⟨h2, _⟩ | ⟨_, hp⟩
    · rw [h] at h2; cases h2
    · exact hp
theorem refbytes_good (s : List By) (hs : s.length ≤ 100000) (h : good s = true) (w : World) :
    Calls Try.prog 41 #[.string ⟨s.toArray⟩] w fun e w' => ∃ v, e = .returned (.tuple #[v, .int .i64 0]) ∧ RowRel w 5 ((dec s).map vb) v w' :=
  (refbytes_any s hs w).mono fun e w' hp => by
    rcases hp with ⟨_, hp⟩ | ⟨h2, _⟩
    · exact hp
    · rw [h] at h2; cases h2
theorem refbytes_bad (s : List By) (hs : s.length ≤ 100000) (h : good s = false) (w : World) :
    Calls Try.prog 41 #[.string ⟨s.toArray⟩] w fun e w' => e = .returned (.tuple #[.slice none 0 0, .int .i64 2]) ∧ Below w.heap.size w w' :=
  (refbytes_any s hs w).mono fun e w' hp => by
    rcases hp with ⟨h2, _⟩ | ⟨_, hp⟩
    · rw [h] at h2; cases h2
    · exact hp
theorem one_src (w : World) (x : By) : SrcIs (w.alloc (.cells #[vb x] 5)) (some ⟨w.heap.size, 0, none⟩) [x] :=
  bytes_src (Blk.bytes (l := [x]) (tl := []) (Blk.new w 5 #[vb x]))
end Go.Proofs.Ythocaimiofehkaa
