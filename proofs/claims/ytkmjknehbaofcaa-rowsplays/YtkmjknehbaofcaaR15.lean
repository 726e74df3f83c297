/- The reference's tables: Get. -/
import Derived.Test.YtkmjknehbaofcaaR14
import Derived.Test.YtkmjknehbaofcaaR9
namespace Go.Proofs.Ytkmjknehbaofcaa
open Go.RowKit Go.Maps Go.WideShapes Go.MapKept Go.WideMaps Go.ChangeMaps BaseMath WireMath NameMath

/-- an item of the reference -/
abbrev It := List By × Int
def ItsAt (w : World) (A : Option Addr) (l : List It) : Prop := 0 < l.length → ∃ b o, A = some ⟨b, o, none⟩ ∧ ∀ i (h : i < l.length), w.cell? ⟨b, o + i * 2, none⟩ = some (vs l[i].1) ∧ w.cell? ⟨b, o + i * 2 + 1, none⟩ = some (.int .i64 l[i].2)
theorem ItsAt.below {w w' : World} {A : Option Addr} {l : List It} (h : ItsAt w A l) (hb : Below w.heap.size w w') : ItsAt w' A l := fun h0 => by
  obtain ⟨b, o, hA, hc⟩ := h h0
  refine ⟨b, o, hA, fun i hi => ?_⟩
  have hl : b < w.heap.size := block_of_cell (hc i hi).1
  have hh : ∀ q, w'.cell? ⟨b, q, none⟩ = w.cell? ⟨b, q, none⟩ := fun q => hb.cell (p := ⟨b, q, none⟩) hl
  rw [hh, hh]; exact hc i hi
/-- what the reference finds -/
def findR (l : List It) (k : List By) : Int × Bool := match l.find? (fun x => decide (x.1 = k)) with | some x => (x.2, true) | none => (0, false)
set_option maxHeartbeats 2000000 in
set_option maxRecDepth 100000 in
theorem rget_any (A : Option Addr) (c : Nat) (l : List It) (wv : Value) (k : List By) (w : World) (h : ItsAt w A l) (hl : l.length ≤ 100000) :
    Calls Try.prog 20 #[.agg #[.slice A l.length c, wv], vs k] w fun e w' => e = .returned (.tuple #[.int .i64 (findR l k).1, .bool (findR l k).2]) ∧ Below w.heap.size w w' := by
  have H := Lib.hid h; clear h
  have hb := Blk.new w 29 #[.slice A l.length c, wv]
  have c0 : (w.alloc (.cells #[.slice A l.length c, wv] 29)).cell? ⟨w.heap.size, 0, none⟩ = some (.slice A l.length c) := hb.cell 0
  have HB : Hid (Below w.heap.size w (w.alloc (.cells #[.slice A l.length c, wv] 29))) := (Below.refl _ _).alloc (Nat.le_refl _) _
  clear hb
  go_enter Try.func20, Try.ntmps20
  go_wp2_with fail
  go_loopw [6] (fun vi wr => ∃ i : Nat, i ≤ l.length ∧ vi = .int .i64 i ∧ w.alloc (.cells #[.slice A l.length c, wv] 29) = wr ∧ Hid (∀ j (hj : j < l.length), j < i → l[j].1 ≠ k)) (fun vi _ => l.length - (intOf vi).toNat)
  case atStart => exact ⟨0, Nat.zero_le _, rfl, rfl, fun j _ h => absurd h (by omega)⟩
  case round =>
    obtain ⟨i, hi, rfl, rfl, HR⟩ := hrel
    by_cases hlt : i < l.length
    · obtain ⟨b, o, rfl, hc⟩ := H.out.below HB.out (by omega)
      obtain ⟨k0, k1⟩ := hc i hlt
      by_cases he : l[i].1 = k
      · have HF : Hid (findR l k = (l[i].2, true)) := by
          show _ = _
          have hf : l.find? (fun x => decide (x.1 = k)) = some l[i] := by
            rw [List.find?_eq_some_iff_getElem]
            exact ⟨by simpa using he, i, hlt, rfl, fun j hj => by simpa using HR.out j (by omega) hj⟩
          unfold findR; rw [hf]
        rw [he] at k0
        have hb : (k == k) = true := by rw [list_beq]; exact decide_eq_true rfl
        generalize l[i].2 = x at *
        clear hc HR
        go_wp2_with fail
        go_ret2
        exact ⟨by rw [HF.out]; rfl, HB.out⟩
      · have HN : Hid (∀ j (hj : j < l.length), j < i + 1 → l[j].1 ≠ k) := fun j hj h => by
          by_cases e : j < i
          · exact HR.out j hj e
          · obtain rfl : j = i := by omega
            exact he
        generalize l[i].1 = y at *
        have hb : (y == k) = false := by rw [list_beq]; exact decide_eq_false he
        clear hc HR
        go_wp2_with fail
        go_roundw
        case rel => first | exact ⟨i + 1, by omega, by go_num, rfl, HN.out⟩ | exact ⟨i + 1, by omega, by go_num, trivial, HN.out⟩ | exact ⟨i + 1, by omega, by go_num, HN.out⟩
        case measure => simp [intOf]; omega
    · obtain rfl : i = l.length := by omega
      have HF : Hid (findR l k = (0, false)) := by
        show _ = _
        have hf : l.find? (fun x => decide (x.1 = k)) = none := by
          rw [List.find?_eq_none]
          intro x hx
          obtain ⟨j, hj, rfl⟩ := List.getElem_of_mem hx
          simpa using HR.out j hj hj
        unfold findR; rw [hf]
      clear HR
      go_wp2_with fail
      go_ret2
      exact ⟨by rw [HF.out]; rfl, HB.out⟩
end Go.Proofs.Ytkmjknehbaofcaa
