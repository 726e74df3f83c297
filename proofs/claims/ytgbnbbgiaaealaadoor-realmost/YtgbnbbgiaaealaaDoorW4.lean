/- The contract of hex: sixteen digits of base 16. -/
import Derived.Test.YtgbnbbgiaaealaaDoorW3
import Derived.Test.YtgbnbbgiaaealaaDoorShelf
namespace Go.Proofs.YtgbnbbgiaaealaaDoor
open Go.RowKit RealMath Go.Sort

/-- what FormatUint answers at base 16 -/
def FuPost (u : Nat) (w : World) (e : Ending) (w' : World) : Prop := ∃ l, HexStr u l ∧ e = .returned (.string ⟨l.toArray⟩) ∧ Below w.heap.size w w'

set_option maxHeartbeats 400000 in
theorem ifu_16 (u : Nat) (hu : u < 18446744073709551616) (w : World) (h3 : 3 < w.heap.size) (h : w.cell? ⟨3, 15, none⟩ = some (.int .u8 4)) :
    Calls Tryd.prog 48 #[.int .u64 u, .int .i64 16] w fun e w' => FuPost u w e w' := by
  go_enter Tryd.func48, Tryd.ntmps48
  go_wp2_with (go_at_call 47; refine (fbits_16 u hu w h3 h).mono ?_; rintro e w' ⟨l, hl, rfl, hb⟩)
  go_ret
  exact ⟨l, hl, rfl, hb⟩
set_option maxHeartbeats 400000 in
theorem fu_16 (u : Nat) (hu : u < 18446744073709551616) (w : World) (h3 : 3 < w.heap.size) (h : w.cell? ⟨3, 15, none⟩ = some (.int .u8 4)) :
    Calls Tryd.prog 40 #[.int .u64 u, .int .i64 16] w fun e w' => FuPost u w e w' := by
  go_enter Tryd.func40, Tryd.ntmps40
  go_wp2_with (go_at_call 48; refine (ifu_16 u hu w h3 h).mono ?_; rintro e w' ⟨l, hl, rfl, hb⟩)
  go_ret
  exact ⟨l, hl, rfl, hb⟩

theorem cat_eq (a b : List UInt8) : (⟨a.toArray⟩ ++ ⟨b.toArray⟩ : ByteArray) = ⟨(a ++ b).toArray⟩ := by
  apply ByteArray.ext
  simp
theorem rep48 (n : Nat) : Lib.repeatL [48] n = List.replicate n 48 := by
  induction n with
  | zero => rfl
  | succ n ih => rw [Lib.repeatL, ih]; rfl
set_option maxHeartbeats 400000 in
theorem hex_any (u : Nat) (hu : u < 18446744073709551616) (w : World) (h3 : 3 < w.heap.size) (h : w.cell? ⟨3, 15, none⟩ = some (.int .u8 4)) :
    Calls Tryd.prog 34 #[.int .u64 u] w fun e w' => e = .returned (.string ⟨(hexL 16 u).toArray⟩) ∧ Below w.heap.size w w' := by
  go_enter Tryd.func34, Tryd.ntmps34
  go_wp2_with (go_at_call 40; refine (fu_16 u hu w h3 h).mono ?_; rintro e w1 ⟨l, hl, rfl, hb⟩; have h1 := hl.lo; have h2 := hl.hi)
  rw [show (16 - (l.length : Int)) = ((16 - l.length : Nat) : Int) by omega]
  refine (Tryd.strings_Repeat ⟨#[48]⟩ (16 - l.length) _ (by omega) (by show 1 * _ ≤ _; omega)).mono ?_
  rintro e w2 ⟨rfl, hb2⟩
  have he := hl.eq
  have hr := rep48 (16 - l.length)
  have HE : Hid ((Lib.repeatL [48] (16 - l.length) ++ l) = hexL 16 u) := by show _ = _; rw [hr]; exact he
  have hlen : (Lib.repeatL [48] (16 - l.length)).length + l.length ≤ 100 := by rw [hr, List.length_replicate]; omega
  clear he hr hl
  generalize Lib.repeatL [48] (16 - l.length) = r at *
  go_wp2
  go_ret
  refine ⟨?_, hb.trans (hb2.mono hb.size)⟩
  rw [← HE.out]
  exact congrArg (fun a => Ending.returned (Value.string a)) (cat_eq r l)
end Go.Proofs.YtgbnbbgiaaealaaDoor
