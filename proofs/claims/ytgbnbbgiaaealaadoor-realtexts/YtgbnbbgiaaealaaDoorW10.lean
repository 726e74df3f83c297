/- The contracts of the reference's digits: of base 16, and of base 10. -/
import Derived.Test.YtgbnbbgiaaealaaDoorW4
import Derived.Deep.RegionWith
namespace Go.Proofs.YtgbnbbgiaaealaaDoor
open Go.RowKit RealMath

theorem bcell {W w1 : World} (hb : Below W.heap.size W w1) : (∀ b o, b < W.heap.size → w1.cell? ⟨b, o, none⟩ = W.cell? ⟨b, o, none⟩) :=
  fun _ _ h => hb.cell (p := ⟨_, _, none⟩) h

/-- one byte as a text, wherever it lies -/
theorem conv1_at (W : World) (g cap : Nat) (c : UInt8) (h : W.cell? ⟨g, 0, none⟩ = some (.int .u8 (c.toNat : Int))) :
    (convert 49 9 (.slice (some ⟨g, 0, none⟩) 1 cap)).run Tryd.prog W = .ok (.string ⟨#[c]⟩) W :=
  run_convert_bytes_back (P := Tryd.prog) W 49 9 5 ⟨g, 0, none⟩ cap [c] Tryd.underlying49 Tryd.underlying5 Tryd.underlying9 (fun j hj => by
    match j, hj with
    | 0, _ => exact h)
theorem conv1 (W : World) (c : UInt8) :
    (convert 49 9 (.slice (some ⟨W.heap.size, 0, none⟩) 1 1)).run Tryd.prog (W.alloc (.cells #[.int .u8 (c.toNat : Int)] 5)) = .ok (.string ⟨#[c]⟩) (W.alloc (.cells #[.int .u8 (c.toNat : Int)] 5)) :=
  conv1_at _ _ _ c (by rw [World.cell?_alloc_new]; rfl)

set_option maxHeartbeats 800000 in
set_option maxRecDepth 100000 in
theorem digits_any (u : Nat) (hu : u < 18446744073709551616) (w : World) :
    Calls Tryd.prog 35 #[.int .u64 u] w fun e w' => e = .returned (.string ⟨(hexL 16 u).toArray⟩) ∧ Below w.heap.size w w' := by
  go_enter Tryd.func35, Tryd.ntmps35
  go_wp2
  go_loopw [0, 4, 5] (fun vb vs vi wr => ∃ (k v : Nat) (l : List UInt8), k ≤ 16 ∧ vb = .int .u64 v ∧ vs = .string ⟨l.toArray⟩ ∧ vi = .int .i64 k ∧ Hid (l = hexL k u) ∧ Hid (v = u / 16 ^ k) ∧ Hid (Below w.heap.size w wr)) (fun _ _ vi _ => 16 - (intOf vi).toNat)
  case atStart => exact ⟨0, u, [], Nat.zero_le _, rfl, rfl, rfl, rfl, by show u = _; simp, Below.refl _ _⟩
  case round =>
    obtain ⟨k, v, l, hk, rfl, rfl, rfl, HL, HV, HB⟩ := hrel
    rename World => W0
    have hv : v < 18446744073709551616 := by rw [HV.out]; exact Nat.lt_of_le_of_lt (Nat.div_le_self _ _) hu
    have hll : l.length ≤ 16 := by rw [HL.out, hexL_length]; exact hk
    by_cases hlt : k < 16
    · have hd16 : v % 16 < 16 := by omega
      have hlet := let_eq (v % 16) hd16
      have HC := Lib.hid (hexL_cons k u)
      have hcv := conv1 W0 (hd (v % 16))
      have HV2 : Hid (v / 16 = u / 16 ^ (k + 1)) := by show _ = _; rw [HV.out, Nat.div_div_eq_div_mul, Nat.pow_succ]
      have HL2 : Hid (hd (v % 16) :: l = hexL (k + 1) u) := by show _ = _; rw [HC.out, HV.out, HL.out]
      generalize hd (v % 16) = c at *
      clear HC
      go_wp2
      go_roundw
      case rel => exact ⟨k + 1, v / 16, c :: l, hlt, by go_num, rfl, by go_num, HL2.out, HV2.out, HB.out.alloc HB.out.size _⟩
      case measure => simp [intOf]; omega
    · obtain rfl : k = 16 := by omega
      go_wp2
      go_ret
      exact ⟨by rw [← HL.out]; rfl, HB.out⟩
end Go.Proofs.YtgbnbbgiaaealaaDoor
