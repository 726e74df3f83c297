/- The contract of Sum. -/
import Derived.Test.YtgbnbbgiaaealaaDoorW1
import Derived.Test.YtgbnbbgiaaealaaDoorSums
namespace Go.Proofs.YtgbnbbgiaaealaaDoor
open Go.RowKit RealMath

/-- an addition: what it gives, what it draws -/
theorem run_fadd (t : TypeId) (x y : Nat) (w : World) :
    ∃ r m, (binOp .add t (.float .f64 x) (.float .f64 y)).run Tryd.prog w = .ok (.float .f64 r) (w.drewN m) ∧ r < 18446744073709551616 ∧ (∀ q, Ieee.double.add x y = some q → r = q) ∧ (Ieee.double.add x y = none → isNan r = true) := by
  cases h : Ieee.double.add x y with
  | some q =>
    have hf : floatBits .add .f64 x y = some q := h
    have hlt : q < 2 ^ 64 := Ieee.Format.add_lt Ieee.double h
    exact ⟨q, 0, run_float_arith w .add t .f64 x y q hf, hlt, fun r hr => by cases hr; rfl, fun hr => by cases hr⟩
  | none =>
    have hf : FloatKind.f64.format.add x y = none := h
    obtain ⟨h1, h2⟩ := nan_word (w.tape w.drawn (.nanBits .f64 x y))
    refine ⟨_, 1, ?_, h2, (fun q hq => by cases hq), fun _ => h1⟩
    simp [binOp, Op.floatArith, hf, Question.forced, Question.cut]
    rfl

/-- what Sum answers -/
def SumPost (bs : List Nat) (w : World) (e : Ending) (w' : World) : Prop := e = .returned (.float .f64 (canonO (sumO bs))) ∧ ∃ m, w' = w.drewN m

set_option maxHeartbeats 800000 in
theorem sum_any (bs : List Nat) (blk off cap : Nat) (w : World) (hlen : bs.length ≤ 1000000)
    (hc : ∀ i (h : i < bs.length), w.cell? ⟨blk, off + i, none⟩ = some (.float .f64 bs[i])) :
    Calls Tryd.prog 23 #[.slice (some ⟨blk, off, none⟩) bs.length cap] w fun e w' => SumPost bs w e w' := by
  have HC := Lib.hid hc; clear hc
  go_enter Tryd.func23, Tryd.ntmps23
  go_wp2
  go_loopw [3, 8] (fun vs vi wr => ∃ (k s m : Nat), vs = .float .f64 s ∧ vi = .int .i64 k ∧ k ≤ bs.length ∧ Hid (wr = w.drewN m) ∧ Hid (AccIs (sumO (bs.take k)) s)) (fun _ vi _ => bs.length - (intOf vi).toNat)
  case atStart => exact ⟨0, 0, 0, rfl, rfl, Nat.zero_le _, rfl, acc_start⟩
  case round =>
    obtain ⟨k, s, m, rfl, rfl, hk, HW, HA⟩ := hrel
    rename World => W0
    have hs := HA.out.1
    by_cases hlt : k < bs.length
    · have hcell : W0.cell? ⟨blk, off + k, none⟩ = some (.float .f64 bs[k]) := by rw [HW.out]; exact HC.out k hlt
      have hsn : sumO (bs.take (k + 1)) = addO (sumO (bs.take k)) bs[k] := by rw [List.take_succ_eq_append_getElem hlt, sumO_snoc]
      have HS := Lib.hid hsn; clear hsn
      generalize bs[k] = b at *
      obtain ⟨r, q, hrun, hr, h1, h2⟩ := run_fadd 23 s b W0
      have HR := Lib.hid (HA.out.step h1 h2 hr)
      clear h1 h2 hs
      go_wp2
      refine ⟨⟨k + 1, r, m + q, rfl, by go_num, hlt, ?_, ?_⟩, by simp [intOf]; omega⟩
      · show _ = _
        rw [HW.out]
        show (w.drewN m).drewN q = _
        simp [World.drewN, Nat.add_assoc]
      · show AccIs _ _
        rw [HS.out]; exact HR.out
    · obtain rfl : k = bs.length := by omega
      rw [List.take_length] at HA
      go_wp2_with (go_at_call 11; refine (canon_any s hs _).mono ?_; rintro e w' ⟨rfl, rfl⟩)
      go_ret
      exact ⟨by rw [← HA.out.canon]; rfl, m, HW.out⟩

set_option maxHeartbeats 400000 in
theorem sum_nil (a : Option Addr) (cap : Nat) (w : World) :
    Calls Tryd.prog 23 #[.slice a 0 cap] w fun e w' => e = .returned (.float .f64 0) ∧ w = w' := by
  go_enter Tryd.func23, Tryd.ntmps23
  go_wp2
  go_loop [3, 8] (fun vs vi => vs = .float .f64 0 ∧ vi = .int .i64 0) (fun _ _ => 0)
  case atStart => exact ⟨rfl, rfl⟩
  case round =>
    obtain ⟨rfl, rfl⟩ := hrel
    go_wp2_with (go_at_call 11; refine (canon_any 0 (by decide) _).mono ?_; rintro e w' ⟨rfl, rfl⟩)
    go_ret
    exact ⟨by rw [show canonB 0 = 0 by decide]; rfl, rfl⟩
end Go.Proofs.YtgbnbbgiaaealaaDoor
