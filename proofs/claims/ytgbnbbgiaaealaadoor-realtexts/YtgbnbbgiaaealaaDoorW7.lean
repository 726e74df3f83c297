/- The contract of noughts: the document's example holds. -/
import Derived.Test.YtgbnbbgiaaealaaDoorW5
import Derived.Test.YtgbnbbgiaaealaaDoorW6
namespace Go.Proofs.YtgbnbbgiaaealaaDoor
open Go.RowKit RealMath

theorem ex_sum : canonO (sumO [9218868437227405312, 18442240474082181120]) = NAN := by decide +kernel
theorem ex_text : (48 :: 120 :: hexL 16 (canonB 4609434218613702656)) = [48, 120, 51, 102, 102, 56, 48, 48, 48, 48, 48, 48, 48, 48, 48, 48, 48, 48] := by decide +kernel

theorem ex_sums (w : World) : Calls Tryd.prog 23 #[.slice (some ⟨w.heap.size, 0, none⟩) 2 2] (w.alloc (.cells #[.float .f64 9218868437227405312, .float .f64 18442240474082181120] 23)) fun e w' => e = .returned (.float .f64 9221120237041090561) ∧ Below w.heap.size w w' := by
  refine (sum_any [9218868437227405312, 18442240474082181120] w.heap.size 0 2 (w.alloc (.cells #[.float .f64 9218868437227405312, .float .f64 18442240474082181120] 23)) (by decide) ?_).mono ?_
  · intro i hi
    rw [Nat.zero_add, World.cell?_alloc_new]
    match i, hi with
    | 0, _ => rfl
    | 1, _ => rfl
  · rintro e w' ⟨rfl, m, rfl⟩
    exact ⟨by rw [ex_sum]; rfl, below_drewN ((Below.refl _ _).alloc (Nat.le_refl _) _) m⟩
theorem ex_bits (w : World) : Calls Tryd.prog 15 #[.float .f64 9223372036854775808] w fun e w' => e = .returned (.int .u64 0) ∧ w = w' :=
  (bits_any 9223372036854775808 (by decide) w).mono fun _ _ ⟨he, hw⟩ => ⟨by rw [he, show canonB 9223372036854775808 = 0 by decide]; rfl, hw⟩
theorem ex_texts (w : World) (ht : Tab w) : Calls Tryd.prog 24 #[.float .f64 4609434218613702656] w fun e w' => e = .returned (.string ⟨#[48, 120, 51, 102, 102, 56, 48, 48, 48, 48, 48, 48, 48, 48, 48, 48, 48, 48]⟩) ∧ Below w.heap.size w w' :=
  (text_hex 4609434218613702656 (by decide) (by decide) (by decide) (by decide) (by decide +kernel) w ht).mono fun _ _ ⟨he, hw⟩ => ⟨by rw [he, ex_text], hw⟩

set_option maxHeartbeats 800000 in
theorem noughts_any (w : World) (ht : Tab w) :
    Calls Tryd.prog 12 #[] w fun e w' => e = .returned (.bool true) ∧ Below w.heap.size w w' := by
  have hn : (FloatKind.f64.format.order 9221120237041090561 9221120237041090561 != some Ordering.eq) = true := ne_self 9221120237041090561 (by decide)
  go_enter Tryd.func12, Tryd.ntmps12
  go_wp2_with fail
  refine (ex_sums w).mono ?_
  rintro e w1 ⟨rfl, hb1⟩
  go_wp2_with fail
  refine (ex_bits w1).mono ?_
  rintro e w' ⟨rfl, rfl⟩
  go_wp2_with fail
  refine (ex_texts w1 (ht.below hb1)).mono ?_
  rintro e w2 ⟨rfl, hb2⟩
  go_wp2
  go_ret
  exact ⟨rfl, hb1.trans (hb2.mono hb1.size)⟩
end Go.Proofs.YtgbnbbgiaaealaaDoor
