/- The contracts of IsInf, Trunc, isShortWhole, and of Text where it tells the bits. -/
import Derived.Test.YtgbnbbgiaaealaaDoorW1
import Derived.Test.YtgbnbbgiaaealaaDoorW4
import Derived.BigGuard
namespace Go.Proofs.YtgbnbbgiaaealaaDoor
open Go.RowKit RealMath

theorem run_trunc (b : Nat) (h : isNan b = false) (w : World) : (callFunc 42 #[.float .f64 b]).run Tryd.prog w = .ok (.value (.float .f64 (truncB b))) w := by
  rw [run_callFunc_extern Tryd.func42 (by kernel_rfl) (by kernel_rfl) (by kernel_rfl) (e := Extern.MathFloor.toIntegral "math.archTrunc" .zero) (by kernel_rfl)]
  have hr : ∀ s t, FloatKind.f64.decode b ≠ .nan s t := by
    intro s t hc
    have hn : ¬ INF < b % SW := by intro hx; have := (isNan_iff b).2 hx; rw [h] at this; cases this
    have hc' : Ieee.double.read b = .nan s t := hc
    by_cases hi : b % SW = INF
    · rw [read_inf b hi] at hc'; cases hc'
    · rw [read_num b (by omega)] at hc'; cases hc'
  change ((match FloatKind.f64.decode b with | .nan s t => _ | d => pure (Value.float .f64 (FloatKind.f64.encode (d.integral .zero))) : Sem Value).run _ _).andThen _ = _
  unfold truncB
  cases hd : FloatKind.f64.decode b with
  | nan s t => exact absurd hd (hr s t)
  | number s m e =>
    have hd' : Ieee.double.read b = .number s m e := hd
    rw [hd']; rfl
  | infinity s =>
    have hd' : Ieee.double.read b = .infinity s := hd
    rw [hd']; rfl

theorem unary_negf (b : Nat) (hb : b < 18446744073709551616) : Op.unary .neg (.float .f64 b) = pure (.float .f64 (negB b)) := by
  show (pure (.float .f64 (Op.negFloat .f64 b)) : Sem Value) = _
  rw [show Op.negFloat .f64 b = negB b from neg_xor b hb]

set_option maxHeartbeats 400000 in
theorem trunc_any (b : Nat) (h : isNan b = false) (w : World) :
    Calls Tryd.prog 38 #[.float .f64 b] w fun e w' => e = .returned (.float .f64 (truncB b)) ∧ w = w' := by
  have hr := run_trunc b h
  clear h
  go_enter Tryd.func38, Tryd.ntmps38
  go_wp2
  go_ret
  exact ⟨rfl, rfl⟩

set_option maxHeartbeats 400000 in
theorem isinf_pos (b : Nat) (hb : b < 18446744073709551616) (w : World) :
    Calls Tryd.prog 31 #[.float .f64 b, .int .i64 1] w fun e w' => e = .returned (.bool (decide (b = INF))) ∧ w = w' := by
  rw [← gt_max b hb]
  clear hb
  go_enter Tryd.func31, Tryd.ntmps31
  go_wp2
  go_ret
  exact ⟨rfl, rfl⟩
set_option maxHeartbeats 400000 in
theorem isinf_neg (b : Nat) (hb : b < 18446744073709551616) (w : World) :
    Calls Tryd.prog 31 #[.float .f64 b, .int .i64 (-1)] w fun e w' => e = .returned (.bool (decide (b = NINF))) ∧ w = w' := by
  rw [← negB_inf b hb, ← gt_max _ (negB_lt b hb)]
  have hn := unary_negf b hb
  clear hb
  go_enter Tryd.func31, Tryd.ntmps31
  go_wp2
  go_ret
  exact ⟨rfl, rfl⟩

theorem or_cases {x y : Bool} (h : (x || y) = true) : x = true ∨ (x = false ∧ y = true) := by cases x <;> simp_all

set_option maxHeartbeats 400000 in
theorem short_no1 (b : Nat) (h : geLo b = false) (w : World) :
    Calls Tryd.prog 32 #[.float .f64 b] w fun e w' => e = .returned (.bool false) ∧ w = w' := by
  unfold geLo at h
  have h1 : (FloatKind.f64.format.order 14069245235905429504 b == some Ordering.lt) = false := by rw [Bool.or_eq_false_iff] at h; exact h.1
  have h2 : (FloatKind.f64.format.order 14069245235905429504 b == some Ordering.eq) = false := by rw [Bool.or_eq_false_iff] at h; exact h.2
  clear h
  go_enter Tryd.func32, Tryd.ntmps32
  go_wp2
  go_ret
  exact ⟨rfl, rfl⟩
set_option maxHeartbeats 400000 in
theorem short_no2 (b : Nat) (h : geLo b = true) (h' : leHi b = false) (w : World) :
    Calls Tryd.prog 32 #[.float .f64 b] w fun e w' => e = .returned (.bool false) ∧ w = w' := by
  unfold leHi at h'
  have h1 : (FloatKind.f64.format.order b 4845873199050653696 == some Ordering.lt) = false := by rw [Bool.or_eq_false_iff] at h'; exact h'.1
  have h2 : (FloatKind.f64.format.order b 4845873199050653696 == some Ordering.eq) = false := by rw [Bool.or_eq_false_iff] at h'; exact h'.2
  have g : (FloatKind.f64.format.order 14069245235905429504 b == some Ordering.lt) = true ∨ ((FloatKind.f64.format.order 14069245235905429504 b == some Ordering.lt) = false ∧ (FloatKind.f64.format.order 14069245235905429504 b == some Ordering.eq) = true) := or_cases h
  clear h h'
  rcases g with g | ⟨g, g2⟩
  all_goals
    go_enter Tryd.func32, Tryd.ntmps32
    go_wp2
    go_ret
    exact ⟨rfl, rfl⟩
set_option maxHeartbeats 800000 in
theorem short_go (b : Nat) (hb : b < 18446744073709551616) (h : geLo b = true) (h' : leHi b = true) (w : World) :
    Calls Tryd.prog 32 #[.float .f64 b] w fun e w' => e = .returned (.bool (isWhole b)) ∧ w = w' := by
  have HN := Lib.hid (geLo_nan b hb h)
  have g : (FloatKind.f64.format.order 14069245235905429504 b == some Ordering.lt) = true ∨ ((FloatKind.f64.format.order 14069245235905429504 b == some Ordering.lt) = false ∧ (FloatKind.f64.format.order 14069245235905429504 b == some Ordering.eq) = true) := or_cases h
  have k : (FloatKind.f64.format.order b 4845873199050653696 == some Ordering.lt) = true ∨ ((FloatKind.f64.format.order b 4845873199050653696 == some Ordering.lt) = false ∧ (FloatKind.f64.format.order b 4845873199050653696 == some Ordering.eq) = true) := or_cases h'
  clear h h' hb
  rcases g with g | ⟨g, g2⟩ <;> rcases k with k | ⟨k, k2⟩
  all_goals
    go_enter Tryd.func32, Tryd.ntmps32
    go_wp2_with (go_at_call 38; refine (trunc_any b HN.out _).mono ?_; rintro e w' ⟨rfl, rfl⟩)
    go_ret
    exact ⟨rfl, rfl⟩
theorem short_any (b : Nat) (hb : b < 18446744073709551616) (w : World) :
    Calls Tryd.prog 32 #[.float .f64 b] w fun e w' => e = .returned (.bool (shortB b)) ∧ w = w' := by
  unfold shortB
  cases h : geLo b
  · exact short_no1 b h w
  · cases h' : leHi b
    · exact short_no2 b h h' w
    · exact short_go b hb h h' w

/-- the facts of a world that Text leans on -/
structure Tab (w : World) : Prop where
  big : 3 < w.heap.size
  cell : w.cell? ⟨3, 15, none⟩ = some (.int .u8 4)

theorem Tab.below {w w' : World} (h : Tab w) (hb : Below w.heap.size w w') : Tab w' :=
  ⟨by have := hb.size; have := h.big; omega, by rw [hb.cell (p := ⟨3, 15, none⟩) h.big]; exact h.cell⟩

set_option maxHeartbeats 800000 in
theorem text_hex (b : Nat) (hb : b < 18446744073709551616) (h1 : isNan b = false) (h2 : b ≠ INF) (h3 : b ≠ NINF) (h4 : shortB b = false) (w : World) (ht : Tab w) :
    Calls Tryd.prog 24 #[.float .f64 b] w fun e w' => e = .returned (.string ⟨(48 :: 120 :: hexL 16 (canonB b)).toArray⟩) ∧ Below w.heap.size w w' := by
  have c1 := isnan_no b hb h1
  have c2 := isinf_pos b hb
  have c3 := isinf_neg b hb
  have c4 := short_any b hb
  rw [show decide (b = INF) = false by simp [h2]] at c2
  rw [show decide (b = NINF) = false by simp [h3]] at c3
  rw [h4] at c4
  have hc := canonB_lt b hb
  have C1 := Lib.hid c1; have C2 := Lib.hid c2; have C3 := Lib.hid c3; have C4 := Lib.hid c4; have C5 := Lib.hid (bits_any b hb)
  clear c1 c2 c3 c4 h1 h2 h3 h4 hb
  have hlen := hexL_length 16 (canonB b)
  have HL := Lib.hid hlen; clear hlen
  have CH := Lib.hid (hex_any (canonB b) hc w ht.big ht.cell)
  generalize hexL 16 (canonB b) = l at *
  have hll : l.length ≤ 16 := by rw [HL.out]; omega
  go_enter Tryd.func24, Tryd.ntmps24
  go_wp2_with fail
  refine (C1.out _).mono ?_
  rintro e w' ⟨rfl, rfl⟩
  go_wp2_with fail
  refine (C2.out _).mono ?_
  rintro e w' ⟨rfl, rfl⟩
  go_wp2_with fail
  refine (C3.out _).mono ?_
  rintro e w' ⟨rfl, rfl⟩
  go_wp2_with fail
  refine (C4.out _).mono ?_
  rintro e w' ⟨rfl, rfl⟩
  go_wp2_with fail
  refine (C5.out _).mono ?_
  rintro e w' ⟨rfl, rfl⟩
  go_wp2_with fail
  refine CH.out.mono ?_
  rintro e w1 ⟨rfl, hb1⟩
  go_wp2
  go_ret
  exact ⟨rfl, hb1⟩
end Go.Proofs.YtgbnbbgiaaealaaDoor
