/- Replies in memory; the contracts of Same, the program's and the reference's. -/
import Derived.Test.YtghbabnekalgpaaDoorG1
import Derived.Test.YtghbabnekalgpaaDoorG2
namespace Go.Proofs.YtghbabnekalgpaaDoor
open Go.RowKit BaseMath WireMath RealMath

structure RepV where
  e : Int
  is : Bool
  n : Int
  stamp : Nat
  sum : List By
  paths : List (List By)
def RepIs (w : World) (v : Value) (x : RepV) : Prop := ∃ A ca R cr, v = .agg #[.int .i64 x.e, .bool x.is, .int .i64 x.n, .float .f64 x.stamp, .slice A x.sum.length ca, .slice R x.paths.length cr] ∧ SrcIs w A x.sum ∧ StrsIs w R x.paths
theorem StrsIs.belowW {w w' : World} {A : Option Addr} {ls : List (List By)} (h : StrsIs w A ls) (hb : Below w.heap.size w w') : StrsIs w' A ls := h.below hb (fun h0 a ha => h.lt h0 a ha)
theorem RepIs.below {w w' : World} {v : Value} {x : RepV} (h : RepIs w v x) (hb : Below w.heap.size w w') : RepIs w' v x := by
  obtain ⟨A, ca, R, cr, he, h1, h2⟩ := h
  exact ⟨A, ca, R, cr, he, h1.below hb, h2.belowW hb⟩
def RepV.small (x : RepV) : Prop := x.sum.length ≤ 100000 ∧ x.paths.length ≤ 100000 ∧ x.stamp < 18446744073709551616
def sameR (x y : RepV) : Bool := (x.e == y.e) && (x.is == y.is) && (x.n == y.n) && decide (canonB x.stamp = canonB y.stamp) && decide (x.sum = y.sum) && decide (x.paths = y.paths)
theorem sameR_none (a b c d e f : Bool) (h : a = false ∨ b = false ∨ c = false ∨ d = false ∨ e = false ∨ f = false) : (a && b && c && d && e && f) = false := by
  rcases h with rfl | rfl | rfl | rfl | rfl | rfl <;> simp
set_option maxHeartbeats 4000000 in
set_option maxRecDepth 100000 in
theorem same_any (x y : RepV) (hx : RepV.small x) (hy : RepV.small y) (va vb' : Value) (w : World) (ha : RepIs w va x) (hb : RepIs w vb' y) :
    Calls Tryd.prog 27 #[va, vb'] w fun e w' => e = .returned (.bool (sameR x y)) ∧ Below w.heap.size w w' := by
  obtain ⟨A, ca, R, cr, rfl, hA, hR⟩ := ha
  obtain ⟨A', ca', R', cr', rfl, hA', hR'⟩ := hb
  have hbl : Below w.heap.size w ((w.alloc (.cells #[.int .i64 x.e, .bool x.is, .int .i64 x.n, .float .f64 x.stamp, .slice A x.sum.length ca, .slice R x.paths.length cr] 63)).alloc (.cells #[.int .i64 y.e, .bool y.is, .int .i64 y.n, .float .f64 y.stamp, .slice A' y.sum.length ca', .slice R' y.paths.length cr'] 63)) := ((Below.refl _ _).alloc (Nat.le_refl _) _).alloc (by simp) _
  have hbx1 : Blk ((w.alloc (.cells #[.int .i64 x.e, .bool x.is, .int .i64 x.n, .float .f64 x.stamp, .slice A x.sum.length ca, .slice R x.paths.length cr] 63)).alloc (.cells #[.int .i64 y.e, .bool y.is, .int .i64 y.n, .float .f64 y.stamp, .slice A' y.sum.length ca', .slice R' y.paths.length cr'] 63)) w.heap.size 63 [.int .i64 x.e, .bool x.is, .int .i64 x.n, .float .f64 x.stamp, .slice A x.sum.length ca, .slice R x.paths.length cr] := (Blk.new w 63 _).alloc _
  have hbx2 : Blk ((w.alloc (.cells #[.int .i64 x.e, .bool x.is, .int .i64 x.n, .float .f64 x.stamp, .slice A x.sum.length ca, .slice R x.paths.length cr] 63)).alloc (.cells #[.int .i64 y.e, .bool y.is, .int .i64 y.n, .float .f64 y.stamp, .slice A' y.sum.length ca', .slice R' y.paths.length cr'] 63)) (w.heap.size + 1) 63 [.int .i64 y.e, .bool y.is, .int .i64 y.n, .float .f64 y.stamp, .slice A' y.sum.length ca', .slice R' y.paths.length cr'] := by
    have := Blk.new (w.alloc (.cells #[.int .i64 x.e, .bool x.is, .int .i64 x.n, .float .f64 x.stamp, .slice A x.sum.length ca, .slice R x.paths.length cr] 63)) 63 #[.int .i64 y.e, .bool y.is, .int .i64 y.n, .float .f64 y.stamp, .slice A' y.sum.length ca', .slice R' y.paths.length cr']
    rw [show (w.alloc (.cells #[.int .i64 x.e, .bool x.is, .int .i64 x.n, .float .f64 x.stamp, .slice A x.sum.length ca, .slice R x.paths.length cr] 63)).heap.size = w.heap.size + 1 by simp] at this
    exact this
  have HN4 : Hid (Calls Tryd.prog 68 #[.float .f64 x.stamp, .float .f64 y.stamp] ((w.alloc (.cells #[.int .i64 x.e, .bool x.is, .int .i64 x.n, .float .f64 x.stamp, .slice A x.sum.length ca, .slice R x.paths.length cr] 63)).alloc (.cells #[.int .i64 y.e, .bool y.is, .int .i64 y.n, .float .f64 y.stamp, .slice A' y.sum.length ca', .slice R' y.paths.length cr'] 63)) fun e w' => e = .returned (.bool (decide (canonB x.stamp = canonB y.stamp))) ∧ ((w.alloc (.cells #[.int .i64 x.e, .bool x.is, .int .i64 x.n, .float .f64 x.stamp, .slice A x.sum.length ca, .slice R x.paths.length cr] 63)).alloc (.cells #[.int .i64 y.e, .bool y.is, .int .i64 y.n, .float .f64 y.stamp, .slice A' y.sum.length ca', .slice R' y.paths.length cr'] 63)) = w') := rsame_any x.stamp y.stamp hx.2.2 hy.2.2 _
  have HN5 : Hid (Calls Tryd.prog 69 #[.slice A x.sum.length ca, .slice A' y.sum.length ca'] ((w.alloc (.cells #[.int .i64 x.e, .bool x.is, .int .i64 x.n, .float .f64 x.stamp, .slice A x.sum.length ca, .slice R x.paths.length cr] 63)).alloc (.cells #[.int .i64 y.e, .bool y.is, .int .i64 y.n, .float .f64 y.stamp, .slice A' y.sum.length ca', .slice R' y.paths.length cr'] 63)) fun e w' => e = .returned (.bool (decide (x.sum = y.sum))) ∧ ((w.alloc (.cells #[.int .i64 x.e, .bool x.is, .int .i64 x.n, .float .f64 x.stamp, .slice A x.sum.length ca, .slice R x.paths.length cr] 63)).alloc (.cells #[.int .i64 y.e, .bool y.is, .int .i64 y.n, .float .f64 y.stamp, .slice A' y.sum.length ca', .slice R' y.paths.length cr'] 63)) = w') := beq_dec A A' ca ca' x.sum y.sum _ (hA.below hbl) (hA'.below hbl)
  have HN6 : Hid (Calls Tryd.prog 70 #[.slice R x.paths.length cr, .slice R' y.paths.length cr'] ((w.alloc (.cells #[.int .i64 x.e, .bool x.is, .int .i64 x.n, .float .f64 x.stamp, .slice A x.sum.length ca, .slice R x.paths.length cr] 63)).alloc (.cells #[.int .i64 y.e, .bool y.is, .int .i64 y.n, .float .f64 y.stamp, .slice A' y.sum.length ca', .slice R' y.paths.length cr'] 63)) fun e w' => e = .returned (.bool (decide (x.paths = y.paths))) ∧ ∃ q, w' = ((w.alloc (.cells #[.int .i64 x.e, .bool x.is, .int .i64 x.n, .float .f64 x.stamp, .slice A x.sum.length ca, .slice R x.paths.length cr] 63)).alloc (.cells #[.int .i64 y.e, .bool y.is, .int .i64 y.n, .float .f64 y.stamp, .slice A' y.sum.length ca', .slice R' y.paths.length cr'] 63)).drewN q) := seq_dec R R' cr cr' x.paths y.paths hx.2.1 hy.2.1 _ (hR.belowW hbl) (hR'.belowW hbl)
  have a0 := hbx1.cell 0; have a1 := hbx1.cell 1; have a2 := hbx1.cell 2; have a3 := hbx1.cell 3; have a4 := hbx1.cell 4; have a5 := hbx1.cell 5
  have e0 := hbx2.cell 0; have e1 := hbx2.cell 1; have e2 := hbx2.cell 2; have e3 := hbx2.cell 3; have e4 := hbx2.cell 4; have e5 := hbx2.cell 5
  simp only [List.getElem?_cons_zero, List.getElem?_cons_succ] at a0 a1 a2 a3 a4 a5 e0 e1 e2 e3 e4 e5
  have HBL := Lib.hid hbl
  have HS : Hid (sameR x y = ((x.e == y.e) && (x.is == y.is) && (x.n == y.n) && decide (canonB x.stamp = canonB y.stamp) && decide (x.sum = y.sum) && decide (x.paths = y.paths))) := rfl
  have hq4 : ((canonB x.stamp : Int) == (canonB y.stamp : Int)) = decide (canonB x.stamp = canonB y.stamp) := nat_eq_int _ _
  have HG4 := Lib.hid hq4
  clear hbl hbx1 hbx2 hA hR hA' hR' hx hy hq4
  generalize hd4 : decide (canonB x.stamp = canonB y.stamp) = d4 at *
  generalize hd5 : decide (x.sum = y.sum) = d5 at *
  generalize hd6 : decide (x.paths = y.paths) = d6 at *
  clear hd4 hd5 hd6
  cases h1 : (x.e == y.e)
  · have HF : Hid (sameR x y = false) := by show _ = _; rw [HS.out]; exact sameR_none _ _ _ _ _ _ (.inl h1)
    go_enter Tryd.func27, Tryd.ntmps27
    go_wp2_with (first | (go_at_call 68; refine (HN4.out).mono ?_; rintro e w9 ⟨rfl, rfl⟩) | (go_at_call 69; refine (HN5.out).mono ?_; rintro e w9 ⟨rfl, rfl⟩) | (go_at_call 70; refine (HN6.out).mono ?_; rintro e w9 ⟨rfl, q, rfl⟩))
    go_ret
    exact ⟨by rw [HF.out]; rfl, HBL.out⟩
  · cases h2 : (x.is == y.is)
    · have HF : Hid (sameR x y = false) := by show _ = _; rw [HS.out]; exact sameR_none _ _ _ _ _ _ (.inr (.inl h2))
      go_enter Tryd.func27, Tryd.ntmps27
      go_wp2_with (first | (go_at_call 68; refine (HN4.out).mono ?_; rintro e w9 ⟨rfl, rfl⟩) | (go_at_call 69; refine (HN5.out).mono ?_; rintro e w9 ⟨rfl, rfl⟩) | (go_at_call 70; refine (HN6.out).mono ?_; rintro e w9 ⟨rfl, q, rfl⟩))
      go_ret
      exact ⟨by rw [HF.out]; rfl, HBL.out⟩
    · cases h3 : (x.n == y.n)
      · have HF : Hid (sameR x y = false) := by show _ = _; rw [HS.out]; exact sameR_none _ _ _ _ _ _ (.inr (.inr (.inl h3)))
        go_enter Tryd.func27, Tryd.ntmps27
        go_wp2_with (first | (go_at_call 68; refine (HN4.out).mono ?_; rintro e w9 ⟨rfl, rfl⟩) | (go_at_call 69; refine (HN5.out).mono ?_; rintro e w9 ⟨rfl, rfl⟩) | (go_at_call 70; refine (HN6.out).mono ?_; rintro e w9 ⟨rfl, q, rfl⟩))
        go_ret
        exact ⟨by rw [HF.out]; rfl, HBL.out⟩
      · cases h4 : d4
        · have HF : Hid (sameR x y = false) := by show _ = _; rw [HS.out]; exact sameR_none _ _ _ _ _ _ (.inr (.inr (.inr (.inl h4))))
          go_enter Tryd.func27, Tryd.ntmps27
          go_wp2_with (first | (go_at_call 68; refine (HN4.out).mono ?_; rintro e w9 ⟨rfl, rfl⟩) | (go_at_call 69; refine (HN5.out).mono ?_; rintro e w9 ⟨rfl, rfl⟩) | (go_at_call 70; refine (HN6.out).mono ?_; rintro e w9 ⟨rfl, q, rfl⟩))
          go_ret
          exact ⟨by rw [HF.out]; rfl, HBL.out⟩
        · cases h5 : d5
          · have HF : Hid (sameR x y = false) := by show _ = _; rw [HS.out]; exact sameR_none _ _ _ _ _ _ (.inr (.inr (.inr (.inr (.inl h5)))))
            go_enter Tryd.func27, Tryd.ntmps27
            go_wp2_with (first | (go_at_call 68; refine (HN4.out).mono ?_; rintro e w9 ⟨rfl, rfl⟩) | (go_at_call 69; refine (HN5.out).mono ?_; rintro e w9 ⟨rfl, rfl⟩) | (go_at_call 70; refine (HN6.out).mono ?_; rintro e w9 ⟨rfl, q, rfl⟩))
            go_ret
            exact ⟨by rw [HF.out]; rfl, HBL.out⟩
          · cases h6 : d6
            · have HF : Hid (sameR x y = false) := by show _ = _; rw [HS.out]; exact sameR_none _ _ _ _ _ _ (.inr (.inr (.inr (.inr (.inr (h6))))))
              go_enter Tryd.func27, Tryd.ntmps27
              go_wp2_with (first | (go_at_call 68; refine (HN4.out).mono ?_; rintro e w9 ⟨rfl, rfl⟩) | (go_at_call 69; refine (HN5.out).mono ?_; rintro e w9 ⟨rfl, rfl⟩) | (go_at_call 70; refine (HN6.out).mono ?_; rintro e w9 ⟨rfl, q, rfl⟩))
              go_ret
              exact ⟨by rw [HF.out]; rfl, below_drewN HBL.out _⟩
            · have HF : Hid (sameR x y = true) := by show _ = _; rw [HS.out, h1, h2, h3, h4, h5, h6]; rfl
              go_enter Tryd.func27, Tryd.ntmps27
              go_wp2_with (first | (go_at_call 68; refine (HN4.out).mono ?_; rintro e w9 ⟨rfl, rfl⟩) | (go_at_call 69; refine (HN5.out).mono ?_; rintro e w9 ⟨rfl, rfl⟩) | (go_at_call 70; refine (HN6.out).mono ?_; rintro e w9 ⟨rfl, q, rfl⟩))
              go_ret
              exact ⟨by rw [HF.out]; rfl, below_drewN HBL.out _⟩
set_option maxHeartbeats 4000000 in
set_option maxRecDepth 100000 in
theorem rsame2_any (x y : RepV) (hx : RepV.small x) (hy : RepV.small y) (va vb' : Value) (w : World) (ha : RepIs w va x) (hb : RepIs w vb' y) :
    Calls Tryd.prog 28 #[va, vb'] w fun e w' => e = .returned (.bool (sameR x y)) ∧ Below w.heap.size w w' := by
  obtain ⟨A, ca, R, cr, rfl, hA, hR⟩ := ha
  obtain ⟨A', ca', R', cr', rfl, hA', hR'⟩ := hb
  have hbl : Below w.heap.size w ((w.alloc (.cells #[.int .i64 x.e, .bool x.is, .int .i64 x.n, .float .f64 x.stamp, .slice A x.sum.length ca, .slice R x.paths.length cr] 63)).alloc (.cells #[.int .i64 y.e, .bool y.is, .int .i64 y.n, .float .f64 y.stamp, .slice A' y.sum.length ca', .slice R' y.paths.length cr'] 63)) := ((Below.refl _ _).alloc (Nat.le_refl _) _).alloc (by simp) _
  have hbx1 : Blk ((w.alloc (.cells #[.int .i64 x.e, .bool x.is, .int .i64 x.n, .float .f64 x.stamp, .slice A x.sum.length ca, .slice R x.paths.length cr] 63)).alloc (.cells #[.int .i64 y.e, .bool y.is, .int .i64 y.n, .float .f64 y.stamp, .slice A' y.sum.length ca', .slice R' y.paths.length cr'] 63)) w.heap.size 63 [.int .i64 x.e, .bool x.is, .int .i64 x.n, .float .f64 x.stamp, .slice A x.sum.length ca, .slice R x.paths.length cr] := (Blk.new w 63 _).alloc _
  have hbx2 : Blk ((w.alloc (.cells #[.int .i64 x.e, .bool x.is, .int .i64 x.n, .float .f64 x.stamp, .slice A x.sum.length ca, .slice R x.paths.length cr] 63)).alloc (.cells #[.int .i64 y.e, .bool y.is, .int .i64 y.n, .float .f64 y.stamp, .slice A' y.sum.length ca', .slice R' y.paths.length cr'] 63)) (w.heap.size + 1) 63 [.int .i64 y.e, .bool y.is, .int .i64 y.n, .float .f64 y.stamp, .slice A' y.sum.length ca', .slice R' y.paths.length cr'] := by
    have := Blk.new (w.alloc (.cells #[.int .i64 x.e, .bool x.is, .int .i64 x.n, .float .f64 x.stamp, .slice A x.sum.length ca, .slice R x.paths.length cr] 63)) 63 #[.int .i64 y.e, .bool y.is, .int .i64 y.n, .float .f64 y.stamp, .slice A' y.sum.length ca', .slice R' y.paths.length cr']
    rw [show (w.alloc (.cells #[.int .i64 x.e, .bool x.is, .int .i64 x.n, .float .f64 x.stamp, .slice A x.sum.length ca, .slice R x.paths.length cr] 63)).heap.size = w.heap.size + 1 by simp] at this
    exact this
  have HQ5 : Hid (∀ n, Calls Tryd.prog 16 #[.slice A x.sum.length ca, .slice A' y.sum.length ca'] (((w.alloc (.cells #[.int .i64 x.e, .bool x.is, .int .i64 x.n, .float .f64 x.stamp, .slice A x.sum.length ca, .slice R x.paths.length cr] 63)).alloc (.cells #[.int .i64 y.e, .bool y.is, .int .i64 y.n, .float .f64 y.stamp, .slice A' y.sum.length ca', .slice R' y.paths.length cr'] 63)).drewN n) fun e w' => e = .returned (.bool (decide (x.sum = y.sum))) ∧ ∃ m, w' = ((w.alloc (.cells #[.int .i64 x.e, .bool x.is, .int .i64 x.n, .float .f64 x.stamp, .slice A x.sum.length ca, .slice R x.paths.length cr] 63)).alloc (.cells #[.int .i64 y.e, .bool y.is, .int .i64 y.n, .float .f64 y.stamp, .slice A' y.sum.length ca', .slice R' y.paths.length cr'] 63)).drewN m) := fun n => (bytes_dec A A' ca ca' x.sum y.sum hx.1 hy.1 _ (hA.below (below_drewN hbl n)) (hA'.below (below_drewN hbl n))).mono fun _ _ ⟨he, q, hw⟩ => ⟨he, n + q, by rw [hw]; simp⟩
  have HQ6 : Hid (∀ n, Calls Tryd.prog 53 #[.slice R x.paths.length cr, .slice R' y.paths.length cr'] (((w.alloc (.cells #[.int .i64 x.e, .bool x.is, .int .i64 x.n, .float .f64 x.stamp, .slice A x.sum.length ca, .slice R x.paths.length cr] 63)).alloc (.cells #[.int .i64 y.e, .bool y.is, .int .i64 y.n, .float .f64 y.stamp, .slice A' y.sum.length ca', .slice R' y.paths.length cr'] 63)).drewN n) fun e w' => e = .returned (.bool (decide (x.paths = y.paths))) ∧ ∃ m, w' = ((w.alloc (.cells #[.int .i64 x.e, .bool x.is, .int .i64 x.n, .float .f64 x.stamp, .slice A x.sum.length ca, .slice R x.paths.length cr] 63)).alloc (.cells #[.int .i64 y.e, .bool y.is, .int .i64 y.n, .float .f64 y.stamp, .slice A' y.sum.length ca', .slice R' y.paths.length cr'] 63)).drewN m) := fun n => (texts_dec R R' cr cr' x.paths y.paths hx.2.1 hy.2.1 _ (hR.belowW (below_drewN hbl n)) (hR'.belowW (below_drewN hbl n))).mono fun _ _ ⟨he, q, hw⟩ => ⟨he, n + q, by rw [hw]; simp⟩
  have HQ4 : Hid (∀ (s : Nat) n, Calls Tryd.prog 67 #[.float .f64 s] (((w.alloc (.cells #[.int .i64 x.e, .bool x.is, .int .i64 x.n, .float .f64 x.stamp, .slice A x.sum.length ca, .slice R x.paths.length cr] 63)).alloc (.cells #[.int .i64 y.e, .bool y.is, .int .i64 y.n, .float .f64 y.stamp, .slice A' y.sum.length ca', .slice R' y.paths.length cr'] 63)).drewN n) fun e w' => e = .returned (.int .u64 (canonB s)) ∧ ∃ m, w' = ((w.alloc (.cells #[.int .i64 x.e, .bool x.is, .int .i64 x.n, .float .f64 x.stamp, .slice A x.sum.length ca, .slice R x.paths.length cr] 63)).alloc (.cells #[.int .i64 y.e, .bool y.is, .int .i64 y.n, .float .f64 y.stamp, .slice A' y.sum.length ca', .slice R' y.paths.length cr'] 63)).drewN m) := fun s n => (refbits_any s _).mono fun _ _ ⟨he, hw⟩ => ⟨he, n, hw.symm⟩
  have a0 := hbx1.cell 0; have a1 := hbx1.cell 1; have a2 := hbx1.cell 2; have a3 := hbx1.cell 3; have a4 := hbx1.cell 4; have a5 := hbx1.cell 5
  have e0 := hbx2.cell 0; have e1 := hbx2.cell 1; have e2 := hbx2.cell 2; have e3 := hbx2.cell 3; have e4 := hbx2.cell 4; have e5 := hbx2.cell 5
  simp only [List.getElem?_cons_zero, List.getElem?_cons_succ] at a0 a1 a2 a3 a4 a5 e0 e1 e2 e3 e4 e5
  have HBL := Lib.hid hbl
  have HS : Hid (sameR x y = ((x.e == y.e) && (x.is == y.is) && (x.n == y.n) && decide (canonB x.stamp = canonB y.stamp) && decide (x.sum = y.sum) && decide (x.paths = y.paths))) := rfl
  have hq4 : ((canonB x.stamp : Int) == (canonB y.stamp : Int)) = decide (canonB x.stamp = canonB y.stamp) := nat_eq_int _ _
  have HG4 := Lib.hid hq4
  clear hbl hbx1 hbx2 hA hR hA' hR' hx hy hq4
  generalize hd4 : decide (canonB x.stamp = canonB y.stamp) = d4 at *
  generalize hd5 : decide (x.sum = y.sum) = d5 at *
  generalize hd6 : decide (x.paths = y.paths) = d6 at *
  clear hd4 hd5 hd6
  cases h1 : (x.e == y.e)
  · have HF : Hid (sameR x y = false) := by show _ = _; rw [HS.out]; exact sameR_none _ _ _ _ _ _ (.inl h1)
    go_enter Tryd.func28, Tryd.ntmps28
    go_wp2_with fail
    go_quiet ((first | (go_at_call 67; exact HQ4.out _ _) | (go_at_call 16; exact HQ5.out _) | (go_at_call 53; exact HQ6.out _)))
    go_wp2_with fail
    go_ret
    exact ⟨by rw [HF.out]; rfl, below_drewN HBL.out _⟩
  · cases h2 : (x.is == y.is)
    · have HF : Hid (sameR x y = false) := by show _ = _; rw [HS.out]; exact sameR_none _ _ _ _ _ _ (.inr (.inl h2))
      go_enter Tryd.func28, Tryd.ntmps28
      go_wp2_with fail
      go_quiet ((first | (go_at_call 67; exact HQ4.out _ _) | (go_at_call 16; exact HQ5.out _) | (go_at_call 53; exact HQ6.out _)))
      go_wp2_with fail
      go_ret
      exact ⟨by rw [HF.out]; rfl, below_drewN HBL.out _⟩
    · cases h3 : (x.n == y.n)
      · have HF : Hid (sameR x y = false) := by show _ = _; rw [HS.out]; exact sameR_none _ _ _ _ _ _ (.inr (.inr (.inl h3)))
        go_enter Tryd.func28, Tryd.ntmps28
        go_wp2_with fail
        go_quiet ((first | (go_at_call 67; exact HQ4.out _ _) | (go_at_call 16; exact HQ5.out _) | (go_at_call 53; exact HQ6.out _)))
        go_wp2_with fail
        go_ret
        exact ⟨by rw [HF.out]; rfl, below_drewN HBL.out _⟩
      · cases h4 : d4
        · have HF : Hid (sameR x y = false) := by show _ = _; rw [HS.out]; exact sameR_none _ _ _ _ _ _ (.inr (.inr (.inr (.inl h4))))
          have hg4 := HG4.out
          rw [h4] at hg4
          go_enter Tryd.func28, Tryd.ntmps28
          go_wp2_with fail
          go_quiet ((first | (go_at_call 67; exact HQ4.out _ _) | (go_at_call 16; exact HQ5.out _) | (go_at_call 53; exact HQ6.out _)))
          go_wp2_with fail
          go_ret
          exact ⟨by rw [HF.out]; rfl, below_drewN HBL.out _⟩
        · cases h5 : d5
          · have HF : Hid (sameR x y = false) := by show _ = _; rw [HS.out]; exact sameR_none _ _ _ _ _ _ (.inr (.inr (.inr (.inr (.inl h5)))))
            have hg4 := HG4.out
            rw [h4] at hg4
            go_enter Tryd.func28, Tryd.ntmps28
            go_wp2_with fail
            go_quiet ((first | (go_at_call 67; exact HQ4.out _ _) | (go_at_call 16; exact HQ5.out _) | (go_at_call 53; exact HQ6.out _)))
            go_wp2_with fail
            go_ret
            exact ⟨by rw [HF.out]; rfl, below_drewN HBL.out _⟩
          · cases h6 : d6
            · have HF : Hid (sameR x y = false) := by show _ = _; rw [HS.out]; exact sameR_none _ _ _ _ _ _ (.inr (.inr (.inr (.inr (.inr (h6))))))
              have hg4 := HG4.out
              rw [h4] at hg4
              go_enter Tryd.func28, Tryd.ntmps28
              go_wp2_with fail
              go_quiet ((first | (go_at_call 67; exact HQ4.out _ _) | (go_at_call 16; exact HQ5.out _) | (go_at_call 53; exact HQ6.out _)))
              go_wp2_with fail
              go_ret
              exact ⟨by rw [HF.out]; rfl, below_drewN HBL.out _⟩
            · have HF : Hid (sameR x y = true) := by show _ = _; rw [HS.out, h1, h2, h3, h4, h5, h6]; rfl
              have hg4 := HG4.out
              rw [h4] at hg4
              go_enter Tryd.func28, Tryd.ntmps28
              go_wp2_with fail
              go_quiet ((first | (go_at_call 67; exact HQ4.out _ _) | (go_at_call 16; exact HQ5.out _) | (go_at_call 53; exact HQ6.out _)))
              go_wp2_with fail
              go_ret
              exact ⟨by rw [HF.out]; rfl, below_drewN HBL.out _⟩
end Go.Proofs.YtghbabnekalgpaaDoor
