/- The walk of the law RealTexts. -/
import Derived.Test.YtgbnbbgiaaealaaDoorW7
import Derived.Test.YtgbnbbgiaaealaaDoorW13
namespace Go.Proofs.YtgbnbbgiaaealaaDoor
open Go.RowKit RealMath

theorem textL_small {n : Int} (h : Small n) : textL (ofInt n) = Lib.itoa n := by
  unfold textL
  rw [h.nan, if_neg (by simp), if_neg h.ne_inf.1, if_neg h.ne_inf.2, if_pos h.short, h.val]

theorem text_int (n : Int) (h : Small n) (w : World) (ht : Tab2 w) :
    Calls Tryd.prog 24 #[.float .f64 (floatOfInt .f64 n)] w fun e w' => e = .returned (.string ⟨(Lib.itoa n).toArray⟩) ∧ Below w.heap.size w w' := by
  have := text_any (ofInt n) h.lt w ht
  rw [textL_small h] at this
  exact this

theorem tmod_bd (n : Int) : -9007199254740992 < n.tmod 9007199254740992 ∧ n.tmod 9007199254740992 < 9007199254740992 := by
  constructor
  · have := Int.lt_tmod_of_pos n (b := 9007199254740992) (by decide)
    omega
  · exact Int.tmod_lt_of_pos n (by decide)

set_option maxHeartbeats 1000000 in
theorem texts_walk (b : Nat) (n : Int) (hb : b < 18446744073709551616) (_ : -9223372036854775808 ≤ n) (_ : n ≤ 9223372036854775807) (w : World) (ht : Tab2 w) :
    Calls Tryd.prog 8 #[.int .u64 b, .int .i64 n] w fun e w' => e = .returned (.bool true) ∧ Below w.heap.size w w' := by
  obtain ⟨m, hm⟩ : ∃ m, n.tmod 9007199254740992 = m := ⟨_, rfl⟩
  have bd := tmod_bd n
  rw [hm] at bd
  have S := small_of m bd.1 bd.2
  have C24 := Lib.hid (text_any b hb)
  have C25 := Lib.hid (reftext_any b hb)
  have C26 := Lib.hid (dec_any m (by omega) (by omega))
  have CT := Lib.hid (text_int m S)
  have CO := Lib.hid (of_any (b : Int))
  rw [Int.toNat_natCast] at CO
  generalize textL b = l at *
  generalize Lib.itoa m = l2 at *
  clear bd S
  go_enter Tryd.func8, Tryd.ntmps8
  go_wp2_with fail
  refine (CO.out _).mono ?_
  rintro e w' ⟨rfl, rfl⟩
  go_wp2_with fail
  refine (noughts_any w ht.tab).mono ?_
  rintro e w1 ⟨rfl, hb1⟩
  go_wp2_with fail
  refine (C24.out w1 (ht.below hb1)).mono ?_
  rintro e w2 ⟨rfl, hb2⟩
  go_wp2_with fail
  refine (C25.out w2).mono ?_
  rintro e w3 ⟨rfl, hb3⟩
  go_wp2_with fail
  refine (CT.out w3 (((ht.below hb1).below hb2).below hb3)).mono ?_
  rintro e w4 ⟨rfl, hb4⟩
  go_wp2_with fail
  refine (C26.out w4).mono ?_
  rintro e w5 ⟨rfl, hb5⟩
  go_wp2
  go_ret
  have s1 := hb1.size
  have s2 := hb2.size
  have s3 := hb3.size
  have s4 := hb4.size
  exact ⟨rfl, (((hb1.trans (hb2.mono s1)).trans (hb3.mono (by omega))).trans (hb4.mono (by omega))).trans (hb5.mono (by omega))⟩
end Go.Proofs.YtgbnbbgiaaealaaDoor
