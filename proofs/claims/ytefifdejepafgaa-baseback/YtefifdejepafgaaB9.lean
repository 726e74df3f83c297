/- The walks of BaseBack, BaseReads, BaseTurned. -/
import Derived.Test.YtefifdejepafgaaB7
import Derived.Deep.DeepCutAuto
namespace Go.Proofs.Ytefifdejepafgaa
open Go.RowKit BaseMath

set_option maxHeartbeats 1000000 in
theorem back_walk (A : Option Addr) (cap : Nat) (p : List By) (hp : p.length ≤ 200) (w : World) (hA : SrcIs w A p) :
    Calls Try.prog 3 #[.slice A p.length cap] w fun e w' => e = .returned (.bool true) ∧ Below w.heap.size w w' := by
  have h1 : (decide ((200 : Int) < p.length)) = false := decide_eq_false (by omega)
  have HA := Lib.hid hA; clear hA
  go_enter Try.func3, Try.ntmps3
  go_wp2_with fail
  refine (two_any w).mono ?_
  rintro e w1 ⟨rfl, hb1⟩
  have HA1 := Lib.hid (HA.out.below hb1)
  have HB1 := Lib.hid hb1
  clear hb1 HA
  go_wp2_with fail
  refine (text_any A cap p (by omega) w1 HA1.out).mono ?_
  rintro e w2 ⟨rfl, hb2⟩
  have HA2 := Lib.hid (HA1.out.below hb2)
  have HB2 : Hid (Below w.heap.size w w2) := HB1.out.trans (hb2.mono HB1.out.size)
  have HTL := Lib.hid (text_length p)
  have hl := len_fit p.length
  obtain ⟨hg, hdec⟩ := text_good p
  have HG := Lib.hid hg; have HD := Lib.hid hdec
  clear hb2 HA1 HB1 hg hdec
  rw [← HTL.out] at hl
  have HL : Hid (len p.length = (text p).length) := HTL.out.symm
  obtain ⟨t, HT⟩ : ∃ t, Hid (text p = t) := ⟨_, rfl⟩
  rw [HT.out] at hl HL HG HD ⊢
  clear HTL
  go_wp2_with fail
  refine (bytes_good t (by omega) HG.out w2).mono ?_
  rintro e w3 ⟨v, rfl, hr⟩
  rw [HD.out] at hr
  obtain ⟨A3, c3, rfl, hs3, -, -, -⟩ := hr.src
  have HS3 := Lib.hid hs3
  have HA3 := Lib.hid (HA2.out.below hr.below)
  have HB3 : Hid (Below w.heap.size w w3) := HB2.out.trans (hr.below.mono HB2.out.size)
  clear hr hs3 HA2 HB2
  go_wp2_with fail
  refine (reftext_any A cap p (by omega) w3 HA3.out).mono ?_
  rintro e w4 ⟨rfl, hb4⟩
  rw [HT.out]
  have HS4 := Lib.hid (HS3.out.below hb4)
  have HA4 := Lib.hid (HA3.out.below hb4)
  have HB4 : Hid (Below w.heap.size w w4) := HB3.out.trans (hb4.mono HB3.out.size)
  clear hb4 HA3 HB3 HS3
  go_wp2_with fail
  refine (len_any p.length (by omega) w4).mono ?_
  rintro e w5 ⟨rfl, rfl⟩
  rw [HL.out]
  go_wp2_with fail
  refine (bytes_same A A3 cap c3 p (by omega) w4 HA4.out HS4.out).mono ?_
  rintro e w6 ⟨rfl, q, rfl⟩
  go_wp2_with fail
  go_ret
  exact ⟨rfl, below_drewN HB4.out q⟩
set_option maxHeartbeats 1000000 in
theorem back_long (A : Option Addr) (n cap : Nat) (w : World) (h : 200 < n) (hm : n ≤ maxLen) :
    Calls Try.prog 3 #[.slice A n cap] w fun e w' => e = .returned (.bool true) ∧ Below w.heap.size w w' := by
  unfold maxLen at hm
  have h1 : (decide ((200 : Int) < n)) = true := decide_eq_true (by omega)
  go_enter Try.func3, Try.ntmps3
  go_wp2_with fail
  refine (two_any w).mono ?_
  rintro e w1 ⟨rfl, hb1⟩
  have HB1 := Lib.hid hb1; clear hb1
  go_wp2_with fail
  refine (two_any w1).mono ?_
  rintro e w2 ⟨rfl, hb2⟩
  have HB2 : Hid (Below w.heap.size w w2) := HB1.out.trans (hb2.mono HB1.out.size)
  clear hb2
  go_wp2
  go_ret
  exact ⟨rfl, HB2.out⟩
theorem back_all (A : Option Addr) (cap : Nat) (p : List By) (w : World) (hm : p.length ≤ maxLen) (hA : SrcIs w A p) :
    Calls Try.prog 3 #[.slice A p.length cap] w fun e w' => e = .returned (.bool true) ∧ Below w.heap.size w w' := by
  by_cases h : 200 < p.length
  · exact back_long A p.length cap w h hm
  · exact back_walk A cap p (by omega) w hA
set_option maxHeartbeats 1000000 in
theorem reads_long (s : List By) (w : World) (h : 200 < s.length) (hm : s.length ≤ maxLen) :
    Calls Try.prog 4 #[.string ⟨s.toArray⟩] w fun e w' => e = .returned (.bool true) ∧ Below w.heap.size w w' := by
  unfold maxLen at hm
  have h1 : (decide ((200 : Int) < s.length)) = true := decide_eq_true (by omega)
  go_enter Try.func4, Try.ntmps4
  go_wp2_with fail
  refine (two_any w).mono ?_
  rintro e w1 ⟨rfl, hb1⟩
  have HB1 := Lib.hid hb1; clear hb1
  go_wp2_with fail
  refine (two_any w1).mono ?_
  rintro e w2 ⟨rfl, hb2⟩
  have HB2 : Hid (Below w.heap.size w w2) := HB1.out.trans (hb2.mono HB1.out.size)
  clear hb2
  go_wp2
  go_ret
  exact ⟨rfl, HB2.out⟩
set_option maxHeartbeats 1000000 in
theorem reads_good (s : List By) (w : World) (h : s.length ≤ 200) (hg : good s = true) :
    Calls Try.prog 4 #[.string ⟨s.toArray⟩] w fun e w' => e = .returned (.bool true) ∧ Below w.heap.size w w' := by
  have h1 : (decide ((200 : Int) < s.length)) = false := decide_eq_false (by omega)
  obtain ⟨ht, hdl, -⟩ := good_text hg
  have HG := Lib.hid hg; have HT := Lib.hid ht
  have hd2 : (dec s).length ≤ s.length := by omega
  clear hg ht hdl
  go_enter Try.func4, Try.ntmps4
  go_wp2_with fail
  refine (two_any w).mono ?_
  rintro e w1 ⟨rfl, hb1⟩
  have HB1 := Lib.hid hb1; clear hb1
  go_wp2_with fail
  refine (bytes_good s (by omega) HG.out w1).mono ?_
  rintro e w2 ⟨v, rfl, hr2⟩
  have HB2 : Hid (Below w.heap.size w w2) := HB1.out.trans (hr2.below.mono HB1.out.size)
  obtain ⟨A2, c2, rfl, hs2, -, -, -⟩ := hr2.src
  have HS2 := Lib.hid hs2
  clear hr2 hs2 HB1
  obtain ⟨d, HD⟩ : ∃ d, Hid (dec s = d) := ⟨_, rfl⟩
  rw [HD.out] at hd2 HS2 HT ⊢
  go_wp2_with fail
  refine (refbytes_good s (by omega) HG.out w2).mono ?_
  rintro e w3 ⟨v, rfl, hr3⟩
  rw [HD.out] at hr3
  have HB3 : Hid (Below w.heap.size w w3) := HB2.out.trans (hr3.below.mono HB2.out.size)
  have HS23 := Lib.hid (HS2.out.below hr3.below)
  obtain ⟨A3, c3, rfl, hs3, -, -, -⟩ := hr3.src
  have HS3 := Lib.hid hs3
  clear hr3 hs3 HS2 HB2
  go_wp2_with fail
  refine (bytes_same A2 A3 c2 c3 d (by omega) w3 HS23.out HS3.out).mono ?_
  rintro e w4 ⟨rfl, q, rfl⟩
  go_wp2_with fail
  refine (text_any A2 c2 d (by omega) (w3.drewN q) HS23.out).mono ?_
  rintro e w5 ⟨rfl, hb5⟩
  rw [HT.out]
  have HB5 : Hid (Below w.heap.size w w5) := (below_drewN HB3.out q).trans (hb5.mono HB3.out.size)
  clear hb5
  go_wp2_with fail
  go_ret
  exact ⟨rfl, HB5.out⟩
set_option maxHeartbeats 1000000 in
theorem reads_bad (s : List By) (w : World) (h : s.length ≤ 200) (hg : good s = false) :
    Calls Try.prog 4 #[.string ⟨s.toArray⟩] w fun e w' => e = .returned (.bool true) ∧ Below w.heap.size w w' := by
  have h1 : (decide ((200 : Int) < s.length)) = false := decide_eq_false (by omega)
  have HG := Lib.hid hg
  clear hg
  go_enter Try.func4, Try.ntmps4
  go_wp2_with fail
  refine (two_any w).mono ?_
  rintro e w1 ⟨rfl, hb1⟩
  have HB1 := Lib.hid hb1; clear hb1
  go_wp2_with fail
  refine (bytes_bad s (by omega) HG.out w1).mono ?_
  rintro e w2 ⟨rfl, hb2⟩
  have HB2 : Hid (Below w.heap.size w w2) := HB1.out.trans (hb2.mono HB1.out.size)
  clear hb2 HB1
  go_wp2_with fail
  refine (refbytes_bad s (by omega) HG.out w2).mono ?_
  rintro e w3 ⟨rfl, hb3⟩
  have HB3 : Hid (Below w.heap.size w w3) := HB2.out.trans (hb3.mono HB2.out.size)
  clear hb3 HB2
  go_wp2_with fail
  refine (bytes_same none none 0 0 [] (by decide) w3 (fun h => absurd h (by simp)) (fun h => absurd h (by simp))).mono ?_
  rintro e w4 ⟨rfl, q, rfl⟩
  go_wp2_with fail
  go_ret
  exact ⟨rfl, below_drewN HB3.out q⟩
theorem reads_all (s : List By) (w : World) (hm : s.length ≤ maxLen) :
    Calls Try.prog 4 #[.string ⟨s.toArray⟩] w fun e w' => e = .returned (.bool true) ∧ Below w.heap.size w w' := by
  by_cases h : 200 < s.length
  · exact reads_long s w h hm
  · cases hg : good s with
    | true => exact reads_good s w (by omega) hg
    | false => exact reads_bad s w (by omega) hg
end Go.Proofs.Ytefifdejepafgaa
