/- The walk of WireCut. -/
import Derived.Test.YtefifdejepafgaaW8
namespace Go.Proofs.Ytefifdejepafgaa
open Go.RowKit BaseMath WireMath

theorem reader_n (A : Option Addr) (c n : Nat) (l : List By) (hn : l.length = n) (hl : n ≤ 1000000) (hN : A = none → c = 0) (w : World) (hA : SrcIs w A l) :
    Calls Try.prog 26 #[.slice A n c] w (NewPost l w) := by subst hn; exact reader_any A c l hl hN w hA
theorem SrcIs.take' {w : World} {A : Option Addr} {p : List By} (h : SrcIs w A p) (m : Nat) : SrcIs w A (p.take m) := fun h0 => by
  obtain ⟨b, o, rfl, hb⟩ := h (by simp at h0; omega)
  exact ⟨b, o, rfl, hb.take m⟩
set_option maxHeartbeats 1000000 in
theorem cut_long (s : List By) (n : Nat) (h : 200 < s.length) (hm : s.length ≤ maxLen) (w : World) :
    Calls Try.prog 11 #[.string ⟨s.toArray⟩, .int .u16 n] w fun e w' => e = .returned (.bool true) ∧ Below w.heap.size w w' := by
  unfold maxLen at hm
  have h1 : (decide ((200 : Int) < s.length)) = true := decide_eq_true (by omega)
  go_enter Try.func11, Try.ntmps11
  go_wp2_with fail
  refine (lays_any w).mono ?_
  rintro e w1 ⟨rfl, hb1⟩
  have HB1 := Lib.hid hb1; clear hb1
  go_wp2_with fail
  refine (lays_any w1).mono ?_
  rintro e w2 ⟨rfl, hb2⟩
  have HB2 : Hid (Below w.heap.size w w2) := HB1.out.trans (hb2.mono HB1.out.size)
  clear hb2
  go_wp2_with fail
  go_ret
  exact ⟨rfl, HB2.out⟩
set_option maxHeartbeats 2000000 in
set_option maxRecDepth 100000 in
theorem cut_walk (s : List By) (n : Nat) (hn : n < 65536) (h : s.length ≤ 200) (w : World) :
    Calls Try.prog 11 #[.string ⟨s.toArray⟩, .int .u16 n] w fun e w' => e = .returned (.bool true) ∧ Below w.heap.size w w' := by
  have h1 : (decide ((200 : Int) < s.length)) = false := decide_eq_false (by omega)
  have hl : (textB s).length = 2 + s.length := by simp [textB, numB]; omega
  obtain ⟨k, hk⟩ : ∃ k, k = n % (textB s).length := ⟨_, rfl⟩
  have hk1 : (n : Int) % ((textB s).length : Int) = (k : Nat) := by rw [hk]; exact (Int.natCast_emod _ _).symm
  have hk2 : k < (textB s).length := by rw [hk]; exact Nat.mod_lt _ (by omega)
  obtain ⟨e1, e2⟩ := cut_text s (by omega) k hk2
  have HE1 := Lib.hid e1; have HE2 := Lib.hid e2
  obtain ⟨L, HL⟩ : ∃ L, Hid ((textB s).length = L) := ⟨_, rfl⟩
  rw [HL.out] at hl hk1 hk2
  have hL1 : 2 ≤ L := by omega
  have hL2 : L ≤ 202 := by omega
  have hL3 : ((L : Int) == 0) = false := by rw [beq_eq_false_iff_ne]; omega
  have HKL : Hid (((textB s).take k).length = k) := by show _ = _; rw [List.length_take, HL.out]; omega
  clear hk hl e1 e2
  go_enter Try.func11, Try.ntmps11
  go_wp2_with fail
  refine (lays_any w).mono ?_
  rintro e w1 ⟨rfl, hb1⟩
  have HB1 := Lib.hid hb1; clear hb1
  go_wp2_with fail
  refine (rtextb_any s (by omega) w1).mono ?_
  rintro e w2 ⟨v2, rfl, hr2⟩
  obtain ⟨A2, c2, hv2, hs2, hn2, hc2, -⟩ := hr2.src
  rw [HL.out] at hv2 hc2
  subst hv2
  have HB2 : Hid (Below w.heap.size w w2) := HB1.out.trans (hr2.below.mono HB1.out.size)
  have HS2 := Lib.hid (hs2.take' k); have HN2 := Lib.hid hn2
  clear hr2 hs2 hn2 HB1
  have hkc : (k : Int) ≤ (c2 : Int) := by omega
  go_wp2_with fail
  refine (reader_n A2 c2 k ((textB s).take k) HKL.out (by omega) HN2.out w2 HS2.out).mono ?_
  rintro e w3 ⟨g, rfl, hg, hr3, hb3⟩
  have HB3 : Hid (Below w.heap.size w w3) := HB2.out.trans (hb3.mono HB2.out.size)
  have hgw : w.heap.size ≤ g := Nat.le_trans HB2.out.size hg
  have HR3 := Lib.hid hr3
  clear hr3 hb3 HB2 HS2
  go_wp2_with fail
  refine (rtext_any g g ⟨(textB s).take k, false⟩ (by show ((textB s).take k).length ≤ _; rw [HKL.out]; omega) w3 HR3.out).mono ?_
  rintro e w4 ⟨rfl, hr4, ho4⟩
  rw [HE1.out]
  rw [HE2.out] at hr4
  have HB4 : Hid (Below w.heap.size w w4) := HB3.out.trans (ho4.below hgw HB3.out.size)
  have HR4 := Lib.hid hr4
  clear hr4 ho4 HB3 HR3
  go_wp2_with fail
  refine (ok_any g g fails w4 HR4.out).mono ?_
  rintro e w5 ⟨rfl, rfl⟩
  go_wp2_with fail
  refine (left_any g g fails w4 HR4.out).mono ?_
  rintro e w5 ⟨rfl, rfl⟩
  go_wp2_with fail
  refine (byte_any g g fails (by decide) w4 HR4.out).mono ?_
  rintro e w5 ⟨rfl, hr5, ho5⟩
  rw [fails_num]
  rw [(fails_taken 1).2] at hr5
  have HB5 : Hid (Below w.heap.size w w5) := HB4.out.trans (ho5.below hgw HB4.out.size)
  have HR5 := Lib.hid hr5
  clear hr5 ho5 HB4 HR4
  go_wp2_with fail
  refine (num_any g g fails (by decide) w5 HR5.out).mono ?_
  rintro e w6 ⟨rfl, hr6, ho6⟩
  rw [fails_num]
  rw [(fails_taken 2).2] at hr6
  have HB6 : Hid (Below w.heap.size w w6) := HB5.out.trans (ho6.below hgw HB5.out.size)
  have HR6 := Lib.hid hr6
  clear hr6 ho6 HB5 HR5
  go_wp2_with fail
  refine (wide_any g g fails (by decide) w6 HR6.out).mono ?_
  rintro e w7 ⟨rfl, hr7, ho7⟩
  rw [fails_num]
  rw [(fails_taken 8).2] at hr7
  have HB7 : Hid (Below w.heap.size w w7) := HB6.out.trans (ho7.below hgw HB6.out.size)
  have HR7 := Lib.hid hr7
  clear hr7 ho7 HB6 HR6
  go_wp2_with fail
  refine (rtexts_any g g 9 fails (by decide) ok_fails w7 HR7.out).mono ?_
  rintro e w8 ⟨v8, rfl, hv8, hr8, ho8⟩
  rw [(fails_texts 9).1] at hv8
  rw [(fails_texts 9).2] at hr8
  obtain ⟨A8, c8, rfl⟩ : ∃ A c, v8 = .slice A 0 c := by
    rcases hv8.2 with ⟨rfl, _⟩ | ⟨k, cap, cur, rfl, _⟩ <;> exact ⟨_, _, rfl⟩
  have HB8 : Hid (Below w.heap.size w w8) := HB7.out.trans (ho8.below hgw HB7.out.size)
  have HR8 := Lib.hid hr8
  clear hr8 ho8 HB7 HR7 hv8
  go_wp2_with fail
  refine (end_any g g fails w8 HR8.out).mono ?_
  rintro e w9 ⟨rfl, rfl⟩
  rw [show endR fails = 2 from rfl]
  go_wp2_with fail
  go_ret
  exact ⟨rfl, HB8.out⟩
theorem cut_all (s : List By) (n : Nat) (hn : n < 65536) (hm : s.length ≤ maxLen) (w : World) :
    Calls Try.prog 11 #[.string ⟨s.toArray⟩, .int .u16 n] w fun e w' => e = .returned (.bool true) ∧ Below w.heap.size w w' := by
  by_cases h : 200 < s.length
  · exact cut_long s n h hm w
  · exact cut_walk s n hn (by omega) w
end Go.Proofs.Ytefifdejepafgaa
