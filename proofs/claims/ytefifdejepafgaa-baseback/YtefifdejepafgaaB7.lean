/- The document's examples of base, and the walks of BaseLens, BaseLetters, BaseTurned. -/
import Derived.Test.YtefifdejepafgaaB6
namespace Go.Proofs.Ytefifdejepafgaa
open Go.RowKit BaseMath

theorem bytes_good (s : List By) (hs : s.length ≤ 100000) (h : good s = true) (w : World) :
    Calls Try.prog 17 #[.string ⟨s.toArray⟩] w fun e w' => ∃ v, e = .returned (.tuple #[v, .int .i64 0]) ∧ RowRel w 5 ((dec s).map vb) v w' :=
  (bytes_any s hs w).mono fun e w' hp => by
    rcases hp with ⟨_, hp⟩ | ⟨h2, _⟩
    · exact hp
    · rw [h] at h2; cases h2
theorem bytes_bad (s : List By) (hs : s.length ≤ 100000) (h : good s = false) (w : World) :
    Calls Try.prog 17 #[.string ⟨s.toArray⟩] w fun e w' => e = .returned (.tuple #[.slice none 0 0, .int .i64 2]) ∧ Below w.heap.size w w' :=
  (bytes_any s hs w).mono fun e w' hp => by
    rcases hp with ⟨h2, _⟩ | ⟨_, hp⟩
    · rw [h] at h2; cases h2
    · exact hp
theorem refbytes_good (s : List By) (hs : s.length ≤ 100000) (h : good s = true) (w : World) :
    Calls Try.prog 21 #[.string ⟨s.toArray⟩] w fun e w' => ∃ v, e = .returned (.tuple #[v, .int .i64 0]) ∧ RowRel w 5 ((dec s).map vb) v w' :=
  (refbytes_any s hs w).mono fun e w' hp => by
    rcases hp with ⟨_, hp⟩ | ⟨h2, _⟩
    · exact hp
    · rw [h] at h2; cases h2
theorem refbytes_bad (s : List By) (hs : s.length ≤ 100000) (h : good s = false) (w : World) :
    Calls Try.prog 21 #[.string ⟨s.toArray⟩] w fun e w' => e = .returned (.tuple #[.slice none 0 0, .int .i64 2]) ∧ Below w.heap.size w w' :=
  (refbytes_any s hs w).mono fun e w' hp => by
    rcases hp with ⟨h2, _⟩ | ⟨_, hp⟩
    · rw [h] at h2; cases h2
    · exact hp
theorem zz_bad : good [122, 122] = false := by decide +kernel
theorem text_255 : text [255] = [122, 119] := by decide +kernel
theorem one_src (w : World) (x : By) : SrcIs (w.alloc (.cells #[vb x] 5)) (some ⟨w.heap.size, 0, none⟩) [x] :=
  bytes_src (Blk.bytes (l := [x]) (tl := []) (Blk.new w 5 #[vb x]))
set_option maxHeartbeats 1000000 in
theorem two_any (w : World) : Calls Try.prog 15 #[] w fun e w' => e = .returned (.bool true) ∧ Below w.heap.size w w' := by
  go_enter Try.func15, Try.ntmps15
  go_wp2_with fail
  refine (bytes_bad [122, 122] (by decide) zz_bad w).mono ?_
  rintro e w1 ⟨rfl, hb1⟩
  have HB1 := Lib.hid hb1; clear hb1
  go_wp2_with fail
  refine (text_any (some ⟨w1.heap.size, 0, none⟩) 1 [255] (by decide) _ (one_src w1 255)).mono ?_
  rintro e w2 ⟨rfl, hb2⟩
  rw [text_255]
  have HB2 : Hid (Below w.heap.size w w2) := (HB1.out.alloc HB1.out.size _).trans (hb2.mono (by have := HB1.out.size; simp; omega))
  clear hb2
  go_wp2_with fail
  refine (len_any 20 (by decide) w2).mono ?_
  rintro e w3 ⟨rfl, rfl⟩
  go_wp2_with fail
  go_ret
  exact ⟨rfl, HB2.out⟩
set_option maxHeartbeats 1000000 in
theorem lens_walk (n : Int) (h0 : -9223372036854775808 ≤ n) (h1 : n ≤ 9223372036854775807) (w : World) :
    Calls Try.prog 7 #[.int .i64 n] w fun e w' => e = .returned (.bool true) ∧ Below w.heap.size w w' := by
  by_cases hn : n ≤ 0
  · have hn1 : ¬ (1125899906842624 < n) := by omega
    go_enter Try.func7, Try.ntmps7
    go_wp2_with fail
    refine (len_low n hn w).mono ?_
    rintro e w1 ⟨rfl, rfl⟩
    go_wp2_with fail
    refine (two_any w).mono ?_
    rintro e w1 ⟨rfl, hb⟩
    have HB := Lib.hid hb; clear hb
    go_wp2_with fail
    go_ret
    exact ⟨rfl, HB.out⟩
  · obtain ⟨k, HK⟩ : ∃ k : Int, Hid (n / 5 * 8 + (n % 5 * 8 + 4) / 5 = k) := ⟨_, rfl⟩
    have hk1 : 8 * n ≤ 5 * k := by have := HK.out; omega
    have hk2 : 5 * (k - 1) < 8 * n := by have := HK.out; omega
    have hk3 : 0 ≤ k := by omega
    by_cases hbig : 1125899906842624 < n
    · obtain ⟨r, HRr⟩ : ∃ r : Int, Hid (n % 1125899906842624 = r) := ⟨_, rfl⟩
      have hr0 : 0 ≤ r := by have := HRr.out; omega
      have hr1 : r ≤ 1125899906842624 := by have := HRr.out; omega
      clear hk1 hk2 hk3 HK
      by_cases hr : r ≤ 0
      · go_enter Try.func7, Try.ntmps7
        go_wp2_with fail
        rw [HRr.out]
        refine (len_low r hr w).mono ?_
        rintro e w1 ⟨rfl, rfl⟩
        go_wp2_with fail
        refine (two_any w).mono ?_
        rintro e w1 ⟨rfl, hb⟩
        have HB := Lib.hid hb; clear hb
        go_wp2_with fail
        go_ret
        exact ⟨rfl, HB.out⟩
      · obtain ⟨k, HK⟩ : ∃ k : Int, Hid (r / 5 * 8 + (r % 5 * 8 + 4) / 5 = k) := ⟨_, rfl⟩
        have hk1 : 8 * r ≤ 5 * k := by have := HK.out; omega
        have hk2 : 5 * (k - 1) < 8 * r := by have := HK.out; omega
        have hk3 : 0 ≤ k := by omega
        go_enter Try.func7, Try.ntmps7
        go_wp2_with fail
        rw [HRr.out]
        refine (len_int r (by omega) hr1 w).mono ?_
        rintro e w1 ⟨rfl, rfl⟩
        rw [HK.out]
        go_wp2_with fail
        refine (two_any w).mono ?_
        rintro e w1 ⟨rfl, hb⟩
        have HB := Lib.hid hb; clear hb
        go_wp2_with fail
        go_ret
        exact ⟨rfl, HB.out⟩
    · have hbig' : n ≤ 1125899906842624 := by omega
      go_enter Try.func7, Try.ntmps7
      go_wp2_with fail
      refine (len_int n (by omega) hbig' w).mono ?_
      rintro e w1 ⟨rfl, rfl⟩
      rw [HK.out]
      go_wp2_with fail
      refine (two_any w).mono ?_
      rintro e w1 ⟨rfl, hb⟩
      have HB := Lib.hid hb; clear hb
      go_wp2_with fail
      go_ret
      exact ⟨rfl, HB.out⟩
end Go.Proofs.Ytefifdejepafgaa
