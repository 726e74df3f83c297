/- The laws' example of name, and the walk of NameRight. -/
import Derived.Test.YthmenbccofhjfaaDoorN4
namespace Go.Proofs.YthmenbccofhjfaaDoor
open Go.RowKit BaseMath WireMath NameMath

theorem path_take (name arch : List By) (refs : List (List By)) : (pathOf name arch refs).take 32 = text (shortU (laidB (sumU arch) refs name)) := by
  unfold pathOf
  rw [List.take_append_of_le_length (by rw [text_length, shortU_length]; decide), List.take_of_length_le (by rw [text_length, shortU_length]; decide)]
theorem path_drop (name arch : List By) (refs : List (List By)) : (pathOf name arch refs).drop 33 = name := by
  unfold pathOf
  have hl : (text (shortU (laidB (sumU arch) refs name))).length = 32 := by rw [text_length, shortU_length]; rfl
  generalize text (shortU (laidB (sumU arch) refs name)) = t at *
  rw [show (33 : Nat) = t.length + 1 by omega, List.drop_append]; simp
theorem path_letters_length (name arch : List By) (refs : List (List By)) : ((pathOf name arch refs).take 32).length = 32 := by rw [path_take, text_length, shortU_length]; rfl
theorem make_lib (b : Nat) (w : World) (ht : Hs.Tabs w) (hb : BytesAt w b 0 [1]) :
    Calls Tryd.prog 19 #[.string ⟨#[108, 105, 98]⟩, .slice (some ⟨b, 0, none⟩) 1 1, .slice none 0 0] w fun e w' => e = .returned (.tuple #[vs (pathOf [108, 105, 98] [1] []), .int .i64 0]) ∧ Below w.heap.size w w' := by
  have hl : (laidB (sumU [1]) [] [108, 105, 98]).length ≤ 1000 := by
    unfold laidB textB textsB
    simp [numB_length, sumU_length]
  exact make_yes [108, 105, 98] (some ⟨b, 0, none⟩) 1 [1] none 0 [] (by decide) ⟨by simp, fun k h => by simp at h, List.Pairwise.nil⟩ (by simp) (by simp) hl w ht (bytes_src hb) (fun h => by simp at h)
set_option maxHeartbeats 1000000 in
theorem splits_any (w : World) (ht : Hs.Tabs w) : Calls Tryd.prog 7 #[] w fun e w' => e = .returned (.bool true) ∧ Below w.heap.size w w' := by
  have HT := Lib.hid ht; clear ht
  go_enter Tryd.func7, Tryd.ntmps7
  go_wp2_with fail
  refine (split_no [97, 45, 98] (by decide) w).mono ?_
  rintro e w1 ⟨rfl, hb1⟩
  have hb2 : Below w.heap.size w (w1.alloc (.cells #[.int .u8 1] 5)) := hb1.alloc hb1.size _
  have HB2 := Lib.hid hb2
  have HS2 : Hid (BytesAt (w1.alloc (.cells #[.int .u8 1] 5)) w1.heap.size 0 [1]) := Blk.bytes (l := [1]) (tl := []) (Blk.new w1 5 #[vb 1])
  clear hb1 hb2
  go_wp2_with fail
  generalize w1.alloc (.cells #[.int .u8 1] 5) = w2 at *
  refine (make_lib w1.heap.size w2 (HT.out.below HB2.out HT.out.size) HS2.out).mono ?_
  rintro e w3 ⟨rfl, hb3⟩
  have HB3 : Hid (Below w.heap.size w w3) := HB2.out.trans (hb3.mono HB2.out.size)
  have HP := Lib.hid (path_is (name := [108, 105, 98]) (arch := [1]) (refs := []) (by decide))
  have H1 := Lib.hid (path_letters_length [108, 105, 98] [1] []); have H2 := Lib.hid (path_drop [108, 105, 98] [1] [])
  generalize pathOf [108, 105, 98] [1] [] = p at *
  clear hb3 HB2 HS2
  go_wp2_with fail
  refine (split_yes p HP.out w3).mono ?_
  rintro e w4 ⟨rfl, hb4⟩
  have HB4 : Hid (Below w.heap.size w w4) := HB3.out.trans (hb4.mono HB3.out.size)
  clear hb4 HB3
  rw [H2.out]
  have hl : (p.take 32).length = 32 := H1.out
  generalize p.take 32 = t at *
  have hl' : ((t.length : Int) == 32) = true := by rw [beq_iff_eq]; omega
  have HL := Lib.hid hl; clear hl H1
  go_wp2_with fail
  go_ret
  exact ⟨rfl, HB4.out⟩
set_option maxHeartbeats 1000000 in
theorem right_walk (s : List By) (w : World) (hs : s.length ≤ maxLen) (ht : Hs.Tabs w) :
    Calls Tryd.prog 3 #[vs s] w fun e w' => e = .returned (.bool true) ∧ Below w.heap.size w w' := by
  unfold maxLen at hs
  have HT := Lib.hid ht; clear ht
  by_cases h : 200 < s.length
  · have h' : (200 : Int) < s.length := by omega
    go_enter Tryd.func3, Tryd.ntmps3
    go_wp2_with fail
    refine (splits_any w HT.out).mono ?_
    rintro e w1 ⟨rfl, hb⟩
    have HB := Lib.hid hb; clear hb
    go_wp2_with fail
    go_ret
    exact ⟨rfl, HB.out⟩
  · have h' : ¬ (200 : Int) < s.length := by omega
    go_enter Tryd.func3, Tryd.ntmps3
    go_wp2_with fail
    refine (split_any s w).mono ?_
    rintro e w1 ⟨rfl, hb1⟩
    have HB1 := Lib.hid hb1; clear hb1
    go_wp2_with fail
    refine (rsplit_any s w1).mono ?_
    rintro e w2 ⟨rfl, hb2⟩
    have HB2 : Hid (Below w.heap.size w w2) := HB1.out.trans (hb2.mono HB1.out.size)
    clear hb2 HB1
    generalize lettersB s = x1 at *
    generalize titleB s = x2 at *
    go_wp2_with fail
    refine (splits_any w2 (HT.out.below HB2.out HT.out.size)).mono ?_
    rintro e w3 ⟨rfl, hb3⟩
    have HB3 : Hid (Below w.heap.size w w3) := HB2.out.trans (hb3.mono HB2.out.size)
    clear hb3 HB2
    go_wp2_with fail
    refine (right_any s w3).mono ?_
    rintro e w4 ⟨rfl, rfl⟩
    generalize hr : rightB s = r
    have HR := Lib.hid hr; clear hr
    go_wp2_with fail
    refine (rright_any s w3).mono ?_
    rintro e w4 ⟨rfl, rfl⟩
    rw [HR.out]
    go_wp2_with fail
    refine (is_any s w3).mono ?_
    rintro e w4 ⟨rfl, hb4⟩
    have HB4 : Hid (Below w.heap.size w w4) := HB3.out.trans (hb4.mono HB3.out.size)
    clear hb4 HB3
    generalize pathB s = pb at *
    go_wp2_with fail
    go_ret
    exact ⟨rfl, HB4.out⟩
end Go.Proofs.YthmenbccofhjfaaDoor
