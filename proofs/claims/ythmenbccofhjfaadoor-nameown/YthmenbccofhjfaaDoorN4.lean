/- The contracts of mayRefer and Make, where a path is made. -/
import Derived.Test.YthmenbccofhjfaaDoorN2
import Derived.Test.YthmenbccofhjfaaDoorN3
namespace Go.Proofs.YthmenbccofhjfaaDoor
open Go.RowKit BaseMath WireMath NameMath

/-- the path of a name, an archive, refs -/
def pathOf (name arch : List By) (refs : List (List By)) : List By := text (shortU (laidB (sumU arch) refs name)) ++ 45 :: name
theorem path_is {name arch : List By} {refs : List (List By)} (h : rightB name = true) : pathB (pathOf name arch refs) = true := path_letters (shortU_length _) name h
def PathsOk (l : List (List By)) : Prop := l.length ≤ 255 ∧ (∀ k (h : k < l.length), pathB l[k] = true) ∧ Rises l
theorem rises_at {l : List (List By)} (h : Rises l) (k : Nat) (h0 : 0 < k) (hk : k < l.length) : Op.bytesLess (l[k - 1]'(by omega)) l[k] = true :=
  List.pairwise_iff_getElem.1 h (k - 1) k (by omega) hk (by omega)
set_option maxHeartbeats 1000000 in
theorem may_yes (A : Option Addr) (c : Nat) (l : List (List By)) (h : PathsOk l) (w : World) (hA : StrsIs w A l) :
    Calls Tryd.prog 31 #[.slice A l.length c] w fun e w' => e = .returned (.bool true) ∧ Below w.heap.size w w' := by
  obtain ⟨h1, h2, h3⟩ := h
  have HA := Lib.hid hA; have H2 := Lib.hid h2; have H3 := Lib.hid h3
  have h1' : ¬ (255 : Int) < l.length := by omega
  clear hA h2 h3
  go_enter Tryd.func31, Tryd.ntmps31
  go_wp2_with fail
  go_loopw [10] (fun vi wr => ∃ k : Nat, k ≤ l.length ∧ vi = .int .i64 k ∧ Hid (Below w.heap.size w wr)) (fun vi _ => l.length - (intOf vi).toNat)
  case atStart => exact ⟨0, Nat.zero_le _, rfl, Below.refl _ _⟩
  case round =>
    obtain ⟨k, hk, rfl, HB⟩ := hrel
    rename World => W0
    by_cases hlt : k < l.length
    · obtain ⟨b, o, rfl, hc⟩ := (HA.out.below HB.out HA.out.lt) (by omega)
      have c1 := hc k hlt
      have hp : pathB l[k] = true := H2.out k hlt
      have HP := Lib.hid hp
      by_cases h0 : 0 < k
      · have c2 := hc (k - 1) (by omega)
        have hbl := rises_at H3.out k h0 hlt
        have HC2 : Hid (∀ W, Below W0.heap.size W0 W → W.cell? ⟨b, o + (k - 1), none⟩ = some (vs (l[k - 1]'(by omega)))) := fun W hW => by rw [hW.cell (p := ⟨b, o + (k - 1), none⟩) (block_of_cell c2)]; exact c2
        clear hc hp c2
        generalize l[k] = x at *
        generalize l[k - 1]'(by omega) = y at *
        have h0' : (0 : Int) < k := by omega
        go_wp2_with fail
        refine (is_any x W0).mono ?_
        rintro e w1 ⟨rfl, hb⟩
        rw [HP.out]
        have c2 := HC2.out w1 hb
        have HB1 : Hid (Below w.heap.size w w1) := HB.out.trans (hb.mono HB.out.size)
        clear hb HB HC2
        go_wp2_with fail
        go_roundw
        case rel => exact ⟨k + 1, by omega, by go_num, HB1.out⟩
        case measure => simp [intOf]; omega
      · obtain rfl : k = 0 := by omega
        rw [Nat.add_zero] at c1
        clear hc hp
        generalize l[0] = x at *
        go_wp2_with fail
        refine (is_any x W0).mono ?_
        rintro e w1 ⟨rfl, hb⟩
        rw [HP.out]
        have HB1 : Hid (Below w.heap.size w w1) := HB.out.trans (hb.mono HB.out.size)
        clear hb HB
        go_wp2_with fail
        go_roundw
        case rel => exact ⟨1, by omega, by go_num, HB1.out⟩
        case measure => simp [intOf]; omega
    · obtain rfl : k = l.length := by omega
      go_wp2_with fail
      go_ret
      exact ⟨rfl, HB.out⟩
theorem writer_new (w : World) : WrIs (w.alloc (.cells #[.slice none 0 0] 57)) w.heap.size w.heap.size (.slice none 0 0) [] :=
  ⟨Blk.new w 57 _, World.ownsRow_nil _ _ _ _, Nat.le_refl _⟩
theorem cat_path (t n : List By) : (ByteArray.mk t.toArray ++ ByteArray.mk #[45]) ++ ByteArray.mk n.toArray = ⟨(t ++ 45 :: n).toArray⟩ := by
  apply ByteArray.ext
  simp [ByteArray.data_append]
set_option maxHeartbeats 2000000 in
theorem make_yes (name : List By) (A : Option Addr) (ca : Nat) (arch : List By) (B : Option Addr) (cb : Nat) (refs : List (List By)) (hn : rightB name = true) (hr : PathsOk refs) (ha : arch.length ≤ 1000) (hca : arch.length ≤ ca)
    (hl : (laidB (sumU arch) refs name).length ≤ 1000) (w : World) (ht : Hs.Tabs w) (hA : SrcIs w A arch) (hB : StrsIs w B refs) :
    Calls Tryd.prog 19 #[vs name, .slice A arch.length ca, .slice B refs.length cb] w fun e w' => e = .returned (.tuple #[vs (pathOf name arch refs), .int .i64 0]) ∧ Below w.heap.size w w' := by
  have HN := Lib.hid hn; have HR := Lib.hid hr; have HT := Lib.hid ht; have HA := Lib.hid hA; have HBr := Lib.hid hB
  have HL := Lib.hid hl
  clear hn hr ht hA hB hl
  go_enter Tryd.func19, Tryd.ntmps19
  go_wp2_with fail
  refine (right_any name w).mono ?_
  rintro e w1 ⟨rfl, rfl⟩
  rw [HN.out]
  go_wp2_with fail
  refine (may_yes B cb refs HR.out w HBr.out).mono ?_
  rintro e w1 ⟨rfl, hb1⟩
  have hb2 : Below w.heap.size w (w1.alloc (.cells #[.slice none 0 0] 57)) := hb1.alloc hb1.size _
  have HB2 := Lib.hid hb2
  have HW2 := Lib.hid (writer_new w1)
  have hs1 : w.heap.size ≤ w1.heap.size := hb1.size
  clear hb1 hb2
  go_wp2_with fail
  generalize w1.alloc (.cells #[.slice none 0 0] 57) = w2 at *
  generalize w1.heap.size = g at *
  refine (sumU_any A ca arch ha hca w2 (HT.out.below HB2.out HT.out.size) (HA.out.below HB2.out)).mono ?_
  rintro e w3 ⟨As, cs, rfl, hs, -, -, hb3⟩
  have hcv := run_text_src (cap := cs) hs
  rw [sumU_length] at hcv ⊢
  have HW3 := Lib.hid (HW2.out.below hb3)
  have HB3 : Hid (Below w.heap.size w w3) := HB2.out.trans (hb3.mono HB2.out.size)
  have HSL := Lib.hid (sumU_length arch)
  have HDEF : Hid (pathOf name arch refs = text (shortU (laidB (sumU arch) refs name)) ++ 45 :: name) := rfl
  generalize sumU arch = sm at *
  clear hs hb3 HB2 HW2
  go_wp2_with fail
  have HLN : Hid ((textB sm).length + (textsB refs).length + (textB name).length ≤ 1000) := by have := HL.out; unfold laidB at this; simp only [List.length_append] at this; exact this
  have HTB : Hid ((textB sm).length = 34) := by show _ = _; unfold textB; rw [List.length_append, numB_length, HSL.out]
  have hgs : g ≤ w3.heap.size := Nat.le_of_lt HW3.out.blk.lt
  refine (wtext_any g g (.slice none 0 0) [] sm (by have := HSL.out; simp; omega) w3 HW3.out).mono ?_
  rintro e w4 ⟨rfl, v4, h4, t4⟩
  have hb4 := t4.below HW3.out hgs
  have HB4 : Hid (Below w.heap.size w w4) := HB3.out.trans (hb4.mono hs1)
  have HW4 := Lib.hid h4
  have hgs4 : g ≤ w4.heap.size := Nat.le_of_lt h4.blk.lt
  clear h4 t4 hb4 HW3 HB3 hcv
  go_wp2_with fail
  refine (wtexts_any g g v4 ([] ++ textB sm) B cb refs HR.out.1 (by have h1 := HLN.out; have h2 := HTB.out; unfold textsB at h1; simp only [List.length_append, List.nil_append, List.length_cons, List.length_nil] at h1 ⊢; omega) w4 HW4.out (HBr.out.below HB4.out HBr.out.lt)
    (fun h0 a ha => Nat.lt_of_lt_of_le (HBr.out.lt h0 a ha) hs1)).mono ?_
  rintro e w5 ⟨rfl, v5, h5, t5⟩
  have hb5 := t5.below HW4.out hgs4
  have HB5 : Hid (Below w.heap.size w w5) := HB4.out.trans (hb5.mono hs1)
  have HW5 := Lib.hid h5
  have hgs5 : g ≤ w5.heap.size := Nat.le_of_lt h5.blk.lt
  clear h5 t5 hb5 HW4 HB4
  go_wp2_with fail
  refine (wtext_any g g v5 ([] ++ textB sm ++ textsB refs) name (by have h1 := HLN.out; unfold textB at h1; simp only [List.length_append, List.nil_append, numB_length] at h1 ⊢; unfold textB; simp only [List.length_append, numB_length]; omega) w5 HW5.out).mono ?_
  rintro e w6 ⟨rfl, v6, h6, t6⟩
  have hb6 := t6.below HW5.out hgs5
  have HB6 : Hid (Below w.heap.size w w6) := HB5.out.trans (hb6.mono hs1)
  have HW6 : Hid (WrIs w6 g g v6 (laidB sm refs name)) := by show WrIs _ _ _ _ _; unfold laidB; simpa using h6
  clear h6 t6 hb6 HW5 HB5
  go_wp2_with fail
  refine (wbytes_any g g v6 (laidB sm refs name) (by have := HL.out; omega) w6 HW6.out).mono ?_
  rintro e w7 ⟨v7, rfl, hr7⟩
  obtain ⟨A7, c7, he7, hs7, -, hl7, hb7⟩ := newU_row hr7
  injection he7 with he7
  subst he7
  have HB7 : Hid (Below w.heap.size w w7) := HB6.out.trans (hb7.mono HB6.out.size)
  have HS7 := Lib.hid hs7
  clear hr7 hs7 hb7 HW6 HB6 HTB HLN
  go_wp2_with fail
  refine (shortU_any A7 c7 (laidB sm refs name) HL.out hl7 w7 (HT.out.below HB7.out HT.out.size) HS7.out).mono ?_
  rintro e w8 ⟨A8, c8, rfl, hs8, -, -, hb8⟩
  have HB8 : Hid (Below w.heap.size w w8) := HB7.out.trans (hb8.mono HB7.out.size)
  have HS8 := Lib.hid hs8
  clear hs8 hb8 HS7 HB7
  go_wp2_with fail
  refine (text_any A8 c8 (shortU (laidB sm refs name)) (by rw [shortU_length]; omega) w8 HS8.out).mono ?_
  rintro e w9 ⟨rfl, hb9⟩
  have HB9 : Hid (Below w.heap.size w w9) := HB8.out.trans (hb9.mono HB8.out.size)
  clear hb9 HS8 HB8
  have HTL : Hid ((text (shortU (laidB sm refs name))).length = 32) := by show _ = _; rw [text_length, shortU_length]; rfl
  generalize text (shortU (laidB sm refs name)) = tx at *
  have HNL : Hid (name.length ≤ 40) := by have := HN.out; unfold rightB at this; simp at this; show _ ≤ _; omega
  have htl : tx.length ≤ 32 := by have := HTL.out; omega
  have hnl : name.length ≤ 40 := HNL.out
  go_wp2_with fail
  go_ret2
  refine ⟨?_, HB9.out⟩
  rw [HDEF.out, cat_path]; rfl
end Go.Proofs.YthmenbccofhjfaaDoor
