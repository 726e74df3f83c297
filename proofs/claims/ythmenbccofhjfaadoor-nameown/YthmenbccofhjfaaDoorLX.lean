import Derived.Test.YthmenbccofhjfaaDoorN4
import Derived.Test.YthmenbccofhjfaaDoorN6
import Derived.Deep.RegionHeld3
/- The laws' example of name, and the walk of NameRight. -/
namespace Go.Proofs.YthmenbccofhjfaaDoor
open Go.RowKit BaseMath WireMath NameMath

theorem path_take (name arch : List By) (refs : List (List By)) : (pathOf name arch refs).take 32 = text (shortU (laidB (sumU arch) refs name)) := by
  unfold pathOf
  rw [List.take_append_of_le_length (by rw [text_length, shortU_length]; decide), List.take_of_length_le (by rw [text_length, shortU_length]; decide)]
theorem path_drop (name arch : List By) (refs : List (List By)) : (pathOf name arch refs).drop 33 = name := by
  unfold pathOf
  have hl : (text (shortU (laidB (sumU arch) refs name))).length = 32 := by rw [text_length, shortU_length]; rfl
  generalize text (shortU (laidB (sumU arch) refs name)) = t at *
  rw [show (33 : Nat) = t.length + 1 by omega, List.drop_append]; simp
theorem path_letters_length (name arch : List By) (refs : List (List By)) : ((pathOf name arch refs).take 32).length = 32 := by rw [path_take, text_length, shortU_length]; rfl
theorem make_lib (b : Nat) (w : World) (ht : Hs.Tabs w) (hb : BytesAt w b 0 [1]) :
    Calls Tryd.prog 19 #[.string ⟨#[108, 105, 98]⟩, .slice (some ⟨b, 0, none⟩) 1 1, .slice none 0 0] w fun e w' => e = .returned (.tuple #[vs (pathOf [108, 105, 98] [1] []), .int .i64 0]) ∧ Below w.heap.size w w' := by
  have hl : (laidB (sumU [1]) [] [108, 105, 98]).length ≤ 1000 := by
    unfold laidB textB textsB
    simp [numB_length, sumU_length]
  exact make_yes [108, 105, 98] (some ⟨b, 0, none⟩) 1 [1] none 0 [] (by decide) ⟨by simp, fun k h => by simp at h, List.Pairwise.nil⟩ (by simp) (by simp) hl w ht (bytes_src hb) (fun h => by simp at h)
set_option maxHeartbeats 1000000 in
theorem splits_any (w : World) (ht : Hs.Tabs w) : Calls Tryd.prog 7 #[] w fun e w' => e = .returned (.bool true) ∧ Below w.heap.size w w' := by
  have HT := Lib.hid ht; clear ht
  go_enter Tryd.func7, Tryd.ntmps7
  go_wp2_with fail
  refine (split_no [97, 45, 98] (by decide) w).mono ?_
  rintro e w1 ⟨rfl, hb1⟩
  have hb2 : Below w.heap.size w (w1.alloc (.cells #[.int .u8 1] 5)) := hb1.alloc hb1.size _
  have HB2 := Lib.hid hb2
  have HS2 : Hid (BytesAt (w1.alloc (.cells #[.int .u8 1] 5)) w1.heap.size 0 [1]) := Blk.bytes (l := [1]) (tl := []) (Blk.new w1 5 #[vb 1])
  clear hb1 hb2
  go_wp2_with fail
  generalize w1.alloc (.cells #[.int .u8 1] 5) = w2 at *
  refine (make_lib w1.heap.size w2 (HT.out.below HB2.out HT.out.size) HS2.out).mono ?_
  rintro e w3 ⟨rfl, hb3⟩
  have HB3 : Hid (Below w.heap.size w w3) := HB2.out.trans (hb3.mono HB2.out.size)
  have HP := Lib.hid (path_is (name := [108, 105, 98]) (arch := [1]) (refs := []) (by decide))
  have H1 := Lib.hid (path_letters_length [108, 105, 98] [1] []); have H2 := Lib.hid (path_drop [108, 105, 98] [1] [])
  generalize pathOf [108, 105, 98] [1] [] = p at *
  clear hb3 HB2 HS2
  go_wp2_with fail
  refine (split_yes p HP.out w3).mono ?_
  rintro e w4 ⟨rfl, hb4⟩
  have HB4 : Hid (Below w.heap.size w w4) := HB3.out.trans (hb4.mono HB3.out.size)
  clear hb4 HB3
  rw [H2.out]
  have hl : (p.take 32).length = 32 := H1.out
  generalize p.take 32 = t at *
  have hl' : ((t.length : Int) == 32) = true := by rw [beq_iff_eq]; omega
  have HL := Lib.hid hl; clear hl H1
  go_wp2_with fail
  go_ret
  exact ⟨rfl, HB4.out⟩
set_option maxHeartbeats 1000000 in
theorem right_walk (s : List By) (w : World) (hs : s.length ≤ maxLen) (ht : Hs.Tabs w) :
    Calls Tryd.prog 3 #[vs s] w fun e w' => e = .returned (.bool true) ∧ Below w.heap.size w w' := by
  unfold maxLen at hs
  have HT := Lib.hid ht; clear ht
  by_cases h : 200 < s.length
  · have h' : (200 : Int) < s.length := by omega
    go_enter Tryd.func3, Tryd.ntmps3
    go_wp2_with fail
    refine (splits_any w HT.out).mono ?_
    rintro e w1 ⟨rfl, hb⟩
    have HB := Lib.hid hb; clear hb
    go_wp2_with fail
    go_ret
    exact ⟨rfl, HB.out⟩
  · have h' : ¬ (200 : Int) < s.length := by omega
    go_enter Tryd.func3, Tryd.ntmps3
    go_wp2_with fail
    refine (split_any s w).mono ?_
    rintro e w1 ⟨rfl, hb1⟩
    have HB1 := Lib.hid hb1; clear hb1
    go_wp2_with fail
    refine (rsplit_any s w1).mono ?_
    rintro e w2 ⟨rfl, hb2⟩
    have HB2 : Hid (Below w.heap.size w w2) := HB1.out.trans (hb2.mono HB1.out.size)
    clear hb2 HB1
    generalize lettersB s = x1 at *
    generalize titleB s = x2 at *
    go_wp2_with fail
    refine (splits_any w2 (HT.out.below HB2.out HT.out.size)).mono ?_
    rintro e w3 ⟨rfl, hb3⟩
    have HB3 : Hid (Below w.heap.size w w3) := HB2.out.trans (hb3.mono HB2.out.size)
    clear hb3 HB2
    go_wp2_with fail
    refine (right_any s w3).mono ?_
    rintro e w4 ⟨rfl, rfl⟩
    generalize hr : rightB s = r
    have HR := Lib.hid hr; clear hr
    go_wp2_with fail
    refine (rright_any s w3).mono ?_
    rintro e w4 ⟨rfl, rfl⟩
    rw [HR.out]
    go_wp2_with fail
    refine (is_any s w3).mono ?_
    rintro e w4 ⟨rfl, hb4⟩
    have HB4 : Hid (Below w.heap.size w w4) := HB3.out.trans (hb4.mono HB3.out.size)
    clear hb4 HB3
    generalize pathB s = pb at *
    go_wp2_with fail
    go_ret
    exact ⟨rfl, HB4.out⟩
end Go.Proofs.YthmenbccofhjfaaDoor

/- The walk of NamePaths. -/
namespace Go.Proofs.YthmenbccofhjfaaDoor
open Go.RowKit BaseMath WireMath NameMath

theorem path_title (p title : List By) (hp : p.length = 20) : pathB (text p ++ 45 :: title) = rightB title := by
  cases h : rightB title with
  | true => exact path_letters hp title h
  | false =>
    have hl : (text p).length = 32 := by rw [text_length, hp]; rfl
    have e2 : (text p ++ 45 :: title).drop 33 = title := by
      rw [show (33 : Nat) = (text p).length + 1 by omega, List.drop_append]; simp
    unfold pathB
    rw [e2, h]; simp
theorem cat2 (a b : List By) : ByteArray.mk a.toArray ++ ByteArray.mk b.toArray = ⟨(a ++ b).toArray⟩ := by
  apply ByteArray.ext
  simp [ByteArray.data_append]
/-- a text turned into bytes: cells that may be written -/
structure Free (w : World) (g : Nat) (s : List By) : Prop where
  at' : BytesAt w g 0 s
  free : ∀ j, j < s.length → w.frozen? ⟨g, j, none⟩ = false
theorem Free.set {w : World} {g : Nat} {s : List By} (h : Free w g s) (m : Nat) (c : By) : BytesAt (w.setCell ⟨g, m, none⟩ (vb c)) g 0 (s.set m c) := by
  intro k hk
  rw [List.length_set] at hk
  have h0 := h.at' k hk
  rw [Nat.zero_add] at h0 ⊢
  rw [List.getElem_set]
  by_cases e : m = k
  · subst e
    rw [World.cell?_setCell_same _ _ _ h0, if_pos rfl]
  · rw [World.cell?_setCell_other _ _ _ _ (by intro h; cases h; exact e rfl), h0, if_neg e]
theorem str_free (s : List By) (w : World) : ∃ c w2, (convert 9 26 (.string ⟨s.toArray⟩)).run Tryd.prog w = .ok (.slice (some ⟨w.heap.size, 0, none⟩) s.length c) w2 ∧ Free w2 w.heap.size s ∧ Below w.heap.size w w2 := by
  have h := run_bytes_of_string (P := Tryd.prog) w 9 26 5 ⟨s.toArray⟩ Tryd.underlying9 Tryd.underlying26 Tryd.underlying5
  have hs : (ByteArray.mk s.toArray).size = s.length := by simp [ByteArray.size]
  rw [hs] at h
  refine ⟨_, _, h, ⟨fun k hk => ?_, fun j hj => ?_⟩, (Below.refl _ _).drew.alloc (Nat.le_refl _) _⟩
  · rw [Nat.zero_add]
    have hc := World.cell?_alloc_mark w.drew (bytesRow ⟨s.toArray⟩ (grownCap w s.length 0 5)) 5 ((bytesRow ⟨s.toArray⟩ (grownCap w s.length 0 5)).size, (bytesRow ⟨s.toArray⟩ (grownCap w s.length 0 5)).size + 1) k
    refine Eq.trans hc ?_
    rw [bytesRow_at _ _ _ (by simpa using hk)]
    simp
  · have hf := World.frozen?_alloc_mark w.drew (bytesRow ⟨s.toArray⟩ (grownCap w s.length 0 5)) 5 (bytesRow ⟨s.toArray⟩ (grownCap w s.length 0 5)).size ((bytesRow ⟨s.toArray⟩ (grownCap w s.length 0 5)).size + 1) j
    refine Eq.trans hf ?_
    have hj' : j < (bytesRow ⟨s.toArray⟩ (grownCap w s.length 0 5)).size := by
      have h0 := bytesRow_at ⟨s.toArray⟩ (grownCap w s.length 0 5) j (by simpa using hj)
      exact (Array.getElem?_eq_some_iff.1 h0).1
    simp; omega
theorem make_n (t : Value) (A : Option Addr) (ca : Nat) (arch : List By) (ha : arch.length ≤ 1000) (hNA : A = none → ca = 0) (w : World) (ht : Hs.HasherIs w t) (hA : SrcIs w A arch) :
    Calls Tryd.prog 13 #[t, .string ⟨#[110]⟩, .slice A arch.length ca, .slice none 0 0] w fun e w' => e = .returned (.tuple #[vs (pathOf [110] arch []), .int .i64 0]) ∧ Below w.heap.size w w' := by
  have hl : (laidB (sumU arch) [] [110]).length ≤ 1000 := by
    unfold laidB textB textsB
    simp [numB_length, sumU_length]
  exact rmake_yes t [110] A ca arch none 0 [] (by decide) ⟨by simp, fun k h => by simp at h, List.Pairwise.nil⟩ ha hNA hl w ht hA (fun h => by simp at h)
set_option maxHeartbeats 2000000 in
theorem paths_walk (A : Option Addr) (ca : Nat) (p : List By) (title : List By) (at' c : By) (w : World) (hm : p.length ≤ maxLen) (hNA : A = none → ca = 0) (hA : SrcIs w A p) (htl : title.length ≤ maxLen) (ht : Hs.Tabs w) :
    Calls Tryd.prog 4 #[.slice A p.length ca, vs title, vb at', vb c] w fun e w' => e = .returned (.bool true) ∧ Below w.heap.size w w' := by
  unfold maxLen at hm htl
  have HT := Lib.hid ht; have HA := Lib.hid hA; have HNA := Lib.hid hNA; clear ht hA hNA
  by_cases h : p.length ≤ 100 ∧ title.length ≤ 60
  · obtain ⟨h1, h2⟩ := h
    have h1' : ¬ (100 : Int) < p.length := by omega
    have h2' : ¬ (60 : Int) < title.length := by omega
    go_enter Tryd.func4, Tryd.ntmps4
    go_wp2_with fail
    refine (splits_any w HT.out).mono ?_
    rintro e w1 ⟨rfl, hb1⟩
    have HB1 := Lib.hid hb1; clear hb1
    go_wp2_with fail
    refine (Hs.new_any w1).mono ?_
    rintro e w2 ⟨t, rfl, hh2, hb2⟩
    have HB2 : Hid (Below w.heap.size w w2) := HB1.out.trans (hb2.mono HB1.out.size)
    have HH2 := Lib.hid hh2
    clear hb2 hh2 HB1
    go_wp2_with fail
    refine (make_n t A ca p (by omega) HNA.out w2 HH2.out (HA.out.below HB2.out)).mono ?_
    rintro e w3 ⟨rfl, hb3⟩
    have HB3 : Hid (Below w.heap.size w w3) := HB2.out.trans (hb3.mono HB2.out.size)
    have HP := Lib.hid (path_is (name := [110]) (arch := p) (refs := []) (by decide))
    have HX : Hid ((pathOf [110] p []).take 33 ++ title = text (shortU (laidB (sumU p) [] [110])) ++ 45 :: title) := by
      show _ = _
      have hl : (text (shortU (laidB (sumU p) [] [110]))).length = 32 := by rw [text_length, shortU_length]; rfl
      unfold pathOf
      generalize text (shortU (laidB (sumU p) [] [110])) = tx at *
      rw [List.take_append]
      simp [hl, List.take_of_length_le]
    have HPT := Lib.hid (path_title (shortU (laidB (sumU p) [] [110])) title (shortU_length _))
    have HXL : Hid ((pathOf [110] p []).length = 34) := by
      show _ = _; unfold pathOf; simp [text_length, shortU_length]; rfl
    have HPL := HXL.out
    rw [← HX.out] at HPT
    generalize pathOf [110] p [] = x at *
    clear hb3 HB2 HH2 HX
    go_wp2_with fail
    refine (is_any x w3).mono ?_
    rintro e w4 ⟨rfl, hb4⟩
    rw [HP.out]
    have HB4 : Hid (Below w.heap.size w w4) := HB3.out.trans (hb4.mono HB3.out.size)
    have hxl : (33 : Int) ≤ x.length := by have := HXL.out; omega
    clear hb4 HB3
    go_upto_region 7 with fail
    rw [ext_take, cat2]
    have HSL : Hid ((x.take 33 ++ title).length = 33 + title.length) := by show _ = _; have := HXL.out; rw [List.length_append, List.length_take]; omega
    generalize x.take 33 ++ title = s at *
    have hsl0 : 0 < s.length := by have := HSL.out; omega
    have hsl1 : s.length ≤ 93 := by have := HSL.out; omega
    obtain ⟨cq, w5, hcv, hfr, hb5⟩ := str_free s w4
    have hm : at'.toNat % s.length < s.length := Nat.mod_lt _ hsl0
    have hrem : (at'.toNat : Int) % (s.length : Int) = ((at'.toNat % s.length : Nat) : Int) := by rw [Int.natCast_emod]
    have htm : (at'.toNat : Int).tmod (s.length : Int) = ((at'.toNat % s.length : Nat) : Int) := by rw [Int.tmod_eq_emod_of_nonneg (by omega), Int.natCast_emod]
    have htm2 : (wrap64 (at'.toNat : Int)).tmod (s.length : Int) = ((at'.toNat % s.length : Nat) : Int) := by
      rw [show wrap64 (at'.toNat : Int) = at'.toNat from by have := at'.toNat_lt; unfold wrap64; omega]; exact htm
    generalize at'.toNat % s.length = m at *
    have c5 := hfr.at' m hm; have f5 := hfr.free m hm
    rw [Nat.zero_add] at c5
    have HB5 : Hid (Below w.heap.size w w5) := HB4.out.trans (hb5.mono HB4.out.size)
    have hs4 : w.heap.size ≤ w4.heap.size := HB4.out.size
    have HFR := Lib.hid (bytes_src (hfr.set m c))
    have hset : Below w.heap.size w (w5.setCell ⟨w4.heap.size, m, none⟩ (vb c)) := HB5.out.setCell hs4 _
    have HB6 := Lib.hid hset
    clear hfr hb5 hset HB4 HB5
    go_upto_region 9 with fail
    clear c5 f5 hrem htm htm2 hcv
    generalize w5.setCell ⟨w4.heap.size, m, none⟩ (vb c) = w6 at *
    generalize w4.heap.size = g at *
    have HQL : Hid (s.length = (s.set m c).length) := by show _ = _; simp
    have hcv1 : ∀ W, SrcIs W (some ⟨g, 0, none⟩) (s.set m c) → (convert 26 9 (.slice (some ⟨g, 0, none⟩) s.length cq)).run Tryd.prog W = .ok (.string ⟨(s.set m c).toArray⟩) W := fun W hW => by rw [HQL.out]; exact run_text_src hW
    have HCV := Lib.hid hcv1
    have hcv2 := hcv1 w6 HFR.out
    clear hcv1 HQL
    generalize s.set m c = q at *
    go_wp2_with fail
    refine (split_any q w6).mono ?_
    rintro e w7 ⟨rfl, hb7⟩
    have hcv3 := HCV.out w7 (HFR.out.below hb7)
    have HB7 : Hid (Below w.heap.size w w7) := HB6.out.trans (hb7.mono HB6.out.size)
    clear hb7 HB6 hcv2 HFR
    have HC9 := Lib.hid (rsplit_any q)
    generalize lettersB q = y1 at *
    generalize titleB q = y2 at *
    generalize pathB q = pb at *
    go_wp2_with fail
    refine (HC9.out w7).mono ?_
    rintro e w8 ⟨rfl, hb8⟩
    have HB8 : Hid (Below w.heap.size w w8) := HB7.out.trans (hb8.mono HB7.out.size)
    clear hb8 HB7 hcv3 HC9 HCV
    go_wp2_with fail
    refine (is_any s w8).mono ?_
    rintro e w9 ⟨rfl, hb9⟩
    rw [HPT.out]
    have HB9 : Hid (Below w.heap.size w w9) := HB8.out.trans (hb9.mono HB8.out.size)
    have HCR := Lib.hid (rright_any title)
    clear hb9 HB8 HPT
    generalize rightB title = rt at *
    go_wp2_with fail
    refine (HCR.out w9).mono ?_
    rintro e w10 ⟨rfl, rfl⟩
    go_wp2_with fail
    go_ret
    exact ⟨rfl, HB9.out⟩
  · by_cases h1 : p.length ≤ 100
    · have h1' : ¬ (100 : Int) < p.length := by omega
      have h2' : (60 : Int) < title.length := by have : ¬ title.length ≤ 60 := fun h2 => h ⟨h1, h2⟩; omega
      clear h
      go_enter Tryd.func4, Tryd.ntmps4
      go_wp2_with fail
      refine (splits_any w HT.out).mono ?_
      rintro e w1 ⟨rfl, hb1⟩
      have HB1 := Lib.hid hb1; clear hb1
      go_wp2_with fail
      refine (splits_any w1 (HT.out.below HB1.out HT.out.size)).mono ?_
      rintro e w2 ⟨rfl, hb2⟩
      have HB2 : Hid (Below w.heap.size w w2) := HB1.out.trans (hb2.mono HB1.out.size)
      clear hb2
      go_wp2_with fail
      go_ret
      exact ⟨rfl, HB2.out⟩
    · have h1' : (100 : Int) < p.length := by omega
      clear h
      go_enter Tryd.func4, Tryd.ntmps4
      go_wp2_with fail
      refine (splits_any w HT.out).mono ?_
      rintro e w1 ⟨rfl, hb1⟩
      have HB1 := Lib.hid hb1; clear hb1
      go_wp2_with fail
      refine (splits_any w1 (HT.out.below HB1.out HT.out.size)).mono ?_
      rintro e w2 ⟨rfl, hb2⟩
      have HB2 : Hid (Below w.heap.size w w2) := HB1.out.trans (hb2.mono HB1.out.size)
      clear hb2
      go_wp2_with fail
      go_ret
      exact ⟨rfl, HB2.out⟩
end Go.Proofs.YthmenbccofhjfaaDoor

/- Paths of numbers; the walk of NameOwn. -/
namespace Go.Proofs.YthmenbccofhjfaaDoor
open Go.RowKit BaseMath WireMath NameMath

/-- the path of a number -/
def pathN (x : By) : List By := pathOf [110] [x] []
theorem pathN_is (x : By) : pathB (pathN x) = true := path_is (by decide)
theorem pathOf_length (n a : List By) (r : List (List By)) : (pathOf n a r).length = 33 + n.length := by
  unfold pathOf; rw [List.length_append, text_length, shortU_length, List.length_cons]; show 32 + _ = _; omega
theorem pathN_length (x : By) : (pathN x).length = 34 := pathOf_length _ _ _
theorem make_one (t : Value) (b : Nat) (x : By) (w : World) (ht : Hs.HasherIs w t) (hs : SrcIs w (some ⟨b, 0, none⟩) [x]) :
    Calls Tryd.prog 13 #[t, .string ⟨#[110]⟩, .slice (some ⟨b, 0, none⟩) 1 1, .slice none 0 0] w fun e w' => e = .returned (.tuple #[vs (pathN x), .int .i64 0]) ∧ Below w.heap.size w w' :=
  make_n t (some ⟨b, 0, none⟩) 1 [x] (by simp) (fun h => by cases h) w ht hs
set_option maxHeartbeats 4000000 in
theorem list_any (A : Option Addr) (ca : Nat) (p : List By) (hp : p.length ≤ 1000) (w : World) (hA : SrcIs w A p) :
    Calls Tryd.prog 16 #[.slice A p.length ca] w fun e w' => ∃ v, e = .returned v ∧ RowRel w 9 ((p.map pathN).map vs) v w' := by
  have HA := Lib.hid hA; clear hA
  go_enter Tryd.func16, Tryd.ntmps16
  go_wp2_with fail
  go_loopw [3, 4] (fun v vi wr => ∃ i : Nat, i ≤ p.length ∧ vi = .int .i64 i ∧ Hid (RowRel w 9 (((p.take i).map pathN).map vs) v wr)) (fun _ vi _ => p.length - (intOf vi).toNat)
  case atStart => exact ⟨0, Nat.zero_le _, rfl, RowRel.none _ _⟩
  case round =>
    obtain ⟨i, hi, rfl, HR⟩ := hrel
    rename World => W0
    by_cases hlt : i < p.length
    · obtain ⟨b, o, rfl, hc⟩ := (HA.out.below HR.out.below) (by omega)
      have c1 := hc i hlt
      have HCX : Hid (∀ W, Below W0.heap.size W0 W → W.cell? ⟨b, o + i, none⟩ = some (vb p[i])) := fun W hW => by
        rw [hW.cell (p := ⟨b, o + i, none⟩) (block_of_cell c1)]; exact c1
      have HT : Hid ((p.take (i + 1)).map pathN = (p.take i).map pathN ++ [pathN p[i]]) := by show _ = _; rw [List.take_succ_eq_append_getElem hlt, List.map_append]; rfl
      have hln : (((p.take i).map pathN).map vs).length ≤ 1000 := by rw [List.length_map, List.length_map, List.length_take]; omega
      generalize p[i] = x at *
      generalize (p.take i).map pathN = acc at *
      clear hc c1
      go_upto_region 5 with fail
      have H0 : Hid (Below W0.heap.size W0 W0.drew) := (Below.refl _ _).drew
      have HA0 : Hid (Below W0.heap.size W0 (W0.alloc (.cells #[vb x] 5)).drew) := ((Below.refl _ _).alloc (Nat.le_refl _) _).drew
      have HS0 : Hid (SrcIs (W0.alloc (.cells #[vb x] 5)).drew (some ⟨W0.heap.size, 0, none⟩) [x]) := one_src W0 x
      have k0 := HCX.out _ H0.out
      have ka := HCX.out _ HA0.out
      go_region_held3 (fun W => W.cell? ⟨b, o + i, none⟩ = some (vb x))
        (first | exact k0 | exact ka | exact k1 | exact k2 | exact k3)
        (first
          | (go_at_call 14
             first
               | ((with_reducible refine (Hs.new_any W0.drew).mono ?_)
                  rintro e w1 ⟨t, rfl, hh, hb⟩
                  have HB1 := Lib.hid (H0.out.trans (hb.mono H0.out.size))
                  have HB1a := Lib.hid (HB1.out.alloc HB1.out.size (.cells #[vb x] 5))
                  have HH1 := Lib.hid (hh.below ((Below.refl w1.heap.size w1).alloc (Nat.le_refl _) (.cells #[vb x] 5)))
                  have HS1 := Lib.hid (one_src w1 x)
                  have k1 := HCX.out _ HB1.out
                  have k2 := HCX.out _ HB1a.out
                  clear hb hh)
               | ((with_reducible refine (Hs.new_any (W0.alloc (.cells #[vb x] 5)).drew).mono ?_)
                  rintro e w1 ⟨t, rfl, hh, hb⟩
                  have HB1a := Lib.hid (HA0.out.trans (hb.mono HA0.out.size))
                  have HH1 := Lib.hid hh
                  have HS1 := Lib.hid (HS0.out.below hb)
                  have k1 := HCX.out _ HB1a.out
                  clear hb hh))
          | (go_at_call 13
             ((with_reducible refine (make_one t _ x _ HH1.out HS1.out).mono ?_)
              rintro e w2 ⟨rfl, hb⟩
              have HB2 := Lib.hid (HB1a.out.trans (hb.mono HB1a.out.size))
              have k3 := HCX.out _ HB2.out
              clear hb)))
      all_goals
        have HRX := Lib.hid (HR.out.below' HB2.out)
        clear HR H0 HA0 HS0 HCX HB1a HH1 HS1 HB2 k0 ka k3
        generalize pathN x = px at *
        go_wp2_with (refine wpList_push Tryd.underlying35 info9 rfl (by decide) rfl (.tmp 23) (.tmp 25) rfl HRX.out rfl [vs px] 1 rfl rfl rfl (by omega) ?_)
        intro v' w' hr
        have HN : Hid (RowRel w 9 (((p.take (i + 1)).map pathN).map vs) v' w') := by show RowRel _ _ _ _ _; rw [HT.out, List.map_append]; exact hr
        clear hr HRX
        go_wp2_with fail
        go_roundw
        case rel => exact ⟨i + 1, by omega, by go_num, HN.out⟩
        case measure => simp [intOf]; omega
    · obtain rfl : i = p.length := by omega
      have hr := HR.out
      rw [List.take_length] at hr
      have HR2 := Lib.hid hr
      clear HR hr
      go_wp2_with fail
      go_ret
      exact ⟨_, rfl, HR2.out⟩
end Go.Proofs.YthmenbccofhjfaaDoor

/- The walk of NameOwn. -/
namespace Go.Proofs.YthmenbccofhjfaaDoor
open Go.RowKit BaseMath WireMath NameMath

theorem textB_length (s : List By) : (textB s).length = s.length + 2 := by unfold textB; rw [List.length_append, numB_length]; omega
theorem flat_len34 : ∀ (l : List (List By)), (∀ x ∈ l, x.length = 34) → (l.flatMap textB).length = 36 * l.length
  | [], _ => rfl
  | x :: l, h => by
    have h1 := flat_len34 l (fun y hy => h y (by simp [hy]))
    have h2 := h x (by simp)
    rw [List.flatMap_cons, List.length_append, h1, List.length_cons]
    unfold textB
    rw [List.length_append, numB_length, h2]; omega
/-- the paths of numbers, rising -/
def pathsN (l : List By) : List (List By) := rise (l.map pathN)
theorem pathsN_mem {l : List By} {x : List By} (h : x ∈ pathsN l) : ∃ n, x = pathN n := by
  unfold pathsN at h
  rw [mem_rise] at h
  obtain ⟨n, _, rfl⟩ := List.mem_map.1 h
  exact ⟨n, rfl⟩
theorem pathsN_length (l : List By) : (pathsN l).length ≤ l.length := by
  unfold pathsN; have := rise_len (l.map pathN); rwa [List.length_map] at this
theorem pathsN_ok {l : List By} (h : l.length ≤ 255) : PathsOk (pathsN l) := by
  refine ⟨Nat.le_trans (pathsN_length l) h, fun k hk => ?_, rise_rises _⟩
  obtain ⟨n, hn⟩ := pathsN_mem (List.getElem_mem hk)
  rw [hn]; exact pathN_is n
theorem laid_short (arch : List By) (l : List By) (title : List By) (hl : l.length ≤ 6) (ht : title.length ≤ 60) : (laidB (sumU arch) (pathsN l) title).length ≤ 1000 := by
  unfold laidB textsB
  have h1 := flat_len34 (pathsN l) (fun x hx => by obtain ⟨n, rfl⟩ := pathsN_mem hx; exact pathN_length n)
  have h2 := pathsN_length l
  simp only [List.length_append, textB_length, sumU_length, List.length_cons, List.length_nil, h1]
  omega
theorem own_once (w : World) (ht : Hs.Tabs w) (wo : World) (hb : Below w.heap.size w wo) : Calls Tryd.prog 7 #[] wo fun e w' => e = .returned (.bool true) ∧ Below w.heap.size w w' :=
  (splits_any wo (ht.below hb ht.size)).mono fun _ _ h => ⟨h.1, hb.trans (h.2.mono hb.size)⟩
set_option maxHeartbeats 2000000 in
theorem own_no (A B : Option Addr) (ca cb : Nat) (title p rs : List By) (w : World) (hm : p.length ≤ maxLen) (hr : rs.length ≤ maxLen) (htl : title.length ≤ maxLen) (ht : Hs.Tabs w)
    (h : 60 < title.length ∨ (title.length ≤ 60 ∧ 100 < p.length) ∨ (title.length ≤ 60 ∧ p.length ≤ 100 ∧ 6 < rs.length) ∨ (title.length ≤ 60 ∧ p.length ≤ 100 ∧ rs.length ≤ 6 ∧ rightB title = false)) :
    Calls Tryd.prog 6 #[vs title, .slice A p.length ca, .slice B rs.length cb] w fun e w' => e = .returned (.bool true) ∧ Below w.heap.size w w' := by
  unfold maxLen at hm hr htl
  have HT := Lib.hid ht; clear ht
  rcases h with h1 | ⟨h1, h2⟩ | ⟨h1, h2, h3⟩ | ⟨h1, h2, h3, h4⟩
  · have h1' : (60 : Int) < title.length := by omega
    go_enter Tryd.func6, Tryd.ntmps6
    go_wp2_with fail
    refine (own_once w HT.out w (Below.refl _ _)).mono ?_
    rintro e w1 ⟨rfl, hb1⟩
    have HB1 := Lib.hid hb1; clear hb1
    go_wp2_with fail
    refine (own_once w HT.out w1 HB1.out).mono ?_
    rintro e w2 ⟨rfl, hb2⟩
    have HB2 := Lib.hid hb2; clear hb2
    go_wp2_with fail
    go_ret
    exact ⟨rfl, HB2.out⟩
  · have h1' : ¬ (60 : Int) < title.length := by omega
    have h2' : (100 : Int) < p.length := by omega
    go_enter Tryd.func6, Tryd.ntmps6
    go_wp2_with fail
    refine (own_once w HT.out w (Below.refl _ _)).mono ?_
    rintro e w1 ⟨rfl, hb1⟩
    have HB1 := Lib.hid hb1; clear hb1
    go_wp2_with fail
    refine (own_once w HT.out w1 HB1.out).mono ?_
    rintro e w2 ⟨rfl, hb2⟩
    have HB2 := Lib.hid hb2; clear hb2
    go_wp2_with fail
    go_ret
    exact ⟨rfl, HB2.out⟩
  · have h1' : ¬ (60 : Int) < title.length := by omega
    have h2' : ¬ (100 : Int) < p.length := by omega
    have h3' : (6 : Int) < rs.length := by omega
    go_enter Tryd.func6, Tryd.ntmps6
    go_wp2_with fail
    refine (own_once w HT.out w (Below.refl _ _)).mono ?_
    rintro e w1 ⟨rfl, hb1⟩
    have HB1 := Lib.hid hb1; clear hb1
    go_wp2_with fail
    refine (own_once w HT.out w1 HB1.out).mono ?_
    rintro e w2 ⟨rfl, hb2⟩
    have HB2 := Lib.hid hb2; clear hb2
    go_wp2_with fail
    go_ret
    exact ⟨rfl, HB2.out⟩
  · have h1' : ¬ (60 : Int) < title.length := by omega
    have h2' : ¬ (100 : Int) < p.length := by omega
    have h3' : ¬ (6 : Int) < rs.length := by omega
    have H4 := Lib.hid h4; clear h4
    go_enter Tryd.func6, Tryd.ntmps6
    go_wp2_with fail
    refine (own_once w HT.out w (Below.refl _ _)).mono ?_
    rintro e w1 ⟨rfl, hb1⟩
    have HB1 := Lib.hid hb1; clear hb1
    go_wp2_with fail
    refine (rright_any title w1).mono ?_
    rintro e w2 ⟨rfl, rfl⟩
    rw [H4.out]
    go_wp2_with fail
    refine (own_once w HT.out w1 HB1.out).mono ?_
    rintro e w2 ⟨rfl, hb2⟩
    have HB2 := Lib.hid hb2; clear hb2
    go_wp2_with fail
    go_ret
    exact ⟨rfl, HB2.out⟩
set_option maxHeartbeats 4000000 in
set_option maxRecDepth 100000 in
theorem own_walk (A B : Option Addr) (ca cb : Nat) (title p rs : List By) (w : World) (hm : p.length ≤ maxLen) (hr : rs.length ≤ maxLen) (htl : title.length ≤ maxLen) (hca : p.length ≤ ca) (hNA : A = none → ca = 0) (hA : SrcIs w A p) (hB : SrcIs w B rs) (ht : Hs.Tabs w) :
    Calls Tryd.prog 6 #[vs title, .slice A p.length ca, .slice B rs.length cb] w fun e w' => e = .returned (.bool true) ∧ Below w.heap.size w w' := by
  by_cases h1 : title.length ≤ 60
  · by_cases h2 : p.length ≤ 100
    · by_cases h3 : rs.length ≤ 6
      · cases h4 : rightB title with
        | false => exact own_no A B ca cb title p rs w hm hr htl ht (.inr (.inr (.inr ⟨h1, h2, h3, h4⟩)))
        | true =>
          have H4 := Lib.hid h4; have HT := Lib.hid ht; have HA := Lib.hid hA; have HBs := Lib.hid hB; have HNA := Lib.hid hNA
          have HL := Lib.hid (laid_short p rs title h3 h1)
          have HPK := Lib.hid (pathsN_ok (l := rs) (by omega))
          have h1' : ¬ (60 : Int) < title.length := by omega
          have h2' : ¬ (100 : Int) < p.length := by omega
          have h3' : ¬ (6 : Int) < rs.length := by omega
          clear h4 ht hA hB hNA hm hr htl
          go_enter Tryd.func6, Tryd.ntmps6
          go_wp2_with fail
          refine (own_once w HT.out w (Below.refl _ _)).mono ?_
          rintro e w1 ⟨rfl, hb1⟩
          have HB1 := Lib.hid hb1; clear hb1
          go_wp2_with fail
          refine (rright_any title w1).mono ?_
          rintro e w2 ⟨rfl, rfl⟩
          rw [H4.out]
          go_wp2_with fail
          refine (list_any B cb rs (by omega) w1 (HBs.out.below HB1.out)).mono ?_
          rintro e w2 ⟨v2, rfl, hr2⟩
          obtain ⟨A2, c2, rfl, hs2, -, -, -⟩ := hr2.strs
          have HB2 : Hid (Below w.heap.size w w2) := HB1.out.trans (hr2.below.mono HB1.out.size)
          have HS2 := Lib.hid hs2
          clear hr2 hs2 HB1
          have hml : (rs.map pathN).length ≤ 6 := by rw [List.length_map]; exact h3
          have HDEF : Hid (rise (rs.map pathN) = pathsN rs) := rfl
          generalize rs.map pathN = ps at *
          go_wp2_with fail
          refine (rise_any A2 c2 ps (by omega) w2 HS2.out).mono ?_
          rintro e w3 ⟨v3, rfl, hr3⟩
          obtain ⟨hb3, A3, c3, rfl, hs3, -⟩ := hr3
          rw [HDEF.out] at hs3 ⊢
          have HB3 : Hid (Below w.heap.size w w3) := HB2.out.trans (hb3.mono HB2.out.size)
          have HS3 := Lib.hid hs3
          clear hb3 hs3 HB2 HS2 HDEF
          generalize pathsN rs = l at *
          go_wp2_with fail
          refine (make_yes title A ca p A3 c3 l H4.out HPK.out (by omega) hca HL.out w3 (HT.out.below HB3.out HT.out.size) (HA.out.below HB3.out) HS3.out).mono ?_
          rintro e w4 ⟨rfl, hb4⟩
          have HB4 : Hid (Below w.heap.size w w4) := HB3.out.trans (hb4.mono HB3.out.size)
          have HS4 := Lib.hid (HS3.out.below hb4 HS3.out.lt)
          have HPI := Lib.hid (path_is (name := title) (arch := p) (refs := l) H4.out)
          have HX : Hid (pathOf title p l = (pathOf title p l).take 32 ++ 45 :: title) := by show _ = _; rw [path_take]; rfl
          have HXD := Lib.hid (path_drop title p l)
          have HC := Lib.hid (fun t w ht hA hB => rmake_yes t title A ca p A3 c3 l H4.out HPK.out (by omega) HNA.out HL.out w ht hA hB)
          generalize pathOf title p l = x at *
          clear hb4 HB3 HS3
          go_wp2_with fail
          refine (split_yes x HPI.out w4).mono ?_
          rintro e w5 ⟨rfl, hb5⟩
          rw [HXD.out]
          have htl : (x.take 32).length ≤ 32 := List.length_take_le _ _
          generalize x.take 32 = t at *
          have HB5 : Hid (Below w.heap.size w w5) := HB4.out.trans (hb5.mono HB4.out.size)
          have HS5 := Lib.hid (HS4.out.below hb5 HS4.out.lt)
          clear hb5 HB4 HS4
          go_wp2_with fail
          refine (Hs.new_any w5).mono ?_
          rintro e w6 ⟨tb, rfl, hh6, hb6⟩
          have HB6 : Hid (Below w.heap.size w w6) := HB5.out.trans (hb6.mono HB5.out.size)
          have HS6 := Lib.hid (HS5.out.below hb6 HS5.out.lt)
          have HH6 := Lib.hid hh6
          clear hb6 hh6 HB5 HS5
          go_wp2_with fail
          refine (HC.out tb w6 HH6.out (HA.out.below HB6.out) HS6.out).mono ?_
          rintro e w7 ⟨rfl, hb7⟩
          have HB7 : Hid (Below w.heap.size w w7) := HB6.out.trans (hb7.mono HB6.out.size)
          clear hb7 HB6 HS6 HH6 HC
          have hcat : (ByteArray.mk t.toArray ++ ByteArray.mk #[45]) ++ ByteArray.mk title.toArray = ByteArray.mk x.toArray := by rw [cat_path, ← HX.out]
          go_wp2_with fail
          go_ret
          exact ⟨rfl, HB7.out⟩
      · exact own_no A B ca cb title p rs w hm hr htl ht (.inr (.inr (.inl ⟨h1, h2, by omega⟩)))
    · exact own_no A B ca cb title p rs w hm hr htl ht (.inr (.inl ⟨h1, by omega⟩))
  · exact own_no A B ca cb title p rs w hm hr htl ht (.inl (by omega))
end Go.Proofs.YthmenbccofhjfaaDoor
