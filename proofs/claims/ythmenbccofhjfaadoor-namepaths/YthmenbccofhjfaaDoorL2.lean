/- The walk of NamePaths. -/
import Derived.Test.YthmenbccofhjfaaDoorL1
import Derived.Test.YthmenbccofhjfaaDoorN6
namespace Go.Proofs.YthmenbccofhjfaaDoor
open Go.RowKit BaseMath WireMath NameMath

theorem path_title (p title : List By) (hp : p.length = 20) : pathB (text p ++ 45 :: title) = rightB title := by
  cases h : rightB title with
  | true => exact path_letters hp title h
  | false =>
    have hl : (text p).length = 32 := by rw [text_length, hp]; rfl
    have e2 : (text p ++ 45 :: title).drop 33 = title := by
      rw [show (33 : Nat) = (text p).length + 1 by omega, List.drop_append]; simp
    unfold pathB
    rw [e2, h]; simp
theorem cat2 (a b : List By) : ByteArray.mk a.toArray ++ ByteArray.mk b.toArray = ⟨(a ++ b).toArray⟩ := by
  apply ByteArray.ext
  simp [ByteArray.data_append]
/-- a text turned into bytes: cells that may be written -/
structure Free (w : World) (g : Nat) (s : List By) : Prop where
  at' : BytesAt w g 0 s
  free : ∀ j, j < s.length → w.frozen? ⟨g, j, none⟩ = false
theorem Free.set {w : World} {g : Nat} {s : List By} (h : Free w g s) (m : Nat) (c : By) : BytesAt (w.setCell ⟨g, m, none⟩ (vb c)) g 0 (s.set m c) := by
  intro k hk
  rw [List.length_set] at hk
  have h0 := h.at' k hk
  rw [Nat.zero_add] at h0 ⊢
  rw [List.getElem_set]
  by_cases e : m = k
  · subst e
    rw [World.cell?_setCell_same _ _ _ h0, if_pos rfl]
  · rw [World.cell?_setCell_other _ _ _ _ (by intro h; cases h; exact e rfl), h0, if_neg e]
theorem str_free (s : List By) (w : World) : ∃ c w2, (convert 9 26 (.string ⟨s.toArray⟩)).run Tryd.prog w = .ok (.slice (some ⟨w.heap.size, 0, none⟩) s.length c) w2 ∧ Free w2 w.heap.size s ∧ Below w.heap.size w w2 := by
  have h := run_bytes_of_string (P := Tryd.prog) w 9 26 5 ⟨s.toArray⟩ Tryd.underlying9 Tryd.underlying26 Tryd.underlying5
  have hs : (ByteArray.mk s.toArray).size = s.length := by simp [ByteArray.size]
  rw [hs] at h
  refine ⟨_, _, h, ⟨fun k hk => ?_, fun j hj => ?_⟩, (Below.refl _ _).drew.alloc (Nat.le_refl _) _⟩
  · rw [Nat.zero_add]
    have hc := World.cell?_alloc_mark w.drew (bytesRow ⟨s.toArray⟩ (grownCap w s.length 0 5)) 5 ((bytesRow ⟨s.toArray⟩ (grownCap w s.length 0 5)).size, (bytesRow ⟨s.toArray⟩ (grownCap w s.length 0 5)).size + 1) k
    refine Eq.trans hc ?_
    rw [bytesRow_at _ _ _ (by simpa using hk)]
    simp
  · have hf := World.frozen?_alloc_mark w.drew (bytesRow ⟨s.toArray⟩ (grownCap w s.length 0 5)) 5 (bytesRow ⟨s.toArray⟩ (grownCap w s.length 0 5)).size ((bytesRow ⟨s.toArray⟩ (grownCap w s.length 0 5)).size + 1) j
    refine Eq.trans hf ?_
    have hj' : j < (bytesRow ⟨s.toArray⟩ (grownCap w s.length 0 5)).size := by
      have h0 := bytesRow_at ⟨s.toArray⟩ (grownCap w s.length 0 5) j (by simpa using hj)
      exact (Array.getElem?_eq_some_iff.1 h0).1
    simp; omega
theorem make_n (t : Value) (A : Option Addr) (ca : Nat) (arch : List By) (ha : arch.length ≤ 1000) (hNA : A = none → ca = 0) (w : World) (ht : Hs.HasherIs w t) (hA : SrcIs w A arch) :
    Calls Tryd.prog 13 #[t, .string ⟨#[110]⟩, .slice A arch.length ca, .slice none 0 0] w fun e w' => e = .returned (.tuple #[vs (pathOf [110] arch []), .int .i64 0]) ∧ Below w.heap.size w w' := by
  have hl : (laidB (sumU arch) [] [110]).length ≤ 1000 := by
    unfold laidB textB textsB
    simp [numB_length, sumU_length]
  exact rmake_yes t [110] A ca arch none 0 [] (by decide) ⟨by simp, fun k h => by simp at h, List.Pairwise.nil⟩ ha hNA hl w ht hA (fun h => by simp at h)
set_option maxHeartbeats 2000000 in
theorem paths_walk (A : Option Addr) (ca : Nat) (p : List By) (title : List By) (at' c : By) (w : World) (hm : p.length ≤ maxLen) (hNA : A = none → ca = 0) (hA : SrcIs w A p) (htl : title.length ≤ maxLen) (ht : Hs.Tabs w) :
    Calls Tryd.prog 4 #[.slice A p.length ca, vs title, vb at', vb c] w fun e w' => e = .returned (.bool true) ∧ Below w.heap.size w w' := by
  unfold maxLen at hm htl
  have HT := Lib.hid ht; have HA := Lib.hid hA; have HNA := Lib.hid hNA; clear ht hA hNA
  by_cases h : p.length ≤ 100 ∧ title.length ≤ 60
  · obtain ⟨h1, h2⟩ := h
    have h1' : ¬ (100 : Int) < p.length := by omega
    have h2' : ¬ (60 : Int) < title.length := by omega
    go_enter Tryd.func4, Tryd.ntmps4
    go_wp2_with fail
    refine (splits_any w HT.out).mono ?_
    rintro e w1 ⟨rfl, hb1⟩
    have HB1 := Lib.hid hb1; clear hb1
    go_wp2_with fail
    refine (Hs.new_any w1).mono ?_
    rintro e w2 ⟨t, rfl, hh2, hb2⟩
    have HB2 : Hid (Below w.heap.size w w2) := HB1.out.trans (hb2.mono HB1.out.size)
    have HH2 := Lib.hid hh2
    clear hb2 hh2 HB1
    go_wp2_with fail
    refine (make_n t A ca p (by omega) HNA.out w2 HH2.out (HA.out.below HB2.out)).mono ?_
    rintro e w3 ⟨rfl, hb3⟩
    have HB3 : Hid (Below w.heap.size w w3) := HB2.out.trans (hb3.mono HB2.out.size)
    have HP := Lib.hid (path_is (name := [110]) (arch := p) (refs := []) (by decide))
    have HX : Hid ((pathOf [110] p []).take 33 ++ title = text (shortU (laidB (sumU p) [] [110])) ++ 45 :: title) := by
      show _ = _
      have hl : (text (shortU (laidB (sumU p) [] [110]))).length = 32 := by rw [text_length, shortU_length]; rfl
      unfold pathOf
      generalize text (shortU (laidB (sumU p) [] [110])) = tx at *
      rw [List.take_append]
      simp [hl, List.take_of_length_le]
    have HPT := Lib.hid (path_title (shortU (laidB (sumU p) [] [110])) title (shortU_length _))
    have HXL : Hid ((pathOf [110] p []).length = 34) := by
      show _ = _; unfold pathOf; simp [text_length, shortU_length]; rfl
    have HPL := HXL.out
    rw [← HX.out] at HPT
    generalize pathOf [110] p [] = x at *
    clear hb3 HB2 HH2 HX
    go_wp2_with fail
    refine (is_any x w3).mono ?_
    rintro e w4 ⟨rfl, hb4⟩
    rw [HP.out]
    have HB4 : Hid (Below w.heap.size w w4) := HB3.out.trans (hb4.mono HB3.out.size)
    have hxl : (33 : Int) ≤ x.length := by have := HXL.out; omega
    clear hb4 HB3
    go_upto_region 7 with fail
    rw [ext_take, cat2]
    have HSL : Hid ((x.take 33 ++ title).length = 33 + title.length) := by show _ = _; have := HXL.out; rw [List.length_append, List.length_take]; omega
    generalize x.take 33 ++ title = s at *
    have hsl0 : 0 < s.length := by have := HSL.out; omega
    have hsl1 : s.length ≤ 93 := by have := HSL.out; omega
    obtain ⟨cq, w5, hcv, hfr, hb5⟩ := str_free s w4
    have hm : at'.toNat % s.length < s.length := Nat.mod_lt _ hsl0
    have hrem : (at'.toNat : Int) % (s.length : Int) = ((at'.toNat % s.length : Nat) : Int) := by rw [Int.natCast_emod]
    have htm : (at'.toNat : Int).tmod (s.length : Int) = ((at'.toNat % s.length : Nat) : Int) := by rw [Int.tmod_eq_emod_of_nonneg (by omega), Int.natCast_emod]
    have htm2 : (wrap64 (at'.toNat : Int)).tmod (s.length : Int) = ((at'.toNat % s.length : Nat) : Int) := by
      rw [show wrap64 (at'.toNat : Int) = at'.toNat from by have := at'.toNat_lt; unfold wrap64; omega]; exact htm
    generalize at'.toNat % s.length = m at *
    have c5 := hfr.at' m hm; have f5 := hfr.free m hm
    rw [Nat.zero_add] at c5
    have HB5 : Hid (Below w.heap.size w w5) := HB4.out.trans (hb5.mono HB4.out.size)
    have hs4 : w.heap.size ≤ w4.heap.size := HB4.out.size
    have HFR := Lib.hid (bytes_src (hfr.set m c))
    have hset : Below w.heap.size w (w5.setCell ⟨w4.heap.size, m, none⟩ (vb c)) := HB5.out.setCell hs4 _
    have HB6 := Lib.hid hset
    clear hfr hb5 hset HB4 HB5
    go_upto_region 9 with fail
    clear c5 f5 hrem htm htm2 hcv
    generalize w5.setCell ⟨w4.heap.size, m, none⟩ (vb c) = w6 at *
    generalize w4.heap.size = g at *
    have HQL : Hid (s.length = (s.set m c).length) := by show _ = _; simp
    have hcv1 : ∀ W, SrcIs W (some ⟨g, 0, none⟩) (s.set m c) → (convert 26 9 (.slice (some ⟨g, 0, none⟩) s.length cq)).run Tryd.prog W = .ok (.string ⟨(s.set m c).toArray⟩) W := fun W hW => by rw [HQL.out]; exact run_text_src hW
    have HCV := Lib.hid hcv1
    have hcv2 := hcv1 w6 HFR.out
    clear hcv1 HQL
    generalize s.set m c = q at *
    go_wp2_with fail
    refine (split_any q w6).mono ?_
    rintro e w7 ⟨rfl, hb7⟩
    have hcv3 := HCV.out w7 (HFR.out.below hb7)
    have HB7 : Hid (Below w.heap.size w w7) := HB6.out.trans (hb7.mono HB6.out.size)
    clear hb7 HB6 hcv2 HFR
    have HC9 := Lib.hid (rsplit_any q)
    generalize lettersB q = y1 at *
    generalize titleB q = y2 at *
    generalize pathB q = pb at *
    go_wp2_with fail
    refine (HC9.out w7).mono ?_
    rintro e w8 ⟨rfl, hb8⟩
    have HB8 : Hid (Below w.heap.size w w8) := HB7.out.trans (hb8.mono HB7.out.size)
    clear hb8 HB7 hcv3 HC9 HCV
    go_wp2_with fail
    refine (is_any s w8).mono ?_
    rintro e w9 ⟨rfl, hb9⟩
    rw [HPT.out]
    have HB9 : Hid (Below w.heap.size w w9) := HB8.out.trans (hb9.mono HB8.out.size)
    have HCR := Lib.hid (rright_any title)
    clear hb9 HB8 HPT
    generalize rightB title = rt at *
    go_wp2_with fail
    refine (HCR.out w9).mono ?_
    rintro e w10 ⟨rfl, rfl⟩
    go_wp2_with fail
    go_ret
    exact ⟨rfl, HB9.out⟩
  · by_cases h1 : p.length ≤ 100
    · have h1' : ¬ (100 : Int) < p.length := by omega
      have h2' : (60 : Int) < title.length := by have : ¬ title.length ≤ 60 := fun h2 => h ⟨h1, h2⟩; omega
      clear h
      go_enter Tryd.func4, Tryd.ntmps4
      go_wp2_with fail
      refine (splits_any w HT.out).mono ?_
      rintro e w1 ⟨rfl, hb1⟩
      have HB1 := Lib.hid hb1; clear hb1
      go_wp2_with fail
      refine (splits_any w1 (HT.out.below HB1.out HT.out.size)).mono ?_
      rintro e w2 ⟨rfl, hb2⟩
      have HB2 : Hid (Below w.heap.size w w2) := HB1.out.trans (hb2.mono HB1.out.size)
      clear hb2
      go_wp2_with fail
      go_ret
      exact ⟨rfl, HB2.out⟩
    · have h1' : (100 : Int) < p.length := by omega
      clear h
      go_enter Tryd.func4, Tryd.ntmps4
      go_wp2_with fail
      refine (splits_any w HT.out).mono ?_
      rintro e w1 ⟨rfl, hb1⟩
      have HB1 := Lib.hid hb1; clear hb1
      go_wp2_with fail
      refine (splits_any w1 (HT.out.below HB1.out HT.out.size)).mono ?_
      rintro e w2 ⟨rfl, hb2⟩
      have HB2 : Hid (Below w.heap.size w w2) := HB1.out.trans (hb2.mono HB1.out.size)
      clear hb2
      go_wp2_with fail
      go_ret
      exact ⟨rfl, HB2.out⟩
end Go.Proofs.YthmenbccofhjfaaDoor
