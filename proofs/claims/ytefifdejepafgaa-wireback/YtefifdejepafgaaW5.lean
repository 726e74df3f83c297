/- The document's example of wire, and the walk of WireNil. -/
import Derived.Test.YtefifdejepafgaaW4
namespace Go.Proofs.Ytefifdejepafgaa
open Go.RowKit BaseMath WireMath

theorem writer_new (w : World) : WrIs (w.alloc (.cells #[.slice none 0 0] 62)) w.heap.size w.heap.size (.slice none 0 0) [] :=
  ⟨Blk.new w 62 _, World.ownsRow_nil _ _ _ _, Nat.le_refl _⟩
theorem six : ([] ++ numB 258) ++ textB [97, 98] = [1, 2, 0, 2, 97, 98] := by decide
theorem numR_one (b : By) (l : List By) (f : Bool) : numR 1 ⟨b :: l, f⟩ = b.toNat ∧ after 1 ⟨b :: l, f⟩ = ⟨l, f⟩ := by
  obtain ⟨h1, h2⟩ := taken_all 1 ⟨b :: l, f⟩ (by simp)
  refine ⟨?_, by rw [h2]; simp⟩
  unfold numR; rw [h1]; simp [nat, val]
set_option maxHeartbeats 1000000 in
theorem lays_any (w : World) : Calls Try.prog 23 #[] w fun e w' => e = .returned (.bool true) ∧ Below w.heap.size w w' := by
  have H0 := Lib.hid (writer_new w)
  have HB0 : Hid (Below w.heap.size w (w.alloc (.cells #[.slice none 0 0] 62))) := (Below.refl _ _).alloc (Nat.le_refl _) _
  have hs0 : w.heap.size ≤ (w.alloc (.cells #[.slice none 0 0] 62)).heap.size := HB0.out.size
  go_enter Try.func23, Try.ntmps23
  go_wp2_with fail
  refine (wnum_any w.heap.size w.heap.size (.slice none 0 0) [] 258 (by decide) _ H0.out).mono ?_
  rintro e w1 ⟨rfl, v1, h1, h2⟩
  have H1 := Lib.hid h1
  have HB1 : Hid (Below w.heap.size w w1) := HB0.out.trans (h2.below H0.out hs0)
  clear h1 h2 H0 HB0 hs0
  go_wp2_with fail
  refine (wtext_any w.heap.size w.heap.size v1 ([] ++ numB 258) [97, 98] (by decide) w1 H1.out).mono ?_
  rintro e w2 ⟨rfl, v2, h1, h2⟩
  rw [six] at h1
  have H2 := Lib.hid h1
  have HB2 : Hid (Below w.heap.size w w2) := HB1.out.trans (h2.below H1.out HB1.out.size)
  clear h1 h2 H1 HB1
  go_wp2_with fail
  refine (wbytes_any w.heap.size w.heap.size v2 [1, 2, 0, 2, 97, 98] (by decide) w2 H2.out).mono ?_
  rintro e w3 ⟨v3, rfl, hr⟩
  obtain ⟨A3, c3, rfl, hs3, -, -, -⟩ := hr.src
  have HB3 : Hid (Below w.heap.size w w3) := HB2.out.trans (hr.below.mono HB2.out.size)
  have HS3 := Lib.hid (hs3.below ((Below.refl w3.heap.size w3).alloc (Nat.le_refl _) (.cells (([1, 2, 0, 2, 97, 98] : List By).map vb).toArray 5)))
  have HS4 := Lib.hid (new_src w3 [1, 2, 0, 2, 97, 98])
  have HB4 : Hid (Below w.heap.size w (w3.alloc (.cells (([1, 2, 0, 2, 97, 98] : List By).map vb).toArray 5))) := HB3.out.alloc HB3.out.size _
  clear hr hs3 H2 HB2
  go_wp2_with fail
  refine (bytes_same A3 (some ⟨w3.heap.size, 0, none⟩) c3 6 [1, 2, 0, 2, 97, 98] (by decide) _ HS3.out HS4.out).mono ?_
  rintro e w4 ⟨rfl, q, hw4⟩
  have HB5 : Hid (Below w.heap.size w w4) := by show Below _ _ _; rw [hw4]; exact below_drewN HB4.out q
  clear hw4 HS3 HS4 HB4
  have HB6 : Hid (Below w.heap.size w (w4.alloc (.cells #[.int .u8 7] 5))) := HB5.out.alloc HB5.out.size _
  go_wp2_with fail
  refine (reader_any (some ⟨w4.heap.size, 0, none⟩) 1 [7] (by decide) (fun h => by cases h) _ (new_src w4 [7])).mono ?_
  rintro e w5 ⟨g, rfl, hg, hr5, hb5⟩
  have HB7 : Hid (Below w.heap.size w w5) := HB6.out.trans (hb5.mono HB6.out.size)
  have HR5 := Lib.hid hr5
  have hgw : w.heap.size ≤ g := Nat.le_trans HB6.out.size hg
  clear hr5 hb5 HB6
  go_wp2_with fail
  refine (byte_any g g ⟨[7], false⟩ (by decide) w5 HR5.out).mono ?_
  rintro e w6 ⟨rfl, h1, h2⟩
  rw [(numR_one 7 [] false).1]
  have HB8 : Hid (Below w.heap.size w w6) := HB7.out.trans (h2.below hgw HB7.out.size)
  clear h1 h2
  go_wp2_with fail
  go_ret
  exact ⟨rfl, HB8.out⟩
end Go.Proofs.Ytefifdejepafgaa
