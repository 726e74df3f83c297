/- The contract of Encode. -/
import Derived.Test.YtghbabnekalgpaaDoorQ3
namespace Go.Proofs.YtghbabnekalgpaaDoor
open Go.RowKit BaseMath WireMath ReqMath

theorem RowRel.pre {w w1 wr : World} {e : TypeId} {l : List Value} {v : Value} (h : RowRel w1 e l v wr) (hb : Below w.heap.size w w1) : RowRel w e l v wr := by
  refine ⟨hb.trans (h.below.mono hb.size), h.own.1, ?_⟩
  rcases h.own.2 with h1 | ⟨g, cap, cur, h1, h2, h3⟩
  · exact .inl h1
  · exact .inr ⟨g, cap, cur, h1, Nat.le_trans hb.size h2, h3⟩
set_option maxHeartbeats 4000000 in
set_option maxRecDepth 100000 in
theorem encode_any (r : ReqV) (v : Value) (hrs : r.refs.length ≤ 255) (hors : ∀ x ∈ r.outs, x.refs.length ≤ 255) (hbd : (encB r).length ≤ 1000000) (w : World) (ht : KTab w) (h : ReqIs w v r) :
    Calls Tryd.prog 15 #[v] w (EncPost w (encB r)) := by
  obtain ⟨A, ca, R, cr, O, co, rfl, hA, hR, hO⟩ := h
  have HA := Lib.hid hA; have HR := Lib.hid hR; have HO := Lib.hid hO; have HT := Lib.hid ht; have HOR := Lib.hid hors
  have hb1 : Below w.heap.size w (w.alloc (.cells #[vb r.kind, vs r.name, vs r.path, .slice A r.arch.length ca, .slice R r.refs.length cr, .slice O r.outs.length co] 40)) := (Below.refl _ _).alloc (Nat.le_refl _) _
  have hbox := Blk.new w 40 #[vb r.kind, vs r.name, vs r.path, .slice A r.arch.length ca, .slice R r.refs.length cr, .slice O r.outs.length co]
  have hW := writer_nil (w.alloc (.cells #[vb r.kind, vs r.name, vs r.path, .slice A r.arch.length ca, .slice R r.refs.length cr, .slice O r.outs.length co] 40))
  have hsz1 : (w.alloc (.cells #[vb r.kind, vs r.name, vs r.path, .slice A r.arch.length ca, .slice R r.refs.length cr, .slice O r.outs.length co] 40)).heap.size = w.heap.size + 1 := by simp
  rw [hsz1] at hW
  have HBOX := Lib.hid (hbox.alloc (.cells #[.slice none 0 0] 88))
  have HB2 := Lib.hid (hb1.alloc hb1.size (.cells #[.slice none 0 0] 88))
  have HW := Lib.hid hW
  have HL : Hid ((encB r).length = 1 + (restB (hasK r.kind.toNat) r).length) := by show _ = _; unfold encB; simp; omega
  have HE : Hid (encB r = [r.kind] ++ restB (hasK r.kind.toNat) r) := rfl
  have hK := hasK_le r.kind.toNat
  have hlen : 1 + (restB (hasK r.kind.toNat) r).length ≤ 1000000 := by rw [← HL.out]; exact hbd
  have hts := ht.size
  have k0 := HBOX.out.cell 0
  simp only [List.getElem?_cons_zero] at k0
  clear hA hR hO ht hors hb1 hbox hW hsz1 hbd HL
  rw [HE.out]
  clear HE
  go_enter Tryd.func15, Tryd.ntmps15
  go_wp2_with fail
  refine (wbyte_any (w.heap.size + 1) (w.heap.size + 1) (.slice none 0 0) [] r.kind (by simp) _ HW.out).mono ?_
  rintro e w3 ⟨rfl, v3, h1, h2⟩
  have hB3 := h2.below HW.out HW.out.base_lt
  have HB3 : Hid (Below w.heap.size w w3) := HB2.out.trans (hB3.mono (by omega))
  have HBX3 := Lib.hid (HBOX.out.below hB3 (by omega))
  have HW3 := Lib.hid h1
  clear h1 h2 hB3 HBOX HW HB2 k0
  have k0 := HBX3.out.cell 0
  simp only [List.getElem?_cons_zero] at k0
  go_wp2_with fail
  refine (lookup_any r.kind w3 (HT.out.below HB3.out hts)).mono ?_
  rintro e w4 ⟨rfl, hb⟩
  have HB4 : Hid (Below w.heap.size w w4) := HB3.out.trans (hb.mono HB3.out.size)
  have HBX4 := Lib.hid (HBX3.out.below hb HBX3.out.lt)
  have HW4 := Lib.hid (HW3.out.below hb)
  clear hb HBX3 HW3 HB3 k0
  have k1 := HBX4.out.cell 1; have k2 := HBX4.out.cell 2; have k3 := HBX4.out.cell 3; have k4 := HBX4.out.cell 4; have k5 := HBX4.out.cell 5
  simp only [List.getElem?_cons_zero, List.getElem?_cons_succ] at k1 k2 k3 k4 k5
  generalize hasK r.kind.toNat = hh at *
  generalize nameK r.kind.toNat = nn at *
  have hcase : hh = 0 ∨ hh = 1 ∨ hh = 2 ∨ hh = 3 ∨ hh = 4 := by omega
  rcases hcase with rfl | rfl | rfl | rfl | rfl
  · have HX : Hid (restB 0 r = []) := rfl
    rw [HX.out] at hlen ⊢
    go_wp2_with fail
    refine (wbytes_any _ _ v3 _ (by simp) w4 HW4.out).mono ?_
    rintro e w5 ⟨v5, rfl, hr⟩
    have HN := Lib.hid (hr.pre HB4.out)
    clear hr
    go_wp2_with fail
    go_ret
    exact ⟨_, rfl, by rw [HX.out]; simpa using HN.out⟩
  · have HX : Hid (restB 1 r = []) := rfl
    rw [HX.out] at hlen ⊢
    go_wp2_with fail
    refine (wbytes_any _ _ v3 _ (by simp) w4 HW4.out).mono ?_
    rintro e w5 ⟨v5, rfl, hr⟩
    have HN := Lib.hid (hr.pre HB4.out)
    clear hr
    go_wp2_with fail
    go_ret
    exact ⟨_, rfl, by rw [HX.out]; simpa using HN.out⟩
  · have HX : Hid (restB 2 r = textB r.path) := rfl
    rw [HX.out, textB_length] at hlen
    rw [HX.out]
    go_wp2_with fail
    refine (wtext_any _ _ v3 ([] ++ [r.kind]) r.path (by simp; omega) w4 HW4.out).mono ?_
    rintro e w5 ⟨rfl, v5, h1, h2⟩
    have HB5 : Hid (Below w.heap.size w w5) := HB4.out.trans ((h2.below HW4.out HW4.out.base_lt).mono (by omega))
    have HW5 := Lib.hid h1
    clear h1 h2 HW4
    go_wp2_with fail
    refine (wbytes_any _ _ v5 _ (by simp [textB_length]; omega) w5 HW5.out).mono ?_
    rintro e w6 ⟨v6, rfl, hr⟩
    have HN := Lib.hid (hr.pre HB5.out)
    clear hr
    go_wp2_with fail
    go_ret
    exact ⟨_, rfl, by rw [HX.out]; simpa using HN.out⟩
  · have HX : Hid (restB 3 r = itemB r.name r.arch r.refs) := rfl
    rw [HX.out] at hlen ⊢
    go_wp2_with fail
    refine (layitem_any w _ _ v3 ([] ++ [r.kind]) r.name r.arch r.refs A ca R cr hrs (by simp; omega) w4 HW4.out HA.out HR.out HB4.out (by omega)).mono ?_
    rintro e w5 ⟨rfl, v5, h1, h2⟩
    have HB5 : Hid (Below w.heap.size w w5) := HB4.out.trans ((h2.below HW4.out HW4.out.base_lt).mono (by omega))
    have HW5 := Lib.hid h1
    clear h1 h2 HW4
    go_wp2_with fail
    refine (wbytes_any _ _ v5 _ (by simp; omega) w5 HW5.out).mono ?_
    rintro e w6 ⟨v6, rfl, hr⟩
    have HN := Lib.hid (hr.pre HB5.out)
    clear hr
    go_wp2_with fail
    go_ret
    exact ⟨_, rfl, by rw [HX.out]; simpa using HN.out⟩
  · have HX : Hid (restB 4 r = outsB r.outs) := rfl
    rw [HX.out] at hlen ⊢
    go_wp2_with fail
    refine (layouts_any w _ _ v3 ([] ++ [r.kind]) r.outs O co HOR.out (by simp; omega) w4 HW4.out HO.out HB4.out (by omega)).mono ?_
    rintro e w5 ⟨rfl, v5, h1, h2⟩
    have HB5 : Hid (Below w.heap.size w w5) := HB4.out.trans ((h2.below HW4.out HW4.out.base_lt).mono (by omega))
    have HW5 := Lib.hid h1
    clear h1 h2 HW4
    go_wp2_with fail
    refine (wbytes_any _ _ v5 _ (by simp; omega) w5 HW5.out).mono ?_
    rintro e w6 ⟨v6, rfl, hr⟩
    have HN := Lib.hid (hr.pre HB5.out)
    clear hr
    go_wp2_with fail
    go_ret
    exact ⟨_, rfl, by rw [HX.out]; simpa using HN.out⟩
end Go.Proofs.YtghbabnekalgpaaDoor
