/- The contract of the reference's Encode. -/
import Derived.Test.YtggmogjgaoobjaaDoorXCT20
import Derived.Test.YtggmogjgaoobjaaDoorXCT9
namespace Go.Proofs.YtggmogjgaoobjaaDoor
open Go.RowKit BaseMath WireMath ReqMath

theorem row_own {w W : World} {v : Value} {l : List By} (r : RowRel w 5 (l.map vb) v W) : W.ownsRow w.heap.size 5 1 v l.length (l.map vb) := by have := r.own; rwa [List.length_map] at this
theorem row_size {w W : World} {v : Value} {l : List By} (r : RowRel w 5 (l.map vb) v W) : w.heap.size ≤ W.heap.size := r.below.size
theorem row_app {w W W' : World} {v v' : Value} {l x : List By} (r : RowRel w 5 (l.map vb) v W) (ho : W'.ownsRow w.heap.size 5 1 v' (l ++ x).length ((l ++ x).map vb)) (hg : W.grownBy W' v.ownBlock) : RowRel w 5 ((l ++ x).map vb) v' W' :=
  ⟨r.below.grown hg r.below.size (fun k hk => (r.own.lt k hk).1), by rw [List.length_map]; exact ho⟩
theorem row_app_blk {w W W' : World} {v : Value} {l : List By} {b : Nat} {t : TypeId} {cs : List Value} (r : RowRel w 5 (l.map vb) v W) (hg : W.grownBy W' v.ownBlock) (ht : t ≠ 5) (h : Blk W b t cs) : Blk W' b t cs := by
  unfold Blk
  rw [hg.block b h.lt (fun e => own_ne ht h (row_own r) e.symm)]; exact h
theorem one_src' {x : By} {v : Value} (h : vb x = v) (w : World) : SrcIs (w.alloc (.cells #[v] 5)) (some ⟨w.heap.size, 0, none⟩) [x] := by
  have := new_src w [x]
  rw [← h]; exact this
def encNot (k : Nat) : Prop := k ≠ 1 ∧ ¬ (2 ≤ k ∧ k ≤ 6 ∨ 8 ≤ k ∧ k ≤ 10) ∧ k ≠ 7
set_option maxHeartbeats 4000000 in
set_option maxRecDepth 100000 in
theorem rencode_0 (r : ReqV) (v : Value) (hbd : (encB r).length ≤ 400000) (hkx : encNot r.kind.toNat) (w : World) (h : ReqIs w v r) :
    Calls Tryd.prog 17 #[v] w (EncPost w (encB r)) := by
  obtain ⟨A, ca, R, cr, O, co, rfl, hA, hR, hO⟩ := h
  have HA := Lib.hid hA; have HR := Lib.hid hR; have HO := Lib.hid hO
  have hb1 : Below w.heap.size w (w.alloc (.cells #[vb r.kind, vs r.name, vs r.path, .slice A r.arch.length ca, .slice R r.refs.length cr, .slice O r.outs.length co] 40)) := (Below.refl _ _).alloc (Nat.le_refl _) _
  have HB1 := Lib.hid hb1
  have HBOX := Lib.hid (Blk.new w 40 #[vb r.kind, vs r.name, vs r.path, .slice A r.arch.length ca, .slice R r.refs.length cr, .slice O r.outs.length co])
  have hsz1 : (w.alloc (.cells #[vb r.kind, vs r.name, vs r.path, .slice A r.arch.length ca, .slice R r.refs.length cr, .slice O r.outs.length co] 40)).heap.size = w.heap.size + 1 := by simp
  have k0 := HBOX.out.cell 0
  simp only [List.getElem?_cons_zero] at k0
  have HE : Hid (encB r = [r.kind] ++ restB (hasK r.kind.toNat) r) := rfl
  have hbd2 : 1 + (restB (hasK r.kind.toNat) r).length ≤ 400000 := by rw [HE.out, List.length_append] at hbd; exact hbd
  have hk256 : r.kind.toNat < 256 := r.kind.toNat_lt
  clear hA hR hO hb1 hbd
  have HR0 := Lib.hid (new_row (w.alloc (.cells #[vb r.kind, vs r.name, vs r.path, .slice A r.arch.length ca, .slice R r.refs.length cr, .slice O r.outs.length co] 40)) [r.kind] 1 rfl (by decide))
  rw [List.map_cons, List.map_nil, hsz1] at HR0
  have HSZ := Lib.hid hsz1
  clear hsz1 k0
  have k0 : (((w.alloc (.cells #[vb r.kind, vs r.name, vs r.path, .slice A r.arch.length ca, .slice R r.refs.length cr, .slice O r.outs.length co] 40)).alloc (.cells #[vb r.kind] 5))).cell? ⟨w.heap.size, 0, none⟩ = some (vb r.kind) := (HBOX.out.alloc _).cell 0
  have hk1 : ((r.kind.toNat : Int) == 1) = false := by rw [beq_eq_false_iff_ne]; have := hkx.1; omega
  have hk7 : ((r.kind.toNat : Int) == 7) = false := by rw [beq_eq_false_iff_ne]; have := hkx.2.2; omega
  have HX : Hid (restB (hasK r.kind.toNat) r = []) := by
    show _ = _
    obtain ⟨a1, a2, a3⟩ := hkx
    rcases has_cases r.kind.toNat with h | h | h | h | h
    · rw [h.1]; rfl
    · rw [h.1]; rfl
    · exact absurd h.2 a2
    · exact absurd h.2 a1
    · exact absurd h.2 a3
  have HP : Hid (∀ W, Calls Tryd.prog 46 #[vb r.kind] W fun e w' => e = .returned (.bool false) ∧ W = w') := fun W => pathed_no r.kind.toNat hk256 hkx.2.1 W
  clear hkx
  go_enter Tryd.func17, Tryd.ntmps17
  go_wp2_with fail
  have HW1 : Hid (RowRel (w.alloc (.cells #[vb r.kind, vs r.name, vs r.path, .slice A r.arch.length ca, .slice R r.refs.length cr, .slice O r.outs.length co] 40)) 5 (([r.kind] : List By).map vb) (.slice (some ⟨w.heap.size + 1, 0, none⟩) 1 1) ((w.alloc (.cells #[vb r.kind, vs r.name, vs r.path, .slice A r.arch.length ca, .slice R r.refs.length cr, .slice O r.outs.length co] 40)).alloc (.cells #[vb r.kind] 5))) := HR0.out
  clear HR0
  generalize w.alloc (.cells #[vb r.kind, vs r.name, vs r.path, .slice A r.arch.length ca, .slice R r.refs.length cr, .slice O r.outs.length co] 40) = W1 at *
  have hw1 : w.heap.size < W1.heap.size := by have := HSZ.out; omega
  have HWB : Hid (∀ U, Below W1.heap.size W1 U → Below w.heap.size w U) := fun U hU => HB1.out.trans (hU.mono HB1.out.size)
  have HBX : Hid (∀ U, Below W1.heap.size W1 U → Blk U w.heap.size 40 [vb r.kind, vs r.name, vs r.path, .slice A r.arch.length ca, .slice R r.refs.length cr, .slice O r.outs.length co]) := fun U hU => Blk.below HBOX.out hU hw1
  clear HBOX k0
  have bx := HBX.out _ HW1.out.below
  have k0 := bx.cell 0
  simp only [List.getElem?_cons_zero] at k0
  clear bx
  refine (HP.out _).mono ?_
  rintro e U ⟨rfl, rfl⟩
  go_wp2_with fail
  go_ret
  exact ⟨_, rfl, by rw [HE.out, HX.out, List.append_nil]; exact HW1.out.pre HB1.out⟩
set_option maxHeartbeats 4000000 in
set_option maxRecDepth 100000 in
theorem rencode_2 (r : ReqV) (v : Value) (hbd : (encB r).length ≤ 400000) (hkx : 2 ≤ r.kind.toNat ∧ r.kind.toNat ≤ 6 ∨ 8 ≤ r.kind.toNat ∧ r.kind.toNat ≤ 10) (w : World) (h : ReqIs w v r) :
    Calls Tryd.prog 17 #[v] w (EncPost w (encB r)) := by
  obtain ⟨A, ca, R, cr, O, co, rfl, hA, hR, hO⟩ := h
  have HA := Lib.hid hA; have HR := Lib.hid hR; have HO := Lib.hid hO
  have hb1 : Below w.heap.size w (w.alloc (.cells #[vb r.kind, vs r.name, vs r.path, .slice A r.arch.length ca, .slice R r.refs.length cr, .slice O r.outs.length co] 40)) := (Below.refl _ _).alloc (Nat.le_refl _) _
  have HB1 := Lib.hid hb1
  have HBOX := Lib.hid (Blk.new w 40 #[vb r.kind, vs r.name, vs r.path, .slice A r.arch.length ca, .slice R r.refs.length cr, .slice O r.outs.length co])
  have hsz1 : (w.alloc (.cells #[vb r.kind, vs r.name, vs r.path, .slice A r.arch.length ca, .slice R r.refs.length cr, .slice O r.outs.length co] 40)).heap.size = w.heap.size + 1 := by simp
  have k0 := HBOX.out.cell 0
  simp only [List.getElem?_cons_zero] at k0
  have HE : Hid (encB r = [r.kind] ++ restB (hasK r.kind.toNat) r) := rfl
  have hbd2 : 1 + (restB (hasK r.kind.toNat) r).length ≤ 400000 := by rw [HE.out, List.length_append] at hbd; exact hbd
  have hk256 : r.kind.toNat < 256 := r.kind.toNat_lt
  clear hA hR hO hb1 hbd
  have HR0 := Lib.hid (new_row (w.alloc (.cells #[vb r.kind, vs r.name, vs r.path, .slice A r.arch.length ca, .slice R r.refs.length cr, .slice O r.outs.length co] 40)) [r.kind] 1 rfl (by decide))
  rw [List.map_cons, List.map_nil, hsz1] at HR0
  have HSZ := Lib.hid hsz1
  clear hsz1 k0
  have k0 : (((w.alloc (.cells #[vb r.kind, vs r.name, vs r.path, .slice A r.arch.length ca, .slice R r.refs.length cr, .slice O r.outs.length co] 40)).alloc (.cells #[vb r.kind] 5))).cell? ⟨w.heap.size, 0, none⟩ = some (vb r.kind) := (HBOX.out.alloc _).cell 0
  have hk1 : ((r.kind.toNat : Int) == 1) = false := by rw [beq_eq_false_iff_ne]; omega
  have hk7 : ((r.kind.toNat : Int) == 7) = false := by rw [beq_eq_false_iff_ne]; omega
  have hz : hasK r.kind.toNat = 2 := by rcases has_cases r.kind.toNat with h | h | h | h | h <;> omega
  have HX : Hid (restB (hasK r.kind.toNat) r = textB r.path) := by show _ = _; rw [hz]; rfl
  have HP : Hid (∀ W, Calls Tryd.prog 46 #[vb r.kind] W fun e w' => e = .returned (.bool true) ∧ W = w') := fun W => pathed_yes r.kind.toNat hk256 hkx W
  rw [HX.out, textB_length] at hbd2
  clear hkx hz
  go_enter Tryd.func17, Tryd.ntmps17
  go_wp2_with fail
  have HW1 : Hid (RowRel (w.alloc (.cells #[vb r.kind, vs r.name, vs r.path, .slice A r.arch.length ca, .slice R r.refs.length cr, .slice O r.outs.length co] 40)) 5 (([r.kind] : List By).map vb) (.slice (some ⟨w.heap.size + 1, 0, none⟩) 1 1) ((w.alloc (.cells #[vb r.kind, vs r.name, vs r.path, .slice A r.arch.length ca, .slice R r.refs.length cr, .slice O r.outs.length co] 40)).alloc (.cells #[vb r.kind] 5))) := HR0.out
  clear HR0
  generalize w.alloc (.cells #[vb r.kind, vs r.name, vs r.path, .slice A r.arch.length ca, .slice R r.refs.length cr, .slice O r.outs.length co] 40) = W1 at *
  have hw1 : w.heap.size < W1.heap.size := by have := HSZ.out; omega
  have HWB : Hid (∀ U, Below W1.heap.size W1 U → Below w.heap.size w U) := fun U hU => HB1.out.trans (hU.mono HB1.out.size)
  have HBX : Hid (∀ U, Below W1.heap.size W1 U → Blk U w.heap.size 40 [vb r.kind, vs r.name, vs r.path, .slice A r.arch.length ca, .slice R r.refs.length cr, .slice O r.outs.length co]) := fun U hU => Blk.below HBOX.out hU hw1
  clear HBOX k0
  refine (HP.out _).mono ?_
  rintro e U ⟨rfl, rfl⟩
  have bx := HBX.out _ HW1.out.below
  have k0 := bx.cell 0
  have k2 := bx.cell 2
  simp only [List.getElem?_cons_zero, List.getElem?_cons_succ] at k0 k2
  clear bx
  go_wp2_with fail
  refine (rtextb_any r.path (by omega) _).mono ?_
  rintro e U1c ⟨v1c, rfl, hr⟩
  obtain ⟨A1c, c1c, rfl, hs1c, hn1c, hc1c, -⟩ := hr.src
  have HS1c := Lib.hid hs1c; have HN1c := Lib.hid hn1c
  have HR1c := Lib.hid (RowRel.below' HW1.out hr.below)
  clear hr hs1c hn1c hc1c
  have hlen0 : (textB r.path).length = 2 + r.path.length := textB_length _
  generalize hq : textB r.path = tp at *
  have HQtp := Lib.hid hq; have HLtp := Lib.hid hlen0
  clear hq hlen0
  have bx := HBX.out _ HR1c.out.below
  have k0 := bx.cell 0
  simp only [List.getElem?_cons_zero] at k0
  clear bx
  have hbdd2 := (show ([r.kind] : List By).length + tp.length ≤ 1000000 by have := HLtp.out; simp; omega)
  have HBDD2 := Lib.hid hbdd2
  clear hbdd2
  go_wp2_with (refine wpList_append_x rfl (.tmp 32) (.tmp 35) rfl W1.heap.size (.slice (some ⟨w.heap.size + 1, 0, none⟩) 1 1) _ rfl (row_own HR1c.out) A1c c1c tp rfl HN1c.out HS1c.out HBDD2.out (row_size HR1c.out) ?_)
  intro v2 U2 ho hg hk
  have HR2 := Lib.hid (row_app (x := tp) HR1c.out (by simpa using ho) hg)
  clear ho hg hk
  clear k0
  have bx := HBX.out _ HR2.out.below
  have k0 := bx.cell 0
  simp only [List.getElem?_cons_zero] at k0
  clear bx
  go_wp2_with fail
  go_ret
  exact ⟨_, rfl, by rw [HE.out, HX.out]; exact HR2.out.pre HB1.out⟩
set_option maxHeartbeats 4000000 in
set_option maxRecDepth 100000 in
theorem rencode_3 (r : ReqV) (v : Value) (hrs : r.refs.length ≤ 255) (hbd : (encB r).length ≤ 400000) (hkx : r.kind.toNat = 1) (w : World) (h : ReqIs w v r) :
    Calls Tryd.prog 17 #[v] w (EncPost w (encB r)) := by
  obtain ⟨A, ca, R, cr, O, co, rfl, hA, hR, hO⟩ := h
  have HA := Lib.hid hA; have HR := Lib.hid hR; have HO := Lib.hid hO
  have hb1 : Below w.heap.size w (w.alloc (.cells #[vb r.kind, vs r.name, vs r.path, .slice A r.arch.length ca, .slice R r.refs.length cr, .slice O r.outs.length co] 40)) := (Below.refl _ _).alloc (Nat.le_refl _) _
  have HB1 := Lib.hid hb1
  have HBOX := Lib.hid (Blk.new w 40 #[vb r.kind, vs r.name, vs r.path, .slice A r.arch.length ca, .slice R r.refs.length cr, .slice O r.outs.length co])
  have hsz1 : (w.alloc (.cells #[vb r.kind, vs r.name, vs r.path, .slice A r.arch.length ca, .slice R r.refs.length cr, .slice O r.outs.length co] 40)).heap.size = w.heap.size + 1 := by simp
  have k0 := HBOX.out.cell 0
  simp only [List.getElem?_cons_zero] at k0
  have HE : Hid (encB r = [r.kind] ++ restB (hasK r.kind.toNat) r) := rfl
  have hbd2 : 1 + (restB (hasK r.kind.toNat) r).length ≤ 400000 := by rw [HE.out, List.length_append] at hbd; exact hbd
  have hk256 : r.kind.toNat < 256 := r.kind.toNat_lt
  clear hA hR hO hb1 hbd
  have HR0 := Lib.hid (new_row (w.alloc (.cells #[vb r.kind, vs r.name, vs r.path, .slice A r.arch.length ca, .slice R r.refs.length cr, .slice O r.outs.length co] 40)) [r.kind] 1 rfl (by decide))
  rw [List.map_cons, List.map_nil, hsz1] at HR0
  have HSZ := Lib.hid hsz1
  clear hsz1 k0
  have k0 : (((w.alloc (.cells #[vb r.kind, vs r.name, vs r.path, .slice A r.arch.length ca, .slice R r.refs.length cr, .slice O r.outs.length co] 40)).alloc (.cells #[vb r.kind] 5))).cell? ⟨w.heap.size, 0, none⟩ = some (vb r.kind) := (HBOX.out.alloc _).cell 0
  have hk1 : ((r.kind.toNat : Int) == 1) = true := by rw [hkx]; rfl
  have hk7 : ((r.kind.toNat : Int) == 7) = false := by rw [hkx]; rfl
  have HX : Hid (restB (hasK r.kind.toNat) r = itemB r.name r.arch r.refs) := by show _ = _; rw [hkx]; rfl
  have HP : Hid (∀ W, Calls Tryd.prog 46 #[vb r.kind] W fun e w' => e = .returned (.bool false) ∧ W = w') := fun W => pathed_no r.kind.toNat hk256 (by omega) W
  rw [HX.out, itemB_length] at hbd2
  clear hkx
  go_enter Tryd.func17, Tryd.ntmps17
  go_wp2_with fail
  have HW1 : Hid (RowRel (w.alloc (.cells #[vb r.kind, vs r.name, vs r.path, .slice A r.arch.length ca, .slice R r.refs.length cr, .slice O r.outs.length co] 40)) 5 (([r.kind] : List By).map vb) (.slice (some ⟨w.heap.size + 1, 0, none⟩) 1 1) ((w.alloc (.cells #[vb r.kind, vs r.name, vs r.path, .slice A r.arch.length ca, .slice R r.refs.length cr, .slice O r.outs.length co] 40)).alloc (.cells #[vb r.kind] 5))) := HR0.out
  clear HR0
  generalize w.alloc (.cells #[vb r.kind, vs r.name, vs r.path, .slice A r.arch.length ca, .slice R r.refs.length cr, .slice O r.outs.length co] 40) = W1 at *
  have hw1 : w.heap.size < W1.heap.size := by have := HSZ.out; omega
  have HWB : Hid (∀ U, Below W1.heap.size W1 U → Below w.heap.size w U) := fun U hU => HB1.out.trans (hU.mono HB1.out.size)
  have HBX : Hid (∀ U, Below W1.heap.size W1 U → Blk U w.heap.size 40 [vb r.kind, vs r.name, vs r.path, .slice A r.arch.length ca, .slice R r.refs.length cr, .slice O r.outs.length co]) := fun U hU => Blk.below HBOX.out hU hw1
  clear HBOX k0
  refine (rtextb_any r.name (by omega) _).mono ?_
  rintro e U1c ⟨v1c, rfl, hr⟩
  obtain ⟨A1c, c1c, rfl, hs1c, hn1c, hc1c, -⟩ := hr.src
  have HS1c := Lib.hid hs1c; have HN1c := Lib.hid hn1c
  have HR1c := Lib.hid (RowRel.below' HW1.out hr.below)
  clear hr hs1c hn1c hc1c
  have hlen0 : (textB r.name).length = 2 + r.name.length := textB_length _
  generalize hq : textB r.name = tn at *
  have HQtn := Lib.hid hq; have HLtn := Lib.hid hlen0
  clear hq hlen0
  have bx := HBX.out _ HR1c.out.below
  have k0 := bx.cell 0
  simp only [List.getElem?_cons_zero] at k0
  clear bx
  have hbdd2 := (show ([r.kind] : List By).length + tn.length ≤ 1000000 by have := HLtn.out; simp; omega)
  have HBDD2 := Lib.hid hbdd2
  clear hbdd2
  go_wp2_with (refine wpList_append_x rfl (.tmp 13) (.tmp 16) rfl W1.heap.size (.slice (some ⟨w.heap.size + 1, 0, none⟩) 1 1) _ rfl (row_own HR1c.out) A1c c1c tn rfl HN1c.out HS1c.out HBDD2.out (row_size HR1c.out) ?_)
  intro v2 U2 ho hg hk
  have HR2 := Lib.hid (row_app (x := tn) HR1c.out (by simpa using ho) hg)
  clear ho hg hk
  clear k0
  have bx := HBX.out _ HR2.out.below
  have k0 := bx.cell 0
  have k3 := bx.cell 3
  simp only [List.getElem?_cons_zero, List.getElem?_cons_succ] at k0 k3
  clear bx
  have hcv := run_text_src (cap := ca) (HA.out.below (HWB.out _ HR2.out.below))
  go_wp2_with fail
  clear hcv
  refine (rtextb_any r.arch (by omega) _).mono ?_
  rintro e U3c ⟨v3c, rfl, hr⟩
  obtain ⟨A3c, c3c, rfl, hs3c, hn3c, hc3c, -⟩ := hr.src
  have HS3c := Lib.hid hs3c; have HN3c := Lib.hid hn3c
  have HR3c := Lib.hid (RowRel.below' HR2.out hr.below)
  clear hr hs3c hn3c hc3c
  have hlen0 : (textB r.arch).length = 2 + r.arch.length := textB_length _
  generalize hq : textB r.arch = ta at *
  have HQta := Lib.hid hq; have HLta := Lib.hid hlen0
  clear hq hlen0
  clear k0 k3
  have bx := HBX.out _ HR3c.out.below
  have k0 := bx.cell 0
  simp only [List.getElem?_cons_zero] at k0
  clear bx
  have hbdd4 := (show ([r.kind] ++ tn).length + ta.length ≤ 1000000 by have := HLtn.out; have := HLta.out; simp; omega)
  have HBDD4 := Lib.hid hbdd4
  clear hbdd4
  go_wp2_with (refine wpList_append_x rfl (.tmp 18) (.tmp 22) rfl W1.heap.size v2 _ rfl (row_own HR3c.out) A3c c3c ta rfl HN3c.out HS3c.out HBDD4.out (row_size HR3c.out) ?_)
  intro v4 U4 ho hg hk
  have HR4 := Lib.hid (row_app (x := ta) HR3c.out (by simpa using ho) hg)
  clear ho hg hk
  clear k0
  have bx := HBX.out _ HR4.out.below
  have k0 := bx.cell 0
  have k4 := bx.cell 4
  simp only [List.getElem?_cons_zero, List.getElem?_cons_succ] at k0 k4
  clear bx
  go_wp2_with fail
  refine (rtextsb_any R cr r.refs hrs (by omega) _ (HR.out.belowS (HWB.out _ HR4.out.below))).mono ?_
  rintro e U5c ⟨v5c, rfl, hr⟩
  obtain ⟨A5c, c5c, rfl, hs5c, hn5c, hc5c, -⟩ := hr.src
  have HS5c := Lib.hid hs5c; have HN5c := Lib.hid hn5c
  have HR5c := Lib.hid (RowRel.below' HR4.out hr.below)
  clear hr hs5c hn5c hc5c k0 k4
  have hlen0 : (textsB r.refs).length = 1 + (r.refs.flatMap textB).length := by unfold textsB; simp; omega
  generalize hq : textsB r.refs = tr at *
  have HQtr := Lib.hid hq; have HLtr := Lib.hid hlen0
  clear hq hlen0
  have bx := HBX.out _ HR5c.out.below
  have k0 := bx.cell 0
  simp only [List.getElem?_cons_zero] at k0
  clear bx
  have hbdd6 := (show ([r.kind] ++ tn ++ ta).length + tr.length ≤ 1000000 by have := HLtn.out; have := HLta.out; have := HLtr.out; simp; omega)
  have HBDD6 := Lib.hid hbdd6
  clear hbdd6
  go_wp2_with (refine wpList_append_x rfl (.tmp 24) (.tmp 27) rfl W1.heap.size v4 _ rfl (row_own HR5c.out) A5c c5c tr rfl HN5c.out HS5c.out HBDD6.out (row_size HR5c.out) ?_)
  intro v6 U6 ho hg hk
  have HR6 := Lib.hid (row_app (x := tr) HR5c.out (by simpa using ho) hg)
  clear ho hg hk
  clear k0
  have bx := HBX.out _ HR6.out.below
  have k0 := bx.cell 0
  simp only [List.getElem?_cons_zero] at k0
  clear bx
  go_wp2_with fail
  refine (HP.out _).mono ?_
  rintro e U ⟨rfl, rfl⟩
  go_wp2_with fail
  go_ret
  exact ⟨_, rfl, by rw [HE.out, HX.out]; unfold itemB; rw [HQtn.out, HQta.out, HQtr.out, ← List.append_assoc, ← List.append_assoc]; exact HR6.out.pre HB1.out⟩
end Go.Proofs.YtggmogjgaoobjaaDoor

/- The contract of the reference's Encode, of several outputs. -/
namespace Go.Proofs.YtggmogjgaoobjaaDoor
open Go.RowKit BaseMath WireMath ReqMath

set_option maxHeartbeats 4000000 in
set_option maxRecDepth 100000 in
theorem rencode_4 (r : ReqV) (v : Value) (hors : ∀ x ∈ r.outs, x.refs.length ≤ 255) (hbd : (encB r).length ≤ 400000) (hkx : r.kind.toNat = 7) (w : World) (h : ReqIs w v r) :
    Calls Tryd.prog 17 #[v] w (EncPost w (encB r)) := by
  obtain ⟨A, ca, R, cr, O, co, rfl, hA, hR, hO⟩ := h
  have HA := Lib.hid hA; have HR := Lib.hid hR; have HO := Lib.hid hO; have HOR := Lib.hid hors
  have hb1 : Below w.heap.size w (w.alloc (.cells #[vb r.kind, vs r.name, vs r.path, .slice A r.arch.length ca, .slice R r.refs.length cr, .slice O r.outs.length co] 40)) := (Below.refl _ _).alloc (Nat.le_refl _) _
  have HB1 := Lib.hid hb1
  have HBOX := Lib.hid (Blk.new w 40 #[vb r.kind, vs r.name, vs r.path, .slice A r.arch.length ca, .slice R r.refs.length cr, .slice O r.outs.length co])
  have hsz1 : (w.alloc (.cells #[vb r.kind, vs r.name, vs r.path, .slice A r.arch.length ca, .slice R r.refs.length cr, .slice O r.outs.length co] 40)).heap.size = w.heap.size + 1 := by simp
  have k0 := HBOX.out.cell 0
  simp only [List.getElem?_cons_zero] at k0
  have HE : Hid (encB r = [r.kind] ++ restB (hasK r.kind.toNat) r) := rfl
  have hbd2 : 1 + (restB (hasK r.kind.toNat) r).length ≤ 400000 := by rw [HE.out, List.length_append] at hbd; exact hbd
  have hk256 : r.kind.toNat < 256 := r.kind.toNat_lt
  clear hA hR hO hors hb1 hbd
  have HR0 := Lib.hid (new_row (w.alloc (.cells #[vb r.kind, vs r.name, vs r.path, .slice A r.arch.length ca, .slice R r.refs.length cr, .slice O r.outs.length co] 40)) [r.kind] 1 rfl (by decide))
  rw [List.map_cons, List.map_nil, hsz1] at HR0
  have HSZ := Lib.hid hsz1
  clear hsz1 k0
  have k0 : (((w.alloc (.cells #[vb r.kind, vs r.name, vs r.path, .slice A r.arch.length ca, .slice R r.refs.length cr, .slice O r.outs.length co] 40)).alloc (.cells #[vb r.kind] 5))).cell? ⟨w.heap.size, 0, none⟩ = some (vb r.kind) := (HBOX.out.alloc _).cell 0
  have hk1 : ((r.kind.toNat : Int) == 1) = false := by rw [hkx]; rfl
  have hk7 : ((r.kind.toNat : Int) == 7) = true := by rw [hkx]; rfl
  have HX : Hid (restB (hasK r.kind.toNat) r = outsB r.outs) := by show _ = _; rw [hkx]; rfl
  have HP : Hid (∀ W, Calls Tryd.prog 46 #[vb r.kind] W fun e w' => e = .returned (.bool false) ∧ W = w') := fun W => pathed_no r.kind.toNat hk256 (by omega) W
  have hbd3 : 2 + (r.outs.flatMap outB).length ≤ 400000 := by rw [HX.out] at hbd2; unfold outsB at hbd2; simp only [List.length_append, List.length_cons, List.length_nil] at hbd2; omega
  have hol := outs_len r.outs
  clear hkx hbd2
  go_enter Tryd.func17, Tryd.ntmps17
  go_wp2_with fail
  have HW1 : Hid (RowRel (w.alloc (.cells #[vb r.kind, vs r.name, vs r.path, .slice A r.arch.length ca, .slice R r.refs.length cr, .slice O r.outs.length co] 40)) 5 (([r.kind] : List By).map vb) (.slice (some ⟨w.heap.size + 1, 0, none⟩) 1 1) ((w.alloc (.cells #[vb r.kind, vs r.name, vs r.path, .slice A r.arch.length ca, .slice R r.refs.length cr, .slice O r.outs.length co] 40)).alloc (.cells #[vb r.kind] 5))) := HR0.out
  clear HR0
  generalize w.alloc (.cells #[vb r.kind, vs r.name, vs r.path, .slice A r.arch.length ca, .slice R r.refs.length cr, .slice O r.outs.length co] 40) = W1 at *
  have hw1 : w.heap.size < W1.heap.size := by have := HSZ.out; omega
  have HWB : Hid (∀ U, Below W1.heap.size W1 U → Below w.heap.size w U) := fun U hU => HB1.out.trans (hU.mono HB1.out.size)
  have HBX : Hid (∀ U, Below W1.heap.size W1 U → Blk U w.heap.size 40 [vb r.kind, vs r.name, vs r.path, .slice A r.arch.length ca, .slice R r.refs.length cr, .slice O r.outs.length co]) := fun U hU => Blk.below HBOX.out hU hw1
  clear HBOX k0
  refine (HP.out _).mono ?_
  rintro e U ⟨rfl, rfl⟩
  have bx := HBX.out _ HW1.out.below
  have k0 := bx.cell 0
  have k5 := bx.cell 5
  simp only [List.getElem?_cons_zero, List.getElem?_cons_succ] at k0 k5
  clear bx
  have HS9 : Hid (SrcIs ((W1.alloc (.cells #[vb r.kind] 5)).alloc (.cells #[.int .u8 ((r.outs.length : Int) % 256)] 5)) (some ⟨(W1.alloc (.cells #[vb r.kind] 5)).heap.size, 0, none⟩) [UInt8.ofNat r.outs.length]) := one_src' (vb_mod _) _
  have HSZ2 : Hid ((W1.alloc (.cells #[vb r.kind] 5)).heap.size = W1.heap.size + 1) := by show _ = _; simp
  rw [HSZ2.out] at HS9
  have HR9 := Lib.hid (HW1.out.alloc (.cells #[.int .u8 ((r.outs.length : Int) % 256)] 5))
  go_wp2_with (refine wpList_append_x rfl (.tmp 40) (.tmp 45) rfl W1.heap.size (.slice (some ⟨w.heap.size + 1, 0, none⟩) 1 1) _ rfl (row_own HR9.out) (some ⟨W1.heap.size + 1, 0, none⟩) 1 [UInt8.ofNat r.outs.length] rfl (fun h => by cases h) HS9.out (by simp) (row_size HR9.out) ?_)
  intro v1 U1 ho hg hk
  have HR1 : Hid (RowRel W1 5 (([r.kind] ++ [UInt8.ofNat r.outs.length] ++ outN r.outs 0).map vb) v1 U1) := by
    have := row_app (x := [UInt8.ofNat r.outs.length]) HR9.out (by simpa using ho) hg
    show RowRel _ _ _ _ _
    simpa [outN] using this
  clear ho hg hk HR9 HS9 HSZ2 k0 k5 HW1
  go_wp2_with fail
  go_loopw [3, 4] (fun v vv wr => ∃ k : Nat, k ≤ r.outs.length ∧ vv = .int .i64 k ∧ Hid (RowRel W1 5 (([r.kind] ++ [UInt8.ofNat r.outs.length] ++ outN r.outs k).map vb) v wr)) (fun _ vv _ => r.outs.length - (intOf vv).toNat)
  case atStart => exact ⟨0, Nat.zero_le _, rfl, HR1.out⟩
  case round =>
    clear HR1
    obtain ⟨k, hk, rfl, HR⟩ := hrel
    rename World => W0
    have bx := HBX.out _ HR.out.below
    have k5 := bx.cell 5
    simp only [List.getElem?_cons_zero, List.getElem?_cons_succ] at k5
    clear bx
    by_cases hlt : k < r.outs.length
    · obtain ⟨b, o, hOe, hc⟩ := HO.out (by omega)
      subst hOe
      obtain ⟨A', ca', R', cr', M', cm', d0, d1, d2, d3, h4⟩ := hc k hlt
      have hbl : b < w.heap.size := block_of_cell d0
      have hh : ∀ q, W0.cell? ⟨b, q, none⟩ = w.cell? ⟨b, q, none⟩ := fun q => (HWB.out _ HR.out.below).cell (p := ⟨b, q, none⟩) hbl
      rw [← hh] at d0 d1 d2 d3
      have H4 := Lib.hid h4
      have hle := outN_le r.outs k hlt
      rw [outB_length, itemB_length] at hle
      have HF := Lib.hid (outN_succ r.outs k hlt)
      have HRL := HOR.out r.outs[k] (List.getElem_mem hlt)
      clear hc hh h4
      generalize r.outs[k] = x at *
      have HBO := Lib.hid (Blk.new W0 57 #[vs x.name, .slice A' x.arch.length ca', .slice R' x.refs.length cr', .slice M' x.needs.length cm'])
      have HRo := Lib.hid (HR.out.alloc (.cells #[vs x.name, .slice A' x.arch.length ca', .slice R' x.refs.length cr', .slice M' x.needs.length cm'] 57))
      have hob : W1.heap.size ≤ W0.heap.size := HR.out.below.size
      clear HR
      generalize hLn : outN r.outs k = Ln at *
      clear hLn
      have k0 := Blk.cell HBO.out 0
      simp only [List.getElem?_cons_zero] at k0
      go_wp2_with fail
      clear d0 d1 d2 d3 k0 k5
      refine (rtextb_any x.name (by omega) _).mono ?_
      rintro e U2c ⟨v2c, rfl, hr⟩
      obtain ⟨A2c, c2c, rfl, hs2c, hn2c, hc2c, -⟩ := hr.src
      have HS2c := Lib.hid hs2c; have HN2c := Lib.hid hn2c
      have HR2c := Lib.hid (RowRel.below' HRo.out hr.below)
      have HO2c := Lib.hid (HBO.out.below hr.below (Blk.lt HBO.out))
      clear hr hs2c hn2c hc2c
      have hlen0 : (textB x.name).length = 2 + x.name.length := textB_length _
      generalize hq : textB x.name = tn at *
      have HQtn := Lib.hid hq; have HLtn := Lib.hid hlen0
      clear hq hlen0
      have hbdd3 := (show ([r.kind] ++ [UInt8.ofNat r.outs.length] ++ Ln).length + tn.length ≤ 1000000 by have := HLtn.out; simp; omega)
      have HBDD3 := Lib.hid hbdd3
      clear hbdd3
      go_wp2_with (refine wpList_append_x rfl (.tmp 59) (.tmp 62) rfl W1.heap.size u3 _ rfl (row_own HR2c.out) A2c c2c tn rfl HN2c.out HS2c.out HBDD3.out (row_size HR2c.out) ?_)
      intro v3 U3 ho hg hk
      have HR3 := Lib.hid (row_app (x := tn) HR2c.out (by simpa using ho) hg)
      have HO3 := Lib.hid (row_app_blk HR2c.out hg (by decide) HO2c.out)
      clear ho hg hk
      have k1 := Blk.cell HO3.out 1
      simp only [List.getElem?_cons_zero, List.getElem?_cons_succ] at k1
      have hcv := run_text_src (cap := ca') (H4.out.1.below (HWB.out _ HR3.out.below))
      go_wp2_with fail
      clear hcv k1
      refine (rtextb_any x.arch (by omega) _).mono ?_
      rintro e U4c ⟨v4c, rfl, hr⟩
      obtain ⟨A4c, c4c, rfl, hs4c, hn4c, hc4c, -⟩ := hr.src
      have HS4c := Lib.hid hs4c; have HN4c := Lib.hid hn4c
      have HR4c := Lib.hid (RowRel.below' HR3.out hr.below)
      have HO4c := Lib.hid (HO3.out.below hr.below (Blk.lt HO3.out))
      clear hr hs4c hn4c hc4c
      have hlen0 : (textB x.arch).length = 2 + x.arch.length := textB_length _
      generalize hq : textB x.arch = ta at *
      have HQta := Lib.hid hq; have HLta := Lib.hid hlen0
      clear hq hlen0
      have hbdd5 := (show ([r.kind] ++ [UInt8.ofNat r.outs.length] ++ Ln ++ tn).length + ta.length ≤ 1000000 by have := HLtn.out; have := HLta.out; simp; omega)
      have HBDD5 := Lib.hid hbdd5
      clear hbdd5
      go_wp2_with (refine wpList_append_x rfl (.tmp 64) (.tmp 68) rfl W1.heap.size v3 _ rfl (row_own HR4c.out) A4c c4c ta rfl HN4c.out HS4c.out HBDD5.out (row_size HR4c.out) ?_)
      intro v5 U5 ho hg hk
      have HR5 := Lib.hid (row_app (x := ta) HR4c.out (by simpa using ho) hg)
      have HO5 := Lib.hid (row_app_blk HR4c.out hg (by decide) HO4c.out)
      clear ho hg hk
      have k2 := Blk.cell HO5.out 2
      simp only [List.getElem?_cons_zero, List.getElem?_cons_succ] at k2
      go_wp2_with fail
      clear k2
      refine (rtextsb_any R' cr' x.refs HRL (by omega) _ (H4.out.2.1.belowS (HWB.out _ HR5.out.below))).mono ?_
      rintro e U6c ⟨v6c, rfl, hr⟩
      obtain ⟨A6c, c6c, rfl, hs6c, hn6c, hc6c, -⟩ := hr.src
      have HS6c := Lib.hid hs6c; have HN6c := Lib.hid hn6c
      have HR6c := Lib.hid (RowRel.below' HR5.out hr.below)
      have HO6c := Lib.hid (HO5.out.below hr.below (Blk.lt HO5.out))
      clear hr hs6c hn6c hc6c
      have hlen0 : (textsB x.refs).length = 1 + (x.refs.flatMap textB).length := by unfold textsB; simp; omega
      generalize hq : textsB x.refs = tr at *
      have HQtr := Lib.hid hq; have HLtr := Lib.hid hlen0
      clear hq hlen0
      have hbdd7 := (show ([r.kind] ++ [UInt8.ofNat r.outs.length] ++ Ln ++ tn ++ ta).length + tr.length ≤ 1000000 by have := HLtn.out; have := HLta.out; have := HLtr.out; simp; omega)
      have HBDD7 := Lib.hid hbdd7
      clear hbdd7
      go_wp2_with (refine wpList_append_x rfl (.tmp 70) (.tmp 73) rfl W1.heap.size v5 _ rfl (row_own HR6c.out) A6c c6c tr rfl HN6c.out HS6c.out HBDD7.out (row_size HR6c.out) ?_)
      intro v7 U7 ho hg hk
      have HR7 := Lib.hid (row_app (x := tr) HR6c.out (by simpa using ho) hg)
      have HO7 := Lib.hid (row_app_blk HR6c.out hg (by decide) HO6c.out)
      clear ho hg hk
      have k3 := Blk.cell HO7.out 3
      simp only [List.getElem?_cons_zero, List.getElem?_cons_succ] at k3
      have HS8 : Hid (SrcIs (U7.alloc (.cells #[.int .u8 ((x.needs.length : Int) % 256)] 5)) (some ⟨U7.heap.size, 0, none⟩) [UInt8.ofNat x.needs.length]) := one_src' (vb_mod _) _
      have HR8c := Lib.hid (HR7.out.alloc (.cells #[.int .u8 ((x.needs.length : Int) % 256)] 5))
      have HO8c : Hid (Blk (U7.alloc (.cells #[.int .u8 ((x.needs.length : Int) % 256)] 5)) W0.heap.size 57 [vs x.name, .slice A' x.arch.length ca', .slice R' x.refs.length cr', .slice M' x.needs.length cm']) := Blk.alloc HO7.out _
      have hbdd9 := (show ([r.kind] ++ [UInt8.ofNat r.outs.length] ++ Ln ++ tn ++ ta ++ tr).length + ([UInt8.ofNat x.needs.length] : List By).length ≤ 1000000 by have := HLtn.out; have := HLta.out; have := HLtr.out; simp; omega)
      have HBDD9 := Lib.hid hbdd9
      clear hbdd9
      go_wp2_with (refine wpList_append_x rfl (.tmp 75) (.tmp 80) rfl W1.heap.size v7 _ rfl (row_own HR8c.out) (some ⟨U7.heap.size, 0, none⟩) 1 [UInt8.ofNat x.needs.length] rfl (fun h => by cases h) HS8.out HBDD9.out (row_size HR8c.out) ?_)
      intro v9 U9 ho hg hk
      have HR9 := Lib.hid (row_app (x := [UInt8.ofNat x.needs.length]) HR8c.out (by simpa using ho) hg)
      have HO9 := Lib.hid (row_app_blk HR8c.out hg (by decide) HO8c.out)
      clear ho hg hk
      clear HS8 HR8c HO8c k3 HR7 HO7
      have k3 := Blk.cell HO9.out 3
      simp only [List.getElem?_cons_zero, List.getElem?_cons_succ] at k3
      go_wp2_with fail
      clear k3
      have HR9 : Hid (RowRel W1 5 (([r.kind] ++ [UInt8.ofNat r.outs.length] ++ Ln ++ tn ++ ta ++ tr ++ [UInt8.ofNat x.needs.length] ++ needN x.needs 0).map vb) v9 U9) := by
        show RowRel _ _ _ _ _
        simpa [needN] using HR9.out
      go_loopw [3, 6] (fun v vv wr => ∃ j : Nat, j ≤ x.needs.length ∧ vv = .int .i64 j ∧ Hid (RowRel W1 5 (([r.kind] ++ [UInt8.ofNat r.outs.length] ++ Ln ++ tn ++ ta ++ tr ++ [UInt8.ofNat x.needs.length] ++ needN x.needs j).map vb) v wr) ∧ Hid (Blk wr W0.heap.size 57 [vs x.name, .slice A' x.arch.length ca', .slice R' x.refs.length cr', .slice M' x.needs.length cm'])) (fun _ vv _ => x.needs.length - (intOf vv).toNat)
      case atStart => exact ⟨0, Nat.zero_le _, rfl, HR9.out, HO9.out⟩
      case round =>
        clear HR9 HO9
        obtain ⟨j, hj, rfl, HRj, HOj⟩ := hrel
        rename World => V0
        have k3 := Blk.cell HOj.out 3
        simp only [List.getElem?_cons_zero, List.getElem?_cons_succ] at k3
        by_cases hjt : j < x.needs.length
        · obtain ⟨nb, no, hMe, hnc⟩ := (H4.out.2.2.below (HWB.out _ HRj.out.below)) (by omega)
          subst hMe
          have cn := hnc j hjt
          have HNF := Lib.hid (needN_succ x.needs j hjt)
          have HNL := Lib.hid (needN_length x.needs j hj)
          generalize x.needs[j] = z at *
          clear hnc
          have HS10 : Hid (SrcIs (V0.alloc (.cells #[.int .u8 (z % 256)] 5)) (some ⟨V0.heap.size, 0, none⟩) [byteI z]) := one_src' (vb_byteI z) _
          have HRj2 := Lib.hid (HRj.out.alloc (.cells #[.int .u8 (z % 256)] 5))
          have HOj2 : Hid (Blk (V0.alloc (.cells #[.int .u8 (z % 256)] 5)) W0.heap.size 57 [vs x.name, .slice A' x.arch.length ca', .slice R' x.refs.length cr', .slice (some ⟨nb, no, none⟩) x.needs.length cm']) := Blk.alloc HOj.out _
          clear HRj HOj
          generalize hNd : needN x.needs j = Nd at *
          have hbdj : ([r.kind] ++ [UInt8.ofNat r.outs.length] ++ Ln ++ tn ++ ta ++ tr ++ [UInt8.ofNat x.needs.length] ++ Nd).length + ([byteI z] : List By).length ≤ 1000000 := by have := HLtn.out; have := HLta.out; have := HLtr.out; have := HNL.out; simp; omega
          have HBDJ := Lib.hid hbdj
          clear hbdj hNd
          go_wp2_with (refine wpList_append_x rfl (.tmp 89) (.tmp 96) rfl W1.heap.size u3 _ rfl (row_own HRj2.out) (some ⟨V0.heap.size, 0, none⟩) 1 [byteI z] rfl (fun h => by cases h) HS10.out HBDJ.out (row_size HRj2.out) ?_)
          intro u1 V1 ho hg hk'
          have HRn : Hid (RowRel W1 5 (([r.kind] ++ [UInt8.ofNat r.outs.length] ++ Ln ++ tn ++ ta ++ tr ++ [UInt8.ofNat x.needs.length] ++ needN x.needs (j + 1)).map vb) u1 V1) := by
            have := row_app (x := [byteI z]) HRj2.out (by simpa using ho) hg
            show RowRel _ _ _ _ _
            rw [HNF.out, ← List.append_assoc]; exact this
          have HOn := Lib.hid (row_app_blk HRj2.out hg (by decide) HOj2.out)
          clear ho hg hk' HRj2 HOj2 HS10 HBDJ HNF
          go_wp2_with fail
          go_roundw
          case rel => exact ⟨j + 1, by omega, by go_num, HRn.out, HOn.out⟩
          case measure => simp [intOf]; omega
        · obtain rfl : j = x.needs.length := by omega
          have HN : Hid (RowRel W1 5 (([r.kind] ++ [UInt8.ofNat r.outs.length] ++ outN r.outs (k + 1)).map vb) u3 V0) := by
            have := HRj.out
            show RowRel _ _ _ _ _
            rw [HF.out]
            unfold outB itemB
            rw [HQtn.out, HQta.out, HQtr.out]
            simpa [needN, List.append_assoc] using this
          go_wp2_with fail
          go_roundw
          case rel => exact ⟨k + 1, by omega, by go_num, HN.out⟩
          case measure => simp [intOf]; omega
    · obtain rfl : k = r.outs.length := by omega
      go_wp2_with fail
      go_ret
      refine ⟨_, rfl, ?_⟩
      rw [HE.out, HX.out]
      have := HR.out
      unfold outN at this
      rw [List.take_length] at this
      unfold outsB
      rw [← List.append_assoc]
      exact RowRel.pre this HB1.out
theorem rencode_any (r : ReqV) (v : Value) (hrs : r.refs.length ≤ 255) (hors : ∀ x ∈ r.outs, x.refs.length ≤ 255) (hbd : (encB r).length ≤ 400000) (w : World) (h : ReqIs w v r) :
    Calls Tryd.prog 17 #[v] w (EncPost w (encB r)) := by
  rcases has_cases r.kind.toNat with h1 | h1 | h1 | h1 | h1
  · exact rencode_0 r v hbd ⟨by omega, by omega, by omega⟩ w h
  · exact rencode_0 r v hbd ⟨by omega, by omega, by omega⟩ w h
  · exact rencode_2 r v hbd h1.2 w h
  · exact rencode_3 r v hrs hbd h1.2 w h
  · exact rencode_4 r v hors hbd h1.2 w h
end Go.Proofs.YtggmogjgaoobjaaDoor
