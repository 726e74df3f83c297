/- The contract of the reference's Encode. -/
import Derived.Test.YtghbabnekalgpaaDoorQ9
import Derived.Test.YtghbabnekalgpaaDoorW14
import Derived.Test.YtghbabnekalgpaaDoorQ4
namespace Go.Proofs.YtghbabnekalgpaaDoor
open Go.RowKit BaseMath WireMath ReqMath

theorem row_own {w W : World} {v : Value} {l : List By} (r : RowRel w 5 (l.map vb) v W) : W.ownsRow w.heap.size 5 1 v l.length (l.map vb) := by have := r.own; rwa [List.length_map] at this
theorem row_size {w W : World} {v : Value} {l : List By} (r : RowRel w 5 (l.map vb) v W) : w.heap.size ≤ W.heap.size := r.below.size
theorem row_app {w W W' : World} {v v' : Value} {l x : List By} (r : RowRel w 5 (l.map vb) v W) (ho : W'.ownsRow w.heap.size 5 1 v' (l ++ x).length ((l ++ x).map vb)) (hg : W.grownBy W' v.ownBlock) : RowRel w 5 ((l ++ x).map vb) v' W' :=
  ⟨r.below.grown hg r.below.size (fun k hk => (r.own.lt k hk).1), by rw [List.length_map]; exact ho⟩
theorem row_app_blk {w W W' : World} {v : Value} {l : List By} {b : Nat} {t : TypeId} {cs : List Value} (r : RowRel w 5 (l.map vb) v W) (hg : W.grownBy W' v.ownBlock) (ht : t ≠ 5) (h : Blk W b t cs) : Blk W' b t cs := by
  unfold Blk
  rw [hg.block b h.lt (fun e => own_ne ht h (row_own r) e.symm)]; exact h
theorem one_src' {x : By} {v : Value} (h : vb x = v) (w : World) : SrcIs (w.alloc (.cells #[v] 5)) (some ⟨w.heap.size, 0, none⟩) [x] := by
  have := new_src w [x]
  rw [← h]; exact this
def encNot (k : Nat) : Prop := k ≠ 1 ∧ ¬ (2 ≤ k ∧ k ≤ 6 ∨ 8 ≤ k ∧ k ≤ 10) ∧ k ≠ 7
set_option maxHeartbeats 4000000 in
set_option maxRecDepth 100000 in
theorem rencode_0 (r : ReqV) (v : Value) (hbd : (encB r).length ≤ 400000) (hkx : encNot r.kind.toNat) (w : World) (h : ReqIs w v r) :
    Calls Tryd.prog 17 #[v] w (EncPost w (encB r)) := by
  obtain ⟨A, ca, R, cr, O, co, rfl, hA, hR, hO⟩ := h
  have HA := Lib.hid hA; have HR := Lib.hid hR; have HO := Lib.hid hO
  have hb1 : Below w.heap.size w (w.alloc (.cells #[vb r.kind, vs r.name, vs r.path, .slice A r.arch.length ca, .slice R r.refs.length cr, .slice O r.outs.length co] 40)) := (Below.refl _ _).alloc (Nat.le_refl _) _
  have HB1 := Lib.hid hb1
  have HBOX := Lib.hid (Blk.new w 40 #[vb r.kind, vs r.name, vs r.path, .slice A r.arch.length ca, .slice R r.refs.length cr, .slice O r.outs.length co])
  have hsz1 : (w.alloc (.cells #[vb r.kind, vs r.name, vs r.path, .slice A r.arch.length ca, .slice R r.refs.length cr, .slice O r.outs.length co] 40)).heap.size = w.heap.size + 1 := by simp
  have k0 := HBOX.out.cell 0
  simp only [List.getElem?_cons_zero] at k0
  have HE : Hid (encB r = [r.kind] ++ restB (hasK r.kind.toNat) r) := rfl
  have hbd2 : 1 + (restB (hasK r.kind.toNat) r).length ≤ 400000 := by rw [HE.out, List.length_append] at hbd; exact hbd
  have hk256 : r.kind.toNat < 256 := r.kind.toNat_lt
  clear hA hR hO hb1 hbd
  have HR0 := Lib.hid (new_row (w.alloc (.cells #[vb r.kind, vs r.name, vs r.path, .slice A r.arch.length ca, .slice R r.refs.length cr, .slice O r.outs.length co] 40)) [r.kind] 1 rfl (by decide))
  rw [List.map_cons, List.map_nil, hsz1] at HR0
  have HSZ := Lib.hid hsz1
  clear hsz1 k0
  have k0 : (((w.alloc (.cells #[vb r.kind, vs r.name, vs r.path, .slice A r.arch.length ca, .slice R r.refs.length cr, .slice O r.outs.length co] 40)).alloc (.cells #[vb r.kind] 5))).cell? ⟨w.heap.size, 0, none⟩ = some (vb r.kind) := (HBOX.out.alloc _).cell 0
  have hk1 : ((r.kind.toNat : Int) == 1) = false := by rw [beq_eq_false_iff_ne]; have := hkx.1; omega
  have hk7 : ((r.kind.toNat : Int) == 7) = false := by rw [beq_eq_false_iff_ne]; have := hkx.2.2; omega
  have HX : Hid (restB (hasK r.kind.toNat) r = []) := by
    show _ = _
    obtain ⟨a1, a2, a3⟩ := hkx
    rcases has_cases r.kind.toNat with h | h | h | h | h
    · rw [h.1]; rfl
    · rw [h.1]; rfl
    · exact absurd h.2 a2
    · exact absurd h.2 a1
    · exact absurd h.2 a3
  have HP : Hid (∀ W, Calls Tryd.prog 46 #[vb r.kind] W fun e w' => e = .returned (.bool false) ∧ W = w') := fun W => pathed_no r.kind.toNat hk256 hkx.2.1 W
  clear hkx
  go_enter Tryd.func17, Tryd.ntmps17
  go_wp2_with fail
  have HW1 : Hid (RowRel (w.alloc (.cells #[vb r.kind, vs r.name, vs r.path, .slice A r.arch.length ca, .slice R r.refs.length cr, .slice O r.outs.length co] 40)) 5 (([r.kind] : List By).map vb) (.slice (some ⟨w.heap.size + 1, 0, none⟩) 1 1) ((w.alloc (.cells #[vb r.kind, vs r.name, vs r.path, .slice A r.arch.length ca, .slice R r.refs.length cr, .slice O r.outs.length co] 40)).alloc (.cells #[vb r.kind] 5))) := HR0.out
  clear HR0
  generalize w.alloc (.cells #[vb r.kind, vs r.name, vs r.path, .slice A r.arch.length ca, .slice R r.refs.length cr, .slice O r.outs.length co] 40) = W1 at *
  have hw1 : w.heap.size < W1.heap.size := by have := HSZ.out; omega
  have HWB : Hid (∀ U, Below W1.heap.size W1 U → Below w.heap.size w U) := fun U hU => HB1.out.trans (hU.mono HB1.out.size)
  have HBX : Hid (∀ U, Below W1.heap.size W1 U → Blk U w.heap.size 40 [vb r.kind, vs r.name, vs r.path, .slice A r.arch.length ca, .slice R r.refs.length cr, .slice O r.outs.length co]) := fun U hU => Blk.below HBOX.out hU hw1
  clear HBOX k0
  have bx := HBX.out _ HW1.out.below
  have k0 := bx.cell 0
  simp only [List.getElem?_cons_zero] at k0
  clear bx
  refine (HP.out _).mono ?_
  rintro e U ⟨rfl, rfl⟩
  go_wp2_with fail
  go_ret
  exact ⟨_, rfl, by rw [HE.out, HX.out, List.append_nil]; exact HW1.out.pre HB1.out⟩
set_option maxHeartbeats 4000000 in
set_option maxRecDepth 100000 in
theorem rencode_2 (r : ReqV) (v : Value) (hbd : (encB r).length ≤ 400000) (hkx : 2 ≤ r.kind.toNat ∧ r.kind.toNat ≤ 6 ∨ 8 ≤ r.kind.toNat ∧ r.kind.toNat ≤ 10) (w : World) (h : ReqIs w v r) :
    Calls Tryd.prog 17 #[v] w (EncPost w (encB r)) := by
  obtain ⟨A, ca, R, cr, O, co, rfl, hA, hR, hO⟩ := h
  have HA := Lib.hid hA; have HR := Lib.hid hR; have HO := Lib.hid hO
  have hb1 : Below w.heap.size w (w.alloc (.cells #[vb r.kind, vs r.name, vs r.path, .slice A r.arch.length ca, .slice R r.refs.length cr, .slice O r.outs.length co] 40)) := (Below.refl _ _).alloc (Nat.le_refl _) _
  have HB1 := Lib.hid hb1
  have HBOX := Lib.hid (Blk.new w 40 #[vb r.kind, vs r.name, vs r.path, .slice A r.arch.length ca, .slice R r.refs.length cr, .slice O r.outs.length co])
  have hsz1 : (w.alloc (.cells #[vb r.kind, vs r.name, vs r.path, .slice A r.arch.length ca, .slice R r.refs.length cr, .slice O r.outs.length co] 40)).heap.size = w.heap.size + 1 := by simp
  have k0 := HBOX.out.cell 0
  simp only [List.getElem?_cons_zero] at k0
  have HE : Hid (encB r = [r.kind] ++ restB (hasK r.kind.toNat) r) := rfl
  have hbd2 : 1 + (restB (hasK r.kind.toNat) r).length ≤ 400000 := by rw [HE.out, List.length_append] at hbd; exact hbd
  have hk256 : r.kind.toNat < 256 := r.kind.toNat_lt
  clear hA hR hO hb1 hbd
  have HR0 := Lib.hid (new_row (w.alloc (.cells #[vb r.kind, vs r.name, vs r.path, .slice A r.arch.length ca, .slice R r.refs.length cr, .slice O r.outs.length co] 40)) [r.kind] 1 rfl (by decide))
  rw [List.map_cons, List.map_nil, hsz1] at HR0
  have HSZ := Lib.hid hsz1
  clear hsz1 k0
  have k0 : (((w.alloc (.cells #[vb r.kind, vs r.name, vs r.path, .slice A r.arch.length ca, .slice R r.refs.length cr, .slice O r.outs.length co] 40)).alloc (.cells #[vb r.kind] 5))).cell? ⟨w.heap.size, 0, none⟩ = some (vb r.kind) := (HBOX.out.alloc _).cell 0
  have hk1 : ((r.kind.toNat : Int) == 1) = false := by rw [beq_eq_false_iff_ne]; omega
  have hk7 : ((r.kind.toNat : Int) == 7) = false := by rw [beq_eq_false_iff_ne]; omega
  have hz : hasK r.kind.toNat = 2 := by rcases has_cases r.kind.toNat with h | h | h | h | h <;> omega
  have HX : Hid (restB (hasK r.kind.toNat) r = textB r.path) := by show _ = _; rw [hz]; rfl
  have HP : Hid (∀ W, Calls Tryd.prog 46 #[vb r.kind] W fun e w' => e = .returned (.bool true) ∧ W = w') := fun W => pathed_yes r.kind.toNat hk256 hkx W
  rw [HX.out, textB_length] at hbd2
  clear hkx hz
  go_enter Tryd.func17, Tryd.ntmps17
  go_wp2_with fail
  have HW1 : Hid (RowRel (w.alloc (.cells #[vb r.kind, vs r.name, vs r.path, .slice A r.arch.length ca, .slice R r.refs.length cr, .slice O r.outs.length co] 40)) 5 (([r.kind] : List By).map vb) (.slice (some ⟨w.heap.size + 1, 0, none⟩) 1 1) ((w.alloc (.cells #[vb r.kind, vs r.name, vs r.path, .slice A r.arch.length ca, .slice R r.refs.length cr, .slice O r.outs.length co] 40)).alloc (.cells #[vb r.kind] 5))) := HR0.out
  clear HR0
  generalize w.alloc (.cells #[vb r.kind, vs r.name, vs r.path, .slice A r.arch.length ca, .slice R r.refs.length cr, .slice O r.outs.length co] 40) = W1 at *
  have hw1 : w.heap.size < W1.heap.size := by have := HSZ.out; omega
  have HWB : Hid (∀ U, Below W1.heap.size W1 U → Below w.heap.size w U) := fun U hU => HB1.out.trans (hU.mono HB1.out.size)
  have HBX : Hid (∀ U, Below W1.heap.size W1 U → Blk U w.heap.size 40 [vb r.kind, vs r.name, vs r.path, .slice A r.arch.length ca, .slice R r.refs.length cr, .slice O r.outs.length co]) := fun U hU => Blk.below HBOX.out hU hw1
  clear HBOX k0
  refine (HP.out _).mono ?_
  rintro e U ⟨rfl, rfl⟩
  have bx := HBX.out _ HW1.out.below
  have k0 := bx.cell 0
  have k2 := bx.cell 2
  simp only [List.getElem?_cons_zero, List.getElem?_cons_succ] at k0 k2
  clear bx
  go_wp2_with fail
  refine (rtextb_any r.path (by omega) _).mono ?_
  rintro e U1c ⟨v1c, rfl, hr⟩
  obtain ⟨A1c, c1c, rfl, hs1c, hn1c, hc1c, -⟩ := hr.src
  have HS1c := Lib.hid hs1c; have HN1c := Lib.hid hn1c
  have HR1c := Lib.hid (RowRel.below' HW1.out hr.below)
  clear hr hs1c hn1c hc1c
  have hlen0 : (textB r.path).length = 2 + r.path.length := textB_length _
  generalize hq : textB r.path = tp at *
  have HQtp := Lib.hid hq; have HLtp := Lib.hid hlen0
  clear hq hlen0
  have bx := HBX.out _ HR1c.out.below
  have k0 := bx.cell 0
  simp only [List.getElem?_cons_zero] at k0
  clear bx
  have hbdd2 := (show ([r.kind] : List By).length + tp.length ≤ 1000000 by have := HLtp.out; simp; omega)
  have HBDD2 := Lib.hid hbdd2
  clear hbdd2
  go_wp2_with (refine wpList_append_x rfl (.tmp 32) (.tmp 35) rfl W1.heap.size (.slice (some ⟨w.heap.size + 1, 0, none⟩) 1 1) _ rfl (row_own HR1c.out) A1c c1c tp rfl HN1c.out HS1c.out HBDD2.out (row_size HR1c.out) ?_)
  intro v2 U2 ho hg hk
  have HR2 := Lib.hid (row_app (x := tp) HR1c.out (by simpa using ho) hg)
  clear ho hg hk
  clear k0
  have bx := HBX.out _ HR2.out.below
  have k0 := bx.cell 0
  simp only [List.getElem?_cons_zero] at k0
  clear bx
  go_wp2_with fail
  go_ret
  exact ⟨_, rfl, by rw [HE.out, HX.out]; exact HR2.out.pre HB1.out⟩
set_option maxHeartbeats 4000000 in
set_option maxRecDepth 100000 in
theorem rencode_3 (r : ReqV) (v : Value) (hrs : r.refs.length ≤ 255) (hbd : (encB r).length ≤ 400000) (hkx : r.kind.toNat = 1) (w : World) (h : ReqIs w v r) :
    Calls Tryd.prog 17 #[v] w (EncPost w (encB r)) := by
  obtain ⟨A, ca, R, cr, O, co, rfl, hA, hR, hO⟩ := h
  have HA := Lib.hid hA; have HR := Lib.hid hR; have HO := Lib.hid hO
  have hb1 : Below w.heap.size w (w.alloc (.cells #[vb r.kind, vs r.name, vs r.path, .slice A r.arch.length ca, .slice R r.refs.length cr, .slice O r.outs.length co] 40)) := (Below.refl _ _).alloc (Nat.le_refl _) _
  have HB1 := Lib.hid hb1
  have HBOX := Lib.hid (Blk.new w 40 #[vb r.kind, vs r.name, vs r.path, .slice A r.arch.length ca, .slice R r.refs.length cr, .slice O r.outs.length co])
  have hsz1 : (w.alloc (.cells #[vb r.kind, vs r.name, vs r.path, .slice A r.arch.length ca, .slice R r.refs.length cr, .slice O r.outs.length co] 40)).heap.size = w.heap.size + 1 := by simp
  have k0 := HBOX.out.cell 0
  simp only [List.getElem?_cons_zero] at k0
  have HE : Hid (encB r = [r.kind] ++ restB (hasK r.kind.toNat) r) := rfl
  have hbd2 : 1 + (restB (hasK r.kind.toNat) r).length ≤ 400000 := by rw [HE.out, List.length_append] at hbd; exact hbd
  have hk256 : r.kind.toNat < 256 := r.kind.toNat_lt
  clear hA hR hO hb1 hbd
  have HR0 := Lib.hid (new_row (w.alloc (.cells #[vb r.kind, vs r.name, vs r.path, .slice A r.arch.length ca, .slice R r.refs.length cr, .slice O r.outs.length co] 40)) [r.kind] 1 rfl (by decide))
  rw [List.map_cons, List.map_nil, hsz1] at HR0
  have HSZ := Lib.hid hsz1
  clear hsz1 k0
  have k0 : (((w.alloc (.cells #[vb r.kind, vs r.name, vs r.path, .slice A r.arch.length ca, .slice R r.refs.length cr, .slice O r.outs.length co] 40)).alloc (.cells #[vb r.kind] 5))).cell? ⟨w.heap.size, 0, none⟩ = some (vb r.kind) := (HBOX.out.alloc _).cell 0
  have hk1 : ((r.kind.toNat : Int) == 1) = true := by rw [hkx]; rfl
  have hk7 : ((r.kind.toNat : Int) == 7) = false := by rw [hkx]; rfl
  have HX : Hid (restB (hasK r.kind.toNat) r = itemB r.name r.arch r.refs) := by show _ = _; rw [hkx]; rfl
  have HP : Hid (∀ W, Calls Tryd.prog 46 #[vb r.kind] W fun e w' => e = .returned (.bool false) ∧ W = w') := fun W => pathed_no r.kind.toNat hk256 (by omega) W
  rw [HX.out, itemB_length] at hbd2
  clear hkx
  go_enter Tryd.func17, Tryd.ntmps17
  go_wp2_with fail
  have HW1 : Hid (RowRel (w.alloc (.cells #[vb r.kind, vs r.name, vs r.path, .slice A r.arch.length ca, .slice R r.refs.length cr, .slice O r.outs.length co] 40)) 5 (([r.kind] : List By).map vb) (.slice (some ⟨w.heap.size + 1, 0, none⟩) 1 1) ((w.alloc (.cells #[vb r.kind, vs r.name, vs r.path, .slice A r.arch.length ca, .slice R r.refs.length cr, .slice O r.outs.length co] 40)).alloc (.cells #[vb r.kind] 5))) := HR0.out
  clear HR0
  generalize w.alloc (.cells #[vb r.kind, vs r.name, vs r.path, .slice A r.arch.length ca, .slice R r.refs.length cr, .slice O r.outs.length co] 40) = W1 at *
  have hw1 : w.heap.size < W1.heap.size := by have := HSZ.out; omega
  have HWB : Hid (∀ U, Below W1.heap.size W1 U → Below w.heap.size w U) := fun U hU => HB1.out.trans (hU.mono HB1.out.size)
  have HBX : Hid (∀ U, Below W1.heap.size W1 U → Blk U w.heap.size 40 [vb r.kind, vs r.name, vs r.path, .slice A r.arch.length ca, .slice R r.refs.length cr, .slice O r.outs.length co]) := fun U hU => Blk.below HBOX.out hU hw1
  clear HBOX k0
  refine (rtextb_any r.name (by omega) _).mono ?_
  rintro e U1c ⟨v1c, rfl, hr⟩
  obtain ⟨A1c, c1c, rfl, hs1c, hn1c, hc1c, -⟩ := hr.src
  have HS1c := Lib.hid hs1c; have HN1c := Lib.hid hn1c
  have HR1c := Lib.hid (RowRel.below' HW1.out hr.below)
  clear hr hs1c hn1c hc1c
  have hlen0 : (textB r.name).length = 2 + r.name.length := textB_length _
  generalize hq : textB r.name = tn at *
  have HQtn := Lib.hid hq; have HLtn := Lib.hid hlen0
  clear hq hlen0
  have bx := HBX.out _ HR1c.out.below
  have k0 := bx.cell 0
  simp only [List.getElem?_cons_zero] at k0
  clear bx
  have hbdd2 := (show ([r.kind] : List By).length + tn.length ≤ 1000000 by have := HLtn.out; simp; omega)
  have HBDD2 := Lib.hid hbdd2
  clear hbdd2
  go_wp2_with (refine wpList_append_x rfl (.tmp 13) (.tmp 16) rfl W1.heap.size (.slice (some ⟨w.heap.size + 1, 0, none⟩) 1 1) _ rfl (row_own HR1c.out) A1c c1c tn rfl HN1c.out HS1c.out HBDD2.out (row_size HR1c.out) ?_)
  intro v2 U2 ho hg hk
  have HR2 := Lib.hid (row_app (x := tn) HR1c.out (by simpa using ho) hg)
  clear ho hg hk
  clear k0
  have bx := HBX.out _ HR2.out.below
  have k0 := bx.cell 0
  have k3 := bx.cell 3
  simp only [List.getElem?_cons_zero, List.getElem?_cons_succ] at k0 k3
  clear bx
  have hcv := run_text_src (cap := ca) (HA.out.below (HWB.out _ HR2.out.below))
  go_wp2_with fail
  clear hcv
  refine (rtextb_any r.arch (by omega) _).mono ?_
  rintro e U3c ⟨v3c, rfl, hr⟩
  obtain ⟨A3c, c3c, rfl, hs3c, hn3c, hc3c, -⟩ := hr.src
  have HS3c := Lib.hid hs3c; have HN3c := Lib.hid hn3c
  have HR3c := Lib.hid (RowRel.below' HR2.out hr.below)
  clear hr hs3c hn3c hc3c
  have hlen0 : (textB r.arch).length = 2 + r.arch.length := textB_length _
  generalize hq : textB r.arch = ta at *
  have HQta := Lib.hid hq; have HLta := Lib.hid hlen0
  clear hq hlen0
  clear k0 k3
  have bx := HBX.out _ HR3c.out.below
  have k0 := bx.cell 0
  simp only [List.getElem?_cons_zero] at k0
  clear bx
  have hbdd4 := (show ([r.kind] ++ tn).length + ta.length ≤ 1000000 by have := HLtn.out; have := HLta.out; simp; omega)
  have HBDD4 := Lib.hid hbdd4
  clear hbdd4
  go_wp2_with (refine wpList_append_x rfl (.tmp 18) (.tmp 22) rfl W1.heap.size v2 _ rfl (row_own HR3c.out) A3c c3c ta rfl HN3c.out HS3c.out HBDD4.out (row_size HR3c.out) ?_)
  intro v4 U4 ho hg hk
  have HR4 := Lib.hid (row_app (x := ta) HR3c.out (by simpa using ho) hg)
  clear ho hg hk
  clear k0
  have bx := HBX.out _ HR4.out.below
  have k0 := bx.cell 0
  have k4 := bx.cell 4
  simp only [List.getElem?_cons_zero, List.getElem?_cons_succ] at k0 k4
  clear bx
  go_wp2_with fail
  refine (rtextsb_any R cr r.refs hrs (by omega) _ (HR.out.belowS (HWB.out _ HR4.out.below))).mono ?_
  rintro e U5c ⟨v5c, rfl, hr⟩
  obtain ⟨A5c, c5c, rfl, hs5c, hn5c, hc5c, -⟩ := hr.src
  have HS5c := Lib.hid hs5c; have HN5c := Lib.hid hn5c
  have HR5c := Lib.hid (RowRel.below' HR4.out hr.below)
  clear hr hs5c hn5c hc5c k0 k4
  have hlen0 : (textsB r.refs).length = 1 + (r.refs.flatMap textB).length := by unfold textsB; simp; omega
  generalize hq : textsB r.refs = tr at *
  have HQtr := Lib.hid hq; have HLtr := Lib.hid hlen0
  clear hq hlen0
  have bx := HBX.out _ HR5c.out.below
  have k0 := bx.cell 0
  simp only [List.getElem?_cons_zero] at k0
  clear bx
  have hbdd6 := (show ([r.kind] ++ tn ++ ta).length + tr.length ≤ 1000000 by have := HLtn.out; have := HLta.out; have := HLtr.out; simp; omega)
  have HBDD6 := Lib.hid hbdd6
  clear hbdd6
  go_wp2_with (refine wpList_append_x rfl (.tmp 24) (.tmp 27) rfl W1.heap.size v4 _ rfl (row_own HR5c.out) A5c c5c tr rfl HN5c.out HS5c.out HBDD6.out (row_size HR5c.out) ?_)
  intro v6 U6 ho hg hk
  have HR6 := Lib.hid (row_app (x := tr) HR5c.out (by simpa using ho) hg)
  clear ho hg hk
  clear k0
  have bx := HBX.out _ HR6.out.below
  have k0 := bx.cell 0
  simp only [List.getElem?_cons_zero] at k0
  clear bx
  go_wp2_with fail
  refine (HP.out _).mono ?_
  rintro e U ⟨rfl, rfl⟩
  go_wp2_with fail
  go_ret
  exact ⟨_, rfl, by rw [HE.out, HX.out]; unfold itemB; rw [HQtn.out, HQta.out, HQtr.out, ← List.append_assoc, ← List.append_assoc]; exact HR6.out.pre HB1.out⟩
end Go.Proofs.YtghbabnekalgpaaDoor
