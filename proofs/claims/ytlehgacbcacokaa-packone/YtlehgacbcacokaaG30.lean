/- The contract of archive.node: too many nodes, links, files, other kinds. -/
import Derived.Test.YtlehgacbcacokaaG29
import Derived.Deep.RegionHeld3
import Derived.Deep.CutBlock
import Derived.Deep.RegionLaw
namespace Go.Proofs.Ytlehgacbcacokaa
open Go.RowKit TreeMath RealMath WireMath PackMath

def NodeOf (f : Nat) : Prop := ∀ (top ga gr k : Nat) (r : Rd) (w : World), r.p.length ≤ 1000000 → k ≤ 64 → 64 ≤ k + f → ga < w.heap.size → gr < w.heap.size → ArIs w top ga gr k r →
  Calls Try.prog 75 #[.pointer (some ⟨ga, 0, none⟩)] w (NodePost f w top ga gr k r)
theorem start_turned {w : World} {ga gr : Nat} (k : Int) (o : Obj) : Turned (ArSet ga gr) (ArSet ga gr) w ((w.setCell ⟨ga, 1, none⟩ (.int .i64 k)).alloc o) :=
  (Turned.ar_count k).trans (Turned.of_below ((Below.refl _ _).alloc (Nat.le_refl _) _))
theorem start_is {w : World} {top ga gr k : Nat} {r : Rd} (h : ArIs w top ga gr k r) (o : Obj) : ArIs ((w.setCell ⟨ga, 1, none⟩ (.int .i64 ((k : Int) + 1))).alloc o) top ga gr (k + 1) r :=
  (h.count (k + 1)).below ((Below.refl _ _).alloc (Nat.le_refl _) _)
/-- the start: the node's box has been made -/
theorem start_nin {w w1 : World} {top ga gr k : Nat} {r r1 : Rd} (hla : ga < w.heap.size) (hlr : gr < w.heap.size) (cs : Array Value) (h : ArIs ((w.setCell ⟨ga, 1, none⟩ (.int .i64 ((k : Int) + 1))).alloc (.cells zero7.toArray 27)) top ga gr (k + 1) r) (hr : RdIs w1 111 top gr r1) (ho : OnlyAt gr ((w.setCell ⟨ga, 1, none⟩ (.int .i64 ((k : Int) + 1))).alloc (.cells zero7.toArray 27)) w1) :
    NIn w top ga gr w1.heap.size (k + 1) r1 cs.toList (w1.alloc (.cells cs 27)) := by
  have ha := h.read hr ho
  have hb : Below w1.heap.size w1 (w1.alloc (.cells cs 27)) := (Below.refl _ _).alloc (Nat.le_refl _) _
  have hs := ho.size
  have hz : (w.setCell ⟨ga, 1, none⟩ (.int .i64 ((k : Int) + 1))).heap.size = w.heap.size := World.size_setCell _ _ _
  rw [World.size_alloc, hz] at hs
  have b2 : Blk w1 w.heap.size 27 zero7 := by
    have h0 := Blk.new (w.setCell ⟨ga, 1, none⟩ (.int .i64 ((k : Int) + 1))) 27 zero7.toArray
    rw [hz] at h0
    exact Blk.only h0 ho (by omega)
  exact ⟨ha.below hb, b2.below hb b2.lt, Blk.new w1 27 cs, (start_turned _ _).trans (ho.ar.trans (Turned.of_below hb)), by omega, hla, hlr⟩
set_option maxHeartbeats 2000000 in
set_option maxRecDepth 100000 in
theorem node_many (f top ga gr k : Nat) (r : Rd) (w : World) (hk : k ≤ 64) (hk2 : 64 ≤ k) (h : ArIs w top ga gr k r) :
    Calls Try.prog 75 #[.pointer (some ⟨ga, 0, none⟩)] w (NodePost f w top ga gr k r) := by
  have HN : Hid (nodeP f k r = none) := by
    show _ = _
    cases f with
    | zero => rfl
    | succ f => rw [nodeP, if_pos hk2]
  have hla := h.blk.lt
  have c1 := h.blk.cell 1; have f1 := h.blk.frozen 1
  simp only [List.getElem?_cons_zero, List.getElem?_cons_succ] at c1
  clear h
  obtain rfl : k = 64 := by omega
  go_enter Try.func75, Try.ntmps75
  go_wp2_with fail
  refine (need_no _).mono ?_
  rintro e w1 ⟨rfl, rfl⟩
  go_wp2_with fail
  exact ⟨rfl, post_none HN.out (start_turned _ _)⟩
set_option maxHeartbeats 4000000 in
set_option maxRecDepth 100000 in
theorem node_link (f top ga gr k : Nat) (r : Rd) (w : World) (hr : r.p.length ≤ 1000000) (hk : k < 64) (hla : ga < w.heap.size) (hlr : gr < w.heap.size) (h : ArIs w top ga gr k r) (hkind : numR 1 r = 3) :
    Calls Try.prog 75 #[.pointer (some ⟨ga, 0, none⟩)] w (NodePost (f + 1) w top ga gr k r) := by
  have HN : Hid (nodeP (f + 1) k r = some (.mk (linkE (textR (after 1 r))) [], k + 1, textA (after 1 r))) := by
    show _ = _
    rw [nodeP, if_neg (by omega), if_neg (by omega), if_neg (by omega), if_pos hkind]
  have HA : Hid (ArIs ((w.setCell ⟨ga, 1, none⟩ (.int .i64 ((k : Int) + 1))).alloc (.cells zero7.toArray 27)) top ga gr (k + 1) r) := start_is h _
  have c1 := h.blk.cell 1; have f1 := h.blk.frozen 1; have c0 := h.blk.cell 0
  simp only [List.getElem?_cons_zero, List.getElem?_cons_succ] at c1 c0
  have hk' : decide ((k : Int) + 1 ≤ 64) = true := decide_eq_true (by omega)
  clear h
  have HKD := Lib.hid hkind
  clear hkind
  go_enter Try.func75, Try.ntmps75
  go_wp2_with fail
  refine (need_yes _).mono ?_
  rintro e w1 ⟨rfl, rfl⟩
  go_wp2_with fail
  refine (byte_any top gr r hr _ HA.out.rd).mono ?_
  rintro e w1 ⟨rfl, h1, h2⟩
  rw [HKD.out]
  have HI := Lib.hid (start_nin hla hlr #[.int .u8 3, .slice none 0 0, .slice none 0 0, .slice none 0 0, .bool false, .float .f64 0, .string ⟨#[]⟩] HA.out h1 h2)
  clear h1 h2 HA c1 f1 c0
  go_upto_region 4 with fail
  generalize hW : w1.alloc (.cells #[.int .u8 3, .slice none 0 0, .slice none 0 0, .slice none 0 0, .bool false, .float .f64 0, .string ⟨#[]⟩] 27) = W2 at *
  have c0 := HI.out.b3.cell 0; have c1 := HI.out.ar.blk.cell 0
  simp only [List.getElem?_cons_zero] at c0 c1
  clear hW
  go_wp2_with fail
  refine (rtext_any top gr (after 1 r) (Nat.le_trans (after_len 1 r) hr) W2 HI.out.ar.rd).mono ?_
  rintro e w3 ⟨rfl, h1, h2⟩
  have hi3 := HI.out.step (HI.out.ar.read h1 h2) h2.ar
  have f6 := hi3.b3.frozen 6; have c6 := hi3.b3.cell 6
  simp only [List.getElem?_cons_zero, List.getElem?_cons_succ] at c6
  have HI4 := Lib.hid (hi3.set 6 (vs (textR (after 1 r))))
  clear h1 h2 c0 c1 hi3 HI
  generalize hT : textR (after 1 r) = tx at *
  have HTL : Hid (tx.length ≤ 65536) := by have := textR_len (after 1 r); rw [hT] at this; exact this
  clear hT
  go_upto_region 18 with fail
  generalize hW : w3.setCell ⟨w1.heap.size, 6, none⟩ (vs tx) = W4 at *
  clear hW f6 c6
  have HD := Lib.hid (NIn.done (x := linkHd tx) (ks := []) HI4.out (ok_link tx (by have := HTL.out; unfold maxLen; omega)) (inS_link _ _))
  have d0 := HI4.out.b3.cell 0; have d1 := HI4.out.b3.cell 1; have d2 := HI4.out.b3.cell 2; have d3 := HI4.out.b3.cell 3; have d4 := HI4.out.b3.cell 4; have d5 := HI4.out.b3.cell 5; have d6 := HI4.out.b3.cell 6
  simp only [List.set_cons_zero, List.set_cons_succ, List.getElem?_cons_zero, List.getElem?_cons_succ] at d0 d1 d2 d3 d4 d5 d6
  have k0 := HI4.out.b2.cell 0; have k1 := HI4.out.b2.cell 1; have k2 := HI4.out.b2.cell 2; have k3 := HI4.out.b2.cell 3; have k4 := HI4.out.b2.cell 4; have k5 := HI4.out.b2.cell 5; have k6 := HI4.out.b2.cell 6
  have f0 := HI4.out.b2.frozen 0; have f1 := HI4.out.b2.frozen 1; have f2 := HI4.out.b2.frozen 2; have f3 := HI4.out.b2.frozen 3; have f4 := HI4.out.b2.frozen 4; have f5 := HI4.out.b2.frozen 5; have f6 := HI4.out.b2.frozen 6
  have hl6 := HI4.out.b2.lt; have hlt := HI4.out.lt
  simp only [List.getElem?_cons_zero, List.getElem?_cons_succ] at k0 k1 k2 k3 k4 k5 k6
  clear HI4
  go_wp2_with fail
  change bodyPost _ _ _ _ _ (set7 W4 w.heap.size (vb 3) (.slice none 0 0) (.slice none 0 0) (.slice none 0 0) (.bool false) (.float .f64 0) (vs tx))
  obtain ⟨bk, hok, hin, har, htu⟩ := HD.out
  simp only [linkHd, List.length_nil] at bk hok hin har htu
  clear k0 k1 k2 k3 k4 k5 k6 f0 f1 f2 f3 f4 f5 f6 d0 d1 d2 d3 d4 d5 d6 HD
  generalize set7 W4 w.heap.size (vb 3) (.slice none 0 0) (.slice none 0 0) (.slice none 0 0) (.bool false) (.float .f64 0) (vs tx) = W9 at *
  have e0 := bk.cell 0; have e1 := bk.cell 1; have e2 := bk.cell 2; have e3 := bk.cell 3; have e4 := bk.cell 4; have e5 := bk.cell 5; have e6 := bk.cell 6
  simp only [cellsOf, List.length_nil, List.getElem?_cons_zero, List.getElem?_cons_succ] at e0 e1 e2 e3 e4 e5 e6
  exact bodyPost_ret (v := nv (linkHd tx) ([] : List T).length) (by simp [results, Try.results75, go_sem, e0, e1, e2, e3, e4, e5, e6, linkHd]) rfl (post_some HN.out htu (linkHd tx) [] rfl rfl hok hin har)
set_option maxHeartbeats 4000000 in
set_option maxRecDepth 100000 in
theorem node_other (f top ga gr k : Nat) (r : Rd) (w : World) (hr : r.p.length ≤ 1000000) (hk : k < 64) (hla : ga < w.heap.size) (hlr : gr < w.heap.size) (h : ArIs w top ga gr k r) (h1 : numR 1 r ≠ 1) (h2 : numR 1 r ≠ 2) (h3 : numR 1 r ≠ 3) :
    Calls Try.prog 75 #[.pointer (some ⟨ga, 0, none⟩)] w (NodePost (f + 1) w top ga gr k r) := by
  have HN : Hid (nodeP (f + 1) k r = none) := by
    show _ = _
    rw [nodeP, if_neg (by omega), if_neg h1, if_neg h2, if_neg h3]
  have HA : Hid (ArIs ((w.setCell ⟨ga, 1, none⟩ (.int .i64 ((k : Int) + 1))).alloc (.cells zero7.toArray 27)) top ga gr (k + 1) r) := start_is h _
  have c1 := h.blk.cell 1; have f1 := h.blk.frozen 1; have c0 := h.blk.cell 0
  simp only [List.getElem?_cons_zero, List.getElem?_cons_succ] at c1 c0
  have hk' : decide ((k : Int) + 1 ≤ 64) = true := decide_eq_true (by omega)
  clear h
  go_enter Try.func75, Try.ntmps75
  go_wp2_with fail
  refine (need_yes _).mono ?_
  rintro e w1 ⟨rfl, rfl⟩
  go_wp2_with fail
  refine (byte_any top gr r hr _ HA.out.rd).mono ?_
  rintro e w1 ⟨rfl, hq1, hq2⟩
  have e1 : ((numR 1 r : Int) == 1) = false := by rw [beq_eq_false_iff_ne]; omega
  have e2 : ((numR 1 r : Int) == 2) = false := by rw [beq_eq_false_iff_ne]; omega
  have e3 : ((numR 1 r : Int) == 3) = false := by rw [beq_eq_false_iff_ne]; omega
  have HI := Lib.hid (start_nin hla hlr #[.int .u8 (numR 1 r), .slice none 0 0, .slice none 0 0, .slice none 0 0, .bool false, .float .f64 0, .string ⟨#[]⟩] HA.out hq1 hq2)
  clear hq1 hq2 HA c1 f1 c0
  go_upto_region 4 with fail
  generalize hW : w1.alloc (.cells #[.int .u8 (numR 1 r), .slice none 0 0, .slice none 0 0, .slice none 0 0, .bool false, .float .f64 0, .string ⟨#[]⟩] 27) = W2 at *
  have c0 := HI.out.b3.cell 0
  simp only [List.getElem?_cons_zero] at c0
  clear hW
  go_wp2_with fail
  exact ⟨rfl, post_none HN.out HI.out.turned⟩
set_option maxHeartbeats 4000000 in
set_option maxRecDepth 100000 in
theorem node_file (f top ga gr k : Nat) (r : Rd) (w : World) (hr : r.p.length ≤ 1000000) (hk : k < 64) (hla : ga < w.heap.size) (hlr : gr < w.heap.size) (h : ArIs w top ga gr k r) (hkind : numR 1 r = 2) :
    Calls Try.prog 75 #[.pointer (some ⟨ga, 0, none⟩)] w (NodePost (f + 1) w top ga gr k r) := by
  have HN : Hid (nodeP (f + 1) k r = match filR (after 1 r) with | none => none | some (t, r') => some (t, k + 1, r')) := by
    show _ = _
    rw [nodeP, if_neg (by omega), if_neg (by omega), if_pos hkind]
    cases filR (after 1 r) <;> rfl
  have HA : Hid (ArIs ((w.setCell ⟨ga, 1, none⟩ (.int .i64 ((k : Int) + 1))).alloc (.cells zero7.toArray 27)) top ga gr (k + 1) r) := start_is h _
  have c1 := h.blk.cell 1; have f1 := h.blk.frozen 1; have c0 := h.blk.cell 0
  simp only [List.getElem?_cons_zero, List.getElem?_cons_succ] at c1 c0
  have hk' : decide ((k : Int) + 1 ≤ 64) = true := decide_eq_true (by omega)
  clear h
  have HKD := Lib.hid hkind
  clear hkind
  go_enter Try.func75, Try.ntmps75
  go_wp2_with fail
  refine (need_yes _).mono ?_
  rintro e w1 ⟨rfl, rfl⟩
  go_wp2_with fail
  refine (byte_any top gr r hr _ HA.out.rd).mono ?_
  rintro e w1 ⟨rfl, h1, h2⟩
  rw [HKD.out]
  have HI := Lib.hid (start_nin hla hlr #[.int .u8 2, .slice none 0 0, .slice none 0 0, .slice none 0 0, .bool false, .float .f64 0, .string ⟨#[]⟩] HA.out h1 h2)
  clear h1 h2 HA c1 f1 c0
  have hr1 := Nat.le_trans (after_len 1 r) hr
  generalize after 1 r = r1 at *
  go_upto_region 4 with fail
  generalize hW : w1.alloc (.cells #[.int .u8 2, .slice none 0 0, .slice none 0 0, .slice none 0 0, .bool false, .float .f64 0, .string ⟨#[]⟩] 27) = W2 at *
  have c0 := HI.out.b3.cell 0
  simp only [List.getElem?_cons_zero] at c0
  clear hW
  go_wp2_with fail
  refine (run_any top ga gr (k + 1) r1 hr1 W2 HI.out.ar).mono ?_
  rintro e w3 ⟨he, h1, h2⟩
  have HI3 := Lib.hid (HI.out.step h1 h2)
  clear h1 h2 c0 HI
  by_cases hb : 1 < numR 1 r1
  · rw [if_pos hb] at he
    subst he
    have HN2 : Hid (nodeP (f + 1) k r = none) := by show _ = _; rw [HN.out]; unfold filR; rw [if_pos hb]
    clear HN
    go_wp2_with fail
    exact ⟨rfl, post_none HN2.out HI3.out.turned⟩
  rw [if_neg hb] at he
  subst he
  have c4 := HI3.out.b3.cell 4; have f4 := HI3.out.b3.frozen 4
  simp only [List.getElem?_cons_zero, List.getElem?_cons_succ] at c4
  have HI4 := Lib.hid (HI3.out.set 4 (.bool (decide (numR 1 r1 = 1))))
  have HRB : Hid (filR r1 = if ofOk (numR 8 (after 1 r1)) then some (.mk (fileE (textR (after 8 (after 1 r1))) (decide (numR 1 r1 = 1)) (numR 8 (after 1 r1))) [], textA (after 8 (after 1 r1))) else none) := by show _ = _; unfold filR; rw [if_neg hb]
  clear hb HI3
  generalize decide (numR 1 r1 = 1) = run at *
  have hr2 := Nat.le_trans (after_len 1 r1) hr1
  generalize after 1 r1 = r2 at *
  go_upto_region 14 with fail
  generalize hW : w3.setCell ⟨w1.heap.size, 4, none⟩ (.bool run) = W4 at *
  clear hW c4 f4
  go_wp2_with fail
  refine (stamp_any top ga gr (k + 1) r2 hr2 W4 HI4.out.ar).mono ?_
  rintro e w5 ⟨he, h1, h2⟩
  have HI5 := Lib.hid (HI4.out.step h1 h2)
  clear h1 h2 HI4
  cases ho : ofOk (numR 8 r2) with
  | false =>
    rw [ho, if_neg (by simp)] at he
    subst he
    have HN2 : Hid (nodeP (f + 1) k r = none) := by show _ = _; rw [HN.out, HRB.out, ho]; rfl
    clear HN HRB ho
    go_wp2_with fail
    exact ⟨rfl, post_none HN2.out HI5.out.turned⟩
  | true =>
    rw [ho, if_pos rfl] at he
    subst he
    have HN2 : Hid (nodeP (f + 1) k r = some (.mk (fileE (textR (after 8 r2)) run (numR 8 r2)) [], k + 1, textA (after 8 r2))) := by show _ = _; rw [HN.out, HRB.out, ho]; rfl
    have HSL : Hid (numR 8 r2 < 18446744073709551616) := numR_lt 8 r2
    clear HN HRB ho
    generalize numR 8 r2 = stp at *
    have hr3 := Nat.le_trans (after_len 8 r2) hr2
    generalize after 8 r2 = r3 at *
    have c5 := HI5.out.b3.cell 5; have f5 := HI5.out.b3.frozen 5
    simp only [List.set_cons_zero, List.set_cons_succ, List.getElem?_cons_zero, List.getElem?_cons_succ] at c5
    have HI6 := Lib.hid (HI5.out.set 5 (.float .f64 stp))
    clear HI5
    go_upto_region 15 with fail
    generalize hW : w5.setCell ⟨w1.heap.size, 5, none⟩ (.float .f64 stp) = W6 at *
    clear hW c5 f5
    have c0 := HI6.out.ar.blk.cell 0
    simp only [List.getElem?_cons_zero] at c0
    go_wp2_with fail
    refine (rtext_any top gr r3 hr3 W6 HI6.out.ar.rd).mono ?_
    rintro e w7 ⟨rfl, h1, h2⟩
    have HI7 := Lib.hid (HI6.out.step (HI6.out.ar.read h1 h2) h2.ar)
    clear h1 h2 c0 HI6
    have HTL : Hid ((textR r3).length ≤ 65536) := textR_len r3
    generalize textR r3 = tx at *
    generalize textA r3 = r4 at *
    obtain ⟨W8, cap, hcv, hb8, hs8, hby, hcap⟩ := conv_bytes tx w7
    have HI8 := Lib.hid (HI7.out.below hb8)
    have HBY := Lib.hid hby; have HS8 := Lib.hid hs8
    have hlt1 := HI7.out.b3.lt
    have HL7 : Hid (w.heap.size < w7.heap.size) := by have := HI7.out.lt; show _ < _; omega
    clear hb8 hby hs8 HI7
    have c3 := HI8.out.b3.cell 3; have f3 := HI8.out.b3.frozen 3
    simp only [List.set_cons_zero, List.set_cons_succ, List.getElem?_cons_zero, List.getElem?_cons_succ] at c3
    have HI9 := Lib.hid (HI8.out.set 3 (.slice (some ⟨w7.heap.size, 0, none⟩) tx.length cap))
    have HO9 : Hid (Ok (W8.setCell ⟨w1.heap.size, 3, none⟩ (.slice (some ⟨w7.heap.size, 0, none⟩) tx.length cap)) (W8.setCell ⟨w1.heap.size, 3, none⟩ (.slice (some ⟨w7.heap.size, 0, none⟩) tx.length cap)).heap.size (.mk (fileHd (some ⟨w7.heap.size, 0, none⟩) cap tx run stp) [])) := by
      refine ok_file _ _ _ _ _ (bytes_src (HBY.out.same (Below.heap_setCell W8 ⟨w1.heap.size, 3, none⟩ _ _ (by simp only; omega)))) (fun _ a ha => ?_) (fun h => by cases h) hcap (by have := HTL.out; unfold maxLen; omega) HSL.out
      cases ha
      have := HS8.out
      rw [World.size_setCell]; show w7.heap.size < _; omega
    have HIN9 : Hid (InS (fun c => w.heap.size < c) (.mk (fileHd (some ⟨w7.heap.size, 0, none⟩) cap tx run stp) [])) := inS_file _ _ _ _ _ _ (fun _ a ha => by cases ha; exact HL7.out)
    clear HI8
    go_upto_region 18 with fail
    generalize hW : W8.setCell ⟨w1.heap.size, 3, none⟩ (.slice (some ⟨w7.heap.size, 0, none⟩) tx.length cap) = W9 at *
    clear hW c3 f3 hcv
    have HD := Lib.hid (NIn.done (x := fileHd (some ⟨w7.heap.size, 0, none⟩) cap tx run stp) (ks := []) HI9.out HO9.out HIN9.out)
    have d0 := HI9.out.b3.cell 0; have d1 := HI9.out.b3.cell 1; have d2 := HI9.out.b3.cell 2; have d3 := HI9.out.b3.cell 3; have d4 := HI9.out.b3.cell 4; have d5 := HI9.out.b3.cell 5; have d6 := HI9.out.b3.cell 6
    simp only [List.set_cons_zero, List.set_cons_succ, List.getElem?_cons_zero, List.getElem?_cons_succ] at d0 d1 d2 d3 d4 d5 d6
    have k0 := HI9.out.b2.cell 0; have k1 := HI9.out.b2.cell 1; have k2 := HI9.out.b2.cell 2; have k3 := HI9.out.b2.cell 3; have k4 := HI9.out.b2.cell 4; have k5 := HI9.out.b2.cell 5; have k6 := HI9.out.b2.cell 6
    have f0 := HI9.out.b2.frozen 0; have f1 := HI9.out.b2.frozen 1; have f2 := HI9.out.b2.frozen 2; have f3 := HI9.out.b2.frozen 3; have f4 := HI9.out.b2.frozen 4; have f5 := HI9.out.b2.frozen 5; have f6 := HI9.out.b2.frozen 6
    have hl6 := HI9.out.b2.lt; have hlt := HI9.out.lt
    simp only [List.getElem?_cons_zero, List.getElem?_cons_succ] at k0 k1 k2 k3 k4 k5 k6
    clear HI9
    go_wp2_with fail
    change bodyPost _ _ _ _ _ (set7 W9 w.heap.size (vb 2) (.slice none 0 0) (.slice none 0 0) (.slice (some ⟨w7.heap.size, 0, none⟩) tx.length cap) (.bool run) (.float .f64 stp) (vs []))
    obtain ⟨bk, hok, hin, har, htu⟩ := HD.out
    simp only [fileHd, List.length_nil] at bk hok hin har htu
    clear k0 k1 k2 k3 k4 k5 k6 f0 f1 f2 f3 f4 f5 f6 d0 d1 d2 d3 d4 d5 d6 HD
    generalize set7 W9 w.heap.size (vb 2) (.slice none 0 0) (.slice none 0 0) (.slice (some ⟨w7.heap.size, 0, none⟩) tx.length cap) (.bool run) (.float .f64 stp) (vs []) = W10 at *
    have e0 := bk.cell 0; have e1 := bk.cell 1; have e2 := bk.cell 2; have e3 := bk.cell 3; have e4 := bk.cell 4; have e5 := bk.cell 5; have e6 := bk.cell 6
    simp only [cellsOf, List.length_nil, List.getElem?_cons_zero, List.getElem?_cons_succ] at e0 e1 e2 e3 e4 e5 e6
    exact bodyPost_ret (v := nv (fileHd (some ⟨w7.heap.size, 0, none⟩) cap tx run stp) ([] : List T).length) (by simp [results, Try.results75, go_sem, e0, e1, e2, e3, e4, e5, e6, fileHd]) rfl (post_some HN2.out htu (fileHd (some ⟨w7.heap.size, 0, none⟩) cap tx run stp) [] rfl rfl hok hin har)
end Go.Proofs.Ytlehgacbcacokaa

/- The contract of archive.node: directories, and all. -/
namespace Go.Proofs.Ytlehgacbcacokaa
open Go.RowKit TreeMath RealMath WireMath PackMath

theorem loopP_step {node : Nat → Rd → Option (T × Nat × Rd)} {n i : Nat} (hi : i < n) (ns : List (List By)) (ks : List T) (k : Nat) (r : Rd) :
    loopP node (n - i) ns ks k r = match node k (textA r) with | none => none | some (t, k', r') => loopP node (n - (i + 1)) (ns ++ [textR r]) (ks ++ [t]) k' r' := by
  rw [show n - i = (n - (i + 1)) + 1 by omega, loopP]
  cases node k (textA r) <;> rfl
/-- what the loop has come to -/
structure DirAt (w : World) (top ga gr g3 f cnt : Nat) (ALL : Option (List (List By) × List T × Nat × Rd)) (i : Nat) (W : World) : Prop where
  ex : ∃ ns ks vn vk k r, DirRel w top ga gr g3 k r ns ks vn vk W ∧ ns.length = i ∧ ks.length = i ∧ k ≤ 64 ∧ 64 ≤ k + f ∧ r.p.length ≤ 1000000 ∧ loopP (nodeP f) (cnt - i) ns (eraseL ks) k r = ALL
theorem nodeP_len {f k : Nat} {r : Rd} : ∀ {t k' r'}, nodeP f k r = some (t, k', r') → r'.p.length ≤ r.p.length := by
  have hl : ∀ n (r : Rd), (after n r).p.length ≤ r.p.length := after_len
  have ht : ∀ (r : Rd), (textA r).p.length ≤ r.p.length := fun r => Nat.le_trans (hl _ _) (hl _ _)
  induction f generalizing k r with
  | zero => intro t k' r' h; cases h
  | succ f ih =>
    have loop : ∀ (n : Nat) (ns : List (List By)) (ks : List T) (k : Nat) (r : Rd) (o : List (List By) × List T × Nat × Rd), loopP (nodeP f) n ns ks k r = some o → o.2.2.2.p.length ≤ r.p.length := by
      intro n
      induction n with
      | zero => intro ns ks k r o h; simp only [loopP, Option.some.injEq] at h; subst h; exact Nat.le_refl _
      | succ n ih2 =>
        intro ns ks k r o h
        rw [loopP] at h
        split at h
        · cases h
        · rename_i t k' r' e
          exact Nat.le_trans (ih2 _ _ _ _ o h) (Nat.le_trans (ih e) (ht r))
    intro t k' r' h
    rw [nodeP] at h
    split at h
    · cases h
    split at h
    · split at h
      · cases h
      · rename_i ns ks k2 r2 e
        simp only [Option.some.injEq, Prod.mk.injEq] at h
        obtain ⟨-, -, rfl⟩ := h
        exact Nat.le_trans (loop _ _ _ _ _ _ e) (Nat.le_trans (hl _ _) (hl _ _))
    split at h
    · split at h
      · cases h
      · rename_i t2 r2 e
        simp only [Option.some.injEq, Prod.mk.injEq] at h
        obtain ⟨-, -, rfl⟩ := h
        unfold filR at e
        split at e
        · cases e
        split at e
        · simp only [Option.some.injEq, Prod.mk.injEq] at e
          rw [← e.2]
          exact Nat.le_trans (ht _) (Nat.le_trans (hl _ _) (Nat.le_trans (hl _ _) (hl _ _)))
        · cases e
    split at h
    · simp only [Option.some.injEq, Prod.mk.injEq] at h
      rw [← h.2.2]
      exact Nat.le_trans (ht _) (hl _ _)
    · cases h
set_option maxHeartbeats 8000000 in
set_option maxRecDepth 100000 in
theorem node_dir (f top ga gr k : Nat) (r : Rd) (w : World) (IH : NodeOf f) (hr : r.p.length ≤ 1000000) (hk : k < 64) (hf : 64 ≤ k + (f + 1)) (hla : ga < w.heap.size) (hlr : gr < w.heap.size) (h : ArIs w top ga gr k r) (hkind : numR 1 r = 1) :
    Calls Try.prog 75 #[.pointer (some ⟨ga, 0, none⟩)] w (NodePost (f + 1) w top ga gr k r) := by
  have HN : Hid (nodeP (f + 1) k r = match loopP (nodeP f) (numR 1 (after 1 r)) [] [] (k + 1) (after 1 (after 1 r)) with | none => none | some (ns, ks, k', r') => some (.mk (dirE ns) ks, k', r')) := by
    show _ = _
    rw [nodeP, if_neg (by omega), if_pos hkind]
    cases loopP (nodeP f) (numR 1 (after 1 r)) [] [] (k + 1) (after 1 (after 1 r)) <;> rfl
  have HA : Hid (ArIs ((w.setCell ⟨ga, 1, none⟩ (.int .i64 ((k : Int) + 1))).alloc (.cells zero7.toArray 27)) top ga gr (k + 1) r) := start_is h _
  have c1 := h.blk.cell 1; have f1 := h.blk.frozen 1; have c0 := h.blk.cell 0
  simp only [List.getElem?_cons_zero, List.getElem?_cons_succ] at c1 c0
  have hk' : decide ((k : Int) + 1 ≤ 64) = true := decide_eq_true (by omega)
  clear h
  have HKD := Lib.hid hkind; have HIH := Lib.hid IH
  clear hkind IH
  go_enter Try.func75, Try.ntmps75
  go_wp2_with fail
  refine (need_yes _).mono ?_
  rintro e w1 ⟨rfl, rfl⟩
  go_wp2_with fail
  refine (byte_any top gr r hr _ HA.out.rd).mono ?_
  rintro e w1 ⟨rfl, h1, h2⟩
  rw [HKD.out]
  have HI := Lib.hid (start_nin hla hlr #[.int .u8 1, .slice none 0 0, .slice none 0 0, .slice none 0 0, .bool false, .float .f64 0, .string ⟨#[]⟩] HA.out h1 h2)
  clear h1 h2 HA c1 f1 c0
  have hr1 := Nat.le_trans (after_len 1 r) hr
  generalize after 1 r = r1 at *
  go_upto_region 4 with fail
  generalize hW : w1.alloc (.cells #[.int .u8 1, .slice none 0 0, .slice none 0 0, .slice none 0 0, .bool false, .float .f64 0, .string ⟨#[]⟩] 27) = W2 at *
  have c0 := HI.out.b3.cell 0; have c1 := HI.out.ar.blk.cell 0
  simp only [List.getElem?_cons_zero] at c0 c1
  clear hW
  go_wp2_with fail
  refine (byte_any top gr r1 hr1 W2 HI.out.ar.rd).mono ?_
  rintro e w3 ⟨rfl, h1, h2⟩
  have HI3 := Lib.hid (HI.out.step (HI.out.ar.read h1 h2) h2.ar)
  clear h1 h2 c0 c1 HI
  have hcnt : numR 1 r1 < 256 := numR_lt 1 r1
  have hr2 := Nat.le_trans (after_len 1 r1) hr1
  generalize after 1 r1 = r2 at *
  generalize numR 1 r1 = cnt at *
  have HST : Hid (DirAt w top ga gr w1.heap.size f cnt (loopP (nodeP f) cnt [] [] (k + 1) r2) 0 w3) := ⟨[], [], .slice none 0 0, .slice none 0 0, k + 1, r2, ⟨HI3.out, strs_nil _ _, nodes_nil _ _, (fun t ht => by cases ht), (fun t ht => by cases ht)⟩, rfl, rfl, by omega, by omega, hr2, rfl⟩
  clear HI3
  generalize hALL : loopP (nodeP f) cnt [] [] (k + 1) r2 = ALL at *
  clear hALL
  go_wp2_with fail
  go_loopw [33] (fun vi wr => ∃ i : Nat, i ≤ cnt ∧ vi = .int .u8 i ∧ Hid (DirAt w top ga gr w1.heap.size f cnt ALL i wr)) (fun vi _ => cnt - (intOf vi).toNat)
  case atStart => exact ⟨0, Nat.zero_le _, rfl, HST.out⟩
  case round =>
    obtain ⟨i, hi, rfl, HP⟩ := hrel
    rename World => W0
    clear HST
    obtain ⟨ns, ks, vn, vk, k1, r3, hd, hn1, hn2, hk1, hkf, hr3, hloop⟩ := HP.out.ex
    have HD := Lib.hid hd; have HN1 := Lib.hid hn1; have HN2 := Lib.hid hn2; have HLP := Lib.hid hloop
    clear hd hn1 hn2 hloop HP
    by_cases hlt : i < cnt
    · have hlt' : decide ((i : Int) < (cnt : Int)) = true := decide_eq_true (by omega)
      have HLS := Lib.hid ((loopP_step hlt ns (eraseL ks) k1 r3).symm.trans HLP.out)
      clear HLP
      have hle : i ≤ 255 := by omega
      have HD0 : Hid (DirRel w top ga gr w1.heap.size k1 r3 ns ks vn vk W0.drew) := HD.out.grown (Below.refl _ _).drew
      have HT : Hid (Calls Try.prog 74 #[.pointer (some ⟨gr, 0, none⟩)] W0.drew fun e w' => e = .returned (vs (textR r3)) ∧ RdIs w' 111 top gr (textA r3) ∧ OnlyAt gr W0.drew w') := rtext_any top gr r3 hr3 W0.drew HD0.out.nin.ar.rd
      have HTL : Hid ((textR r3).length ≤ 65536) := textR_len r3
      have hr4 : (textA r3).p.length ≤ 1000000 := Nat.le_trans (Nat.le_trans (after_len _ _) (after_len _ _)) hr3
      generalize textR r3 = tx at *
      generalize textA r3 = r4 at *
      have HCL : Hid (∀ {W : World} {r' : Rd}, DirRel w top ga gr w1.heap.size k1 r' ns ks vn vk W → W.cell? ⟨w1.heap.size, 1, none⟩ = some vn ∧ W.cell? ⟨ga, 0, none⟩ = some (.pointer (some ⟨gr, 0, none⟩))) := fun h => ⟨h.nin.b3.cell 1, h.nin.ar.blk.cell 0⟩
      have k0 := HCL.out HD0.out
      have hnl : ns.length + 1 ≤ 1000000 := by have := HN1.out; omega
      clear HD
      go_upto_region 9 with fail
      obtain ⟨k0a, k0b⟩ := k0
      go_cut [35] from 34 to 52 (fun _ wx => Hid (∃ v, DirRel w top ga gr w1.heap.size k1 r4 (ns ++ [tx]) ks v vk wx))
      case first =>
       go_region_law (
        (first
          | (go_simp
             go_at_call 74
             refine HT.out.mono ?_
             rintro e w4 ⟨rfl, h1, h2⟩
             have HD4 := Lib.hid (HD0.out.read (HD0.out.nin.ar.read h1 h2) h2.ar)
             have HDA : Hid (DirRel w top ga gr w1.heap.size k1 r4 ns ks vn vk (w4.alloc (.cells #[vs tx] 9))) := HD4.out.grown ((Below.refl _ _).alloc (Nat.le_refl _) _)
             obtain ⟨k1a, k1b⟩ := HCL.out HD4.out
             obtain ⟨k2a, k2b⟩ := HCL.out HDA.out
             have HCA : Hid (∀ j u, ([tx].map vs)[j]? = some u → (w4.alloc (.cells #[vs tx] 9)).cell? ((⟨w4.heap.size, 0, none⟩ : Addr).add j) = some u) := fun j u hj => by
               rw [Addr.add_mid, Nat.zero_add, (Blk.new w4 9 #[vs tx]).cell]; exact hj
             have hsz : w1.heap.size + 1 ≤ (w4.alloc (.cells #[vs tx] 9)).heap.size := HDA.out.nin.b3.lt
             clear h1 h2)
          | (refine step_strs2 (by rfl) (.tmp 36) (.tmp 42) (by rfl) (w1.heap.size + 1) vn ns (by rfl) HDA.out.names ⟨w4.heap.size, 0, none⟩ 1 1 [tx] rfl (by rfl) HCA.out hnl hsz ?_
             intro v5 w5 h5 g5 q5
             obtain ⟨A5, q5c, rfl, -, -, -, -⟩ := h5.src
             have HD5 := Lib.hid (DirRel.pushN HDA.out h5 g5 q5 HTL.out)
             have hn5 := HDA.out.nin.grow g5 (fun c hc => (HDA.out.names.lt c hc).1)
             have k3a : w5.cell? ⟨w1.heap.size, 1, none⟩ = some vn := hn5.b3.cell 1
             have f3' := hn5.b3.frozen 1
             have hl5 := hn5.b3.lt
             clear h5 g5 q5 hn5)
          | fail))
       all_goals (go_wp2_with fail; go_meet; have h8 := HD5.out; rw [List.length_append, List.length_singleton] at h8; exact ⟨_, h8⟩)
      case rest =>
       obtain ⟨v5, hd5⟩ := hcut.out
       have HD5 := Lib.hid hd5
       clear hd5 hcut HT HD0 HCL k0a k0b
       rename World => W5
       have HD6 : Hid (DirRel w top ga gr w1.heap.size k1 r4 (ns ++ [tx]) ks v5 vk W5.drew) := HD5.out.grown (Below.refl _ _).drew
       have HCL : Hid (∀ {W : World} {k' : Nat} {r' : Rd}, DirRel w top ga gr w1.heap.size k' r' (ns ++ [tx]) ks v5 vk W → W.cell? ⟨w1.heap.size, 2, none⟩ = some vk) := fun h => h.nin.b3.cell 2
       have k0a := HCL.out HD6.out
       have hkl : ks.length + 1 ≤ 1000000 := by have := HN2.out; omega
       have HC : Hid (Calls Try.prog 75 #[.pointer (some ⟨ga, 0, none⟩)] W5.drew (NodePost f W5.drew top ga gr k1 r4)) := HIH.out top ga gr k1 r4 W5.drew hr4 hk1 hkf HD6.out.nin.ar.blk.lt (by obtain ⟨A, c, hg, -⟩ := HD6.out.nin.ar.rd.ex; exact hg.lt) HD6.out.nin.ar
       cases hnp : nodeP f k1 r4 with
       | none =>
         have HCN : Hid (Calls Try.prog 75 #[.pointer (some ⟨ga, 0, none⟩)] W5.drew fun e w' => e = gave ∧ Turned (ArSet ga gr) (ArSet ga gr) W5.drew w') := HC.out.mono fun e w' h => by
           have h2 := h.2
           rw [hnp] at h2
           exact ⟨h2, h.1⟩
         have HNN : Hid (nodeP (f + 1) k r = none) := by
           have h1 := HLS.out
           rw [hnp] at h1
           show _ = _
           rw [HN.out, ← h1]
         have HTU := Lib.hid HD6.out.nin.turned
         clear hnp HC HLS HN
         go_upto_region 10 with fail
         refine wp_region_any (by kernel_rfl) ?_
         change wpAny _ _ _ _ _ _ _ (World.drew _)
         refine wpAny_take (i := 0) (v := ?_) rfl (by kernel_rfl) (by kernel_rfl) (by kernel_rfl) (fun _ _ _ h => h) (Or.inl ⟨by rfl, ?_⟩) ?_
         rotate_left
         · intro w
           go_simp
           with_reducible rfl
         refine wpAny_take (i := 2) (v := ?_) rfl (by kernel_rfl) (by kernel_rfl) (by kernel_rfl) (fun _ _ _ h => h) (Or.inl ⟨by rfl, ?_⟩) ?_
         rotate_left
         · intro w
           go_simp
           with_reducible rfl
         refine wpAny_ready (rs := [1, 3]) (by kernel_rfl) (by simp) ?_
         refine AllReady.cons rfl (fun K hK => ?_) ?_
         · go_simp
           refine hK _ _ ?_
           refine wpAny_ready (rs := [3]) (by kernel_rfl) (by simp) ?_
           refine AllReady.cons rfl (fun K hK => ?_) AllReady.nil
           go_simp
           go_at_call 75
           refine HCN.out.mono ?_
           rintro e w6 ⟨rfl, h6⟩
           go_wp2_with fail
           exact ⟨rfl, post_none HNN.out (HTU.out.trans h6)⟩
         · refine AllReady.cons rfl (fun K hK => ?_) AllReady.nil
           go_simp
           go_at_call 75
           refine HCN.out.mono ?_
           rintro e w6 ⟨rfl, h6⟩
           go_wp2_with fail
           exact ⟨rfl, post_none HNN.out (HTU.out.trans h6)⟩
       | some o =>
         obtain ⟨t, k2, r5⟩ := o
         have HCN : Hid (Calls Try.prog 75 #[.pointer (some ⟨ga, 0, none⟩)] W5.drew fun e w' => ∃ z lz, e = .returned (nv z lz.length) ∧ erase (.mk z lz) = t ∧ Ok w' w'.heap.size (.mk z lz) ∧ InS (fun c => W5.drew.heap.size ≤ c) (.mk z lz) ∧ ArIs w' top ga gr k2 r5 ∧ Turned (ArSet ga gr) (ArSet ga gr) W5.drew w') := HC.out.mono fun e w' h => by
           obtain ⟨h1, h2⟩ := h
           rw [hnp] at h2
           obtain ⟨z, lz, a1, a2, a3, a4, a5⟩ := h2
           exact ⟨z, lz, a1, a2, a3, a4, a5, h1⟩
         have HLS2 : Hid (loopP (nodeP f) (cnt - (i + 1)) (ns ++ [tx]) (eraseL ks ++ [t]) k2 r5 = ALL) := by
           have h1 := HLS.out
           rw [hnp] at h1
           exact h1
         have HK2 := Lib.hid (nodeP_count f k1 r4 _ hnp)
         have HR5 := Lib.hid (nodeP_len hnp)
         clear hnp HC HLS
         go_upto_region 10 with fail
         go_region_law (
          (first
            | (go_simp
               go_at_call 75
               refine HCN.out.mono ?_
               rintro e w6 ⟨z, lz, rfl, h1, h2, h3, h4, h5⟩
               have HD7 := Lib.hid (HD6.out.read h4 h5)
               have HB6 : Hid (Below w6.heap.size w6 (w6.alloc (.cells #[vb z.kind, .slice z.na z.names.length z.nc, .slice z.ka lz.length z.kc, .slice z.da z.data.length z.dc, .bool z.run, .float .f64 z.stamp, vs z.target] 27))) := (Below.refl _ _).alloc (Nat.le_refl _) _
               have HDA := Lib.hid (HD7.out.grown HB6.out)
               have k1a := HCL.out HD7.out
               have k2a := HCL.out HDA.out
               have HCA : Hid (∀ j u, ([T.mk z lz].flatMap cellsT)[j]? = some u → (w6.alloc (.cells #[vb z.kind, .slice z.na z.names.length z.nc, .slice z.ka lz.length z.kc, .slice z.da z.data.length z.dc, .bool z.run, .float .f64 z.stamp, vs z.target] 27)).cell? ((⟨w6.heap.size, 0, none⟩ : Addr).add j) = some u) := fun j u hj => by
                 rw [Addr.add_mid, Nat.zero_add, (Blk.new w6 27 #[vb z.kind, .slice z.na z.names.length z.nc, .slice z.ka lz.length z.kc, .slice z.da z.data.length z.dc, .bool z.run, .float .f64 z.stamp, vs z.target]).cell]; exact hj
               have hsz : w1.heap.size + 1 ≤ (w6.alloc (.cells #[vb z.kind, .slice z.na z.names.length z.nc, .slice z.ka lz.length z.kc, .slice z.da z.data.length z.dc, .bool z.run, .float .f64 z.stamp, vs z.target] 27)).heap.size := HDA.out.nin.b3.lt
               have HE := Lib.hid h1; have HO := Lib.hid ((h2.keep HB6.out).up HB6.out.size)
               have HIN : Hid (InS (fun c => w1.heap.size < c ∧ v5.ownBlock ≠ some c ∧ vk.ownBlock ≠ some c) (.mk z lz)) := h3.mono fun c hc => ⟨by have := HD6.out.nin.b3.lt; omega, fun e => by have := (HD6.out.names.lt c e).2; omega, fun e => by have := (HD6.out.kids.lt c e).2; omega⟩
               clear h1 h2 h3 h4 h5)
            | (refine step_nodes2 (by rfl) (.tmp 46) (.tmp 49) (by rfl) (w1.heap.size + 1) vk ks (by rfl) HDA.out.kids ⟨w6.heap.size, 0, none⟩ 1 1 [T.mk z lz] rfl (by rfl) HCA.out hkl hsz ?_
               intro v7 w7 h5 g5 q5
               obtain ⟨A7, q7c, rfl, -, -, -, -⟩ := h5.src
               have HD8 := Lib.hid (DirRel.pushK HDA.out HO.out HIN.out h5 g5 q5)
               have hn5 := HDA.out.nin.grow g5 (fun c hc => (HDA.out.kids.lt c hc).1)
               have k3a : w7.cell? ⟨w1.heap.size, 2, none⟩ = some vk := hn5.b3.cell 2
               have f3' := hn5.b3.frozen 2
               have hl5 := hn5.b3.lt
               clear h5 g5 q5 hn5)
            | fail))
         all_goals
          clear k1a k2a k3a f3'
          have hi1 : (i : Int) + 1 ≤ 255 := by omega
          go_wp2_with fail
          go_roundw
          case rel =>
            refine ⟨i + 1, by omega, by go_num, ?_⟩
            have h8 := HD8.out
            rw [List.length_append, List.length_singleton] at h8
            exact ⟨ns ++ [tx], ks ++ [T.mk z lz], v5, _, k2, r5, h8, by have := HN1.out; simp; omega, by have := HN2.out; simp; omega, HK2.out.2, by have := HK2.out.1; simp only at this; omega, Nat.le_trans HR5.out hr4, by rw [eraseL_append, eraseL, eraseL, HE.out]; exact HLS2.out⟩
          case measure => simp [intOf]; omega
    · obtain rfl : i = cnt := by omega
      have hlt' : decide ((i : Int) < (i : Int)) = false := decide_eq_false (by omega)
      have HNN : Hid (nodeP (f + 1) k r = some (.mk (dirE ns) (eraseL ks), k1, r3)) := by
        have h1 := HLP.out
        rw [Nat.sub_self, loopP] at h1
        show _ = _
        rw [HN.out, ← h1]
      clear HN HLP HIH
      obtain ⟨An, cn, hvn, hns, hnn, hnc, hnb⟩ := HD.out.names.src
      obtain ⟨Ak, ck, hvk, hks, hkn, hkc, hkb⟩ := HD.out.kids.src
      subst hvn hvk
      have hg3 := HD.out.nin.lt
      have HO9 : Hid (Ok W0 W0.heap.size (.mk (dirHd An cn ns Ak ck) ks)) := by
        refine ok_dir _ _ _ _ _ _ hns (fun _ a ha => (hnb a ha).2) hnn hnc (by have := HN1.out; unfold maxLen; omega) (fun s hs => by have := HD.out.each s hs; unfold maxLen; omega) hkn (by have := HN2.out; unfold maxLen; omega) hkc hks (fun t ht => (HD.out.oks t ht).1)
      have HIN9 : Hid (InS (fun c => w.heap.size < c) (.mk (dirHd An cn ns Ak ck) ks)) := inS_dir _ _ _ _ _ _ _ (fun _ a ha => by have := (hnb a ha).1; omega) (fun _ a ha => by have := (hkb a ha).1; omega) (fun t ht => (HD.out.oks t ht).2.mono fun c hc => by have := hc.1; omega)
      have HI9 := Lib.hid HD.out.nin
      clear hns hnn hnc hnb hks hkn hkc hkb HD
      have HD := Lib.hid (NIn.done (x := dirHd An cn ns Ak ck) (ks := ks) HI9.out HO9.out HIN9.out)
      have d0 := HI9.out.b3.cell 0; have d1 := HI9.out.b3.cell 1; have d2 := HI9.out.b3.cell 2; have d3 := HI9.out.b3.cell 3; have d4 := HI9.out.b3.cell 4; have d5 := HI9.out.b3.cell 5; have d6 := HI9.out.b3.cell 6
      simp only [List.getElem?_cons_zero, List.getElem?_cons_succ] at d0 d1 d2 d3 d4 d5 d6
      have k0 := HI9.out.b2.cell 0; have k1' := HI9.out.b2.cell 1; have k2 := HI9.out.b2.cell 2; have k3 := HI9.out.b2.cell 3; have k4 := HI9.out.b2.cell 4; have k5 := HI9.out.b2.cell 5; have k6 := HI9.out.b2.cell 6
      have f0 := HI9.out.b2.frozen 0; have f1 := HI9.out.b2.frozen 1; have f2 := HI9.out.b2.frozen 2; have f3 := HI9.out.b2.frozen 3; have f4 := HI9.out.b2.frozen 4; have f5 := HI9.out.b2.frozen 5; have f6 := HI9.out.b2.frozen 6
      have hl6 := HI9.out.b2.lt
      simp only [List.getElem?_cons_zero, List.getElem?_cons_succ] at k0 k1' k2 k3 k4 k5 k6
      clear HI9
      go_wp2_with fail
      change bodyPost _ _ _ _ _ (set7 W0 w.heap.size (vb 1) (.slice An ns.length cn) (.slice Ak ks.length ck) (.slice none 0 0) (.bool false) (.float .f64 0) (vs []))
      obtain ⟨bk, hok, hin, har, htu⟩ := HD.out
      simp only [dirHd] at bk hok hin har htu
      clear k0 k1' k2 k3 k4 k5 k6 f0 f1 f2 f3 f4 f5 f6 d0 d1 d2 d3 d4 d5 d6 HD
      change Blk (set7 W0 w.heap.size (vb 1) (.slice An ns.length cn) (.slice Ak ks.length ck) (.slice none 0 0) (.bool false) (.float .f64 0) (vs [])) _ _ _ at bk
      generalize set7 W0 w.heap.size (vb 1) (.slice An ns.length cn) (.slice Ak ks.length ck) (.slice none 0 0) (.bool false) (.float .f64 0) (vs []) = W10 at *
      have e0 := bk.cell 0; have e1 := bk.cell 1; have e2 := bk.cell 2; have e3 := bk.cell 3; have e4 := bk.cell 4; have e5 := bk.cell 5; have e6 := bk.cell 6
      simp only [cellsOf, List.getElem?_cons_zero, List.getElem?_cons_succ] at e0 e1 e2 e3 e4 e5 e6
      exact bodyPost_ret (v := nv (dirHd An cn ns Ak ck) ks.length) (by simp [results, Try.results75, go_sem, e0, e1, e2, e3, e4, e5, e6, dirHd]) rfl (post_some HNN.out htu (dirHd An cn ns Ak ck) ks rfl rfl hok hin har)
theorem node_of : ∀ f, NodeOf f := by
  intro f
  induction f with
  | zero => intro top ga gr k r w hr hk hf hla hlr h; exact node_many 0 top ga gr k r w hk (by omega) h
  | succ f IH =>
    intro top ga gr k r w hr hk hf hla hlr h
    by_cases h0 : 64 ≤ k
    · exact node_many (f + 1) top ga gr k r w hk h0 h
    · by_cases h1 : numR 1 r = 1
      · exact node_dir f top ga gr k r w IH hr (by omega) hf hla hlr h h1
      · by_cases h2 : numR 1 r = 2
        · exact node_file f top ga gr k r w hr (by omega) hla hlr h h2
        · by_cases h3 : numR 1 r = 3
          · exact node_link f top ga gr k r w hr (by omega) hla hlr h h3
          · exact node_other f top ga gr k r w hr (by omega) hla hlr h h1 h2 h3
end Go.Proofs.Ytlehgacbcacokaa
