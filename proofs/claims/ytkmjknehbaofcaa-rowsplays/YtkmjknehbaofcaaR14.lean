/- The contract of Undo at a negative mark. -/
import Derived.Test.YtkmjknehbaofcaaR7
namespace Go.Proofs.Ytkmjknehbaofcaa
open Go.RowKit Go.Shelf Go.Maps Go.WideShapes Go.MapKept Go.WideMaps Go.ChangeMaps BaseMath WireMath NameMath
attribute [local go_sem] Oper.semAt_some

set_option maxHeartbeats 4000000 in
set_option maxRecDepth 100000 in
theorem undo_neg {base : Nat} {w : World} {tb mb g cap : Nat} {D : DU} {J : List Fo} {n : Nat} (h : TabAt base w tb mb (.slice (some ⟨g, 0, none⟩) J.length cap) D J n) (m : Int) (hm : m < 0) (hkl : 0 < J.length) (hJ : J.length ≤ 1000) (hn : n ≤ 500000) :
    Calls Try.prog 16 #[.pointer (some ⟨tb, 0, none⟩), .int .i64 m] w fun e w' => e = .returned (.tuple #[]) ∧ Tab base w' tb (undoD D J) [] (n + 1000) ∧ Step base w w' := by
  have hbw := h.base_le
  have T1 := h.alloc (.cells #[.pointer (some ⟨tb, 0, none⟩)] 24)
  have HM := Lib.hid (mark_any ⟨mb, _, T1⟩)
  have c1 : (w.alloc (.cells #[.pointer (some ⟨tb, 0, none⟩)] 24)).cell? ⟨tb, 1, none⟩ = some (.slice (some ⟨g, 0, none⟩) J.length cap) := T1.blk.cell 1
  have hcap : J.length ≤ cap := by
    rcases h.row.2 with ⟨hv, -⟩ | ⟨g', cap', cur, hv, -, -, hnc, -⟩
    · cases hv
    · cases hv; exact hnc
  have hcap' : ¬ cap = 0 := by omega
  have hne0 : J ≠ [] := by rintro rfl; simp at hkl
  have hx2 : decide (J = []) = false := decide_eq_false hne0
  have hx3 : decide (J.length ≤ 0) = false := decide_eq_false (by omega)
  have H := Lib.hid h
  refine (callsIn_wide (n := 6)).1 ?_
  refine callsIn_of_wp_marks Try.func16 rfl trivial ?_ rfl
  simp only [Try.ntmps16, List.size_toArray, List.length_cons, List.length_nil, Nat.reduceAdd, Nat.reduceSub, Array.replicate_succ, Array.replicate_zero, List.push_toArray, List.append_toArray, List.nil_append, List.cons_append]
  rw [wpIn_wide]
  clear h T1
  go_wp2_with fail
  refine HM.out.mono ?_
  rintro e w1 ⟨rfl, rfl⟩
  go_wp2_with fail
  refine callsIn_wide.1 (back_in Fence.wide 5 trivial rfl _ _ _ _) |>.mono ?_
  rintro e w1 ⟨rfl, rfl⟩
  go_wp2_with fail
  have hT2 := (H.out.alloc (.cells #[.pointer (some ⟨tb, 0, none⟩)] 24)).alloc (.cells #[.slice (some ⟨g, 0, none⟩) (J.length) (cap)] 63)
  have hB2 := (Blk.new w 24 #[.pointer (some ⟨tb, 0, none⟩)]).alloc (.cells #[.slice (some ⟨g, 0, none⟩) (J.length) (cap)] 63)
  have hS2 := (Blk.new (w.alloc (.cells #[.pointer (some ⟨tb, 0, none⟩)] 24)) 63 #[.slice (some ⟨g, 0, none⟩) (J.length) (cap)]).cell 0
  have hZ2 : ((w.alloc (.cells #[.pointer (some ⟨tb, 0, none⟩)] 24)).alloc (.cells #[.slice (some ⟨g, 0, none⟩) (J.length) (cap)] 63)).heap.size = w.heap.size + 2 := by simp
  have hBe : Step base w ((w.alloc (.cells #[.pointer (some ⟨tb, 0, none⟩)] 24)).alloc (.cells #[.slice (some ⟨g, 0, none⟩) (J.length) (cap)] 63)) := Step.of_below (((Below.refl _ w).alloc (Nat.le_refl _) _).alloc (by simp) _) hbw
  rw [World.size_alloc] at hS2
  generalize (w.alloc (.cells #[.pointer (some ⟨tb, 0, none⟩)] 24)).alloc (.cells #[.slice (some ⟨g, 0, none⟩) (J.length) (cap)] 63) = W2 at *
  have hgm : g ≠ mb := fun e => own_ne_map hT2.map hT2.row (by rw [e]; rfl)
  have hF2 := row_fos hT2.row W2.heap.size mb 0 (Nat.le_refl _) hgm
  have hlt1 : tb < W2.heap.size := hT2.blk.lt
  have hlt2 : mb < W2.heap.size := hT2.map.lt
  have hlt3 : g < W2.heap.size := hF2.1
  have hlen : J.length = J.length := rfl
  have hmbw : mb < w.heap.size := H.out.map.lt
  refine (wpIn_wide (n := 6)).1 ?_
  refine wpIn_rangeFunc_ownH (F := Fence.wide) (n := 6) rfl (by omega) (gf := 47) (lb := #[.pointer (some ⟨w.heap.size + 1, 0, none⟩)]) rfl trivial (enters_of Try.func47 (by kernel_rfl) rfl)
    (back_stops Fence.wide 5 trivial rfl (by omega) (w.heap.size + 1) W2.heap.size mb g 0 cap J (by omega) W2 (by omega) (by omega) (Nat.le_refl _) (by rw [hlen]; exact hS2) hF2)
    (fun h k => h.trans k) (fun W l o o' hl hW ho hw => ⟨by simp, fun c h1 h2 => World.putObj_heap_other (by omega)⟩) (Below.refl _ _) (fun _ => rfl)
    (fun pre W => TabAt base W tb mb (.slice (some ⟨g, 0, none⟩) J.length cap) (restAll D pre) J (n + pre.length) ∧ Step base W2 W)
    (fun _ _ _ => False)
    (fun s A B row hs hg hr => ⟨hs.1.kept hg (fun e => by have := (hr _ e).1; omega) (fun e => by have := (hr _ e).1; omega) (fun r hr2 e => by have h5 := (hr _ e).1; have h6 : g = r := (by simpa [Value.ownBlock] using hr2); omega), hs.2.grown_new (by omega) hg (fun r e => (hr r e).1)⟩)
    (fun _ _ _ _ _ hs _ _ => hs)
    ⟨hT2, Step.refl _ _⟩
    (fun x a' W => ∃ Bx, W2.heap.size ≤ Bx ∧ Blk W Bx 76 x.2.vals ∧ a' = { tmps := #[.pointer (some ⟨tb, 0, none⟩), .int .i64 0, .pointer (some ⟨w.heap.size, 0, none⟩), undef, undef, .pointer (some ⟨Bx, 0, none⟩), .int .i64 m, .int .i64 0, .int .i64 0, .pointer (some ⟨tb, 0, none⟩), .int .i64 J.length, .bool false, .pointer (some ⟨tb, 0, none⟩), .pointer (some ⟨tb, 0, none⟩), .pointer (some ⟨tb, 1, none⟩), .slice (some ⟨g, 0, none⟩) J.length cap, .int .i64 0, .slice (some ⟨g, 0, none⟩) (J.length) (cap), .func (.func 47) #[] #[.pointer (some ⟨w.heap.size + 1, 0, none⟩)], .int .i64 (x.1 : Int), x.2.val, undef, undef, undef, undef, undef, undef, undef, undef, undef, undef, undef, undef, undef, undef, undef, undef, undef], defers := [] })
    (fun x a' _ A B row hs hg hr => by
      obtain ⟨Bx, h1, h2, h3⟩ := hs
      refine ⟨Bx, h1, ?_, h3⟩
      unfold Blk
      rw [hg.block Bx h2.lt (fun e => by obtain ⟨o, ho, hc⟩ := (hr _ e.symm).2; unfold Blk at h2; rw [h2] at ho; cases ho; cases hc)]
      exact h2) ?assign ?body ?done ?stop
  case assign =>
    rintro l pre x W K ⟨ht, hs⟩ hK
    obtain ⟨i, f⟩ := x
    unfold encF Fo.val
    gi_wp2
    exact hK _ _ ((KeepsOthers.alloc _ _).from _) (kp_of_below ((Below.refl W2.heap.size W).alloc hs.size _)) ⟨ht.alloc _, hs.trans (Step.of_below ((Below.refl _ W).alloc (Nat.le_refl _) _) ht.base_le)⟩ ⟨W.heap.size, hs.size, Blk.new W 76 _, rfl⟩
  case body =>
    rintro l pre x a' W hl ⟨r, hr⟩ ⟨ht, hs⟩ ⟨Bx, hBx, hX, rfl⟩ hlt
    obtain ⟨i, f⟩ := x
    have hbx : W.heap[w.heap.size]? = some (.cells #[.pointer (some ⟨tb, 0, none⟩)] 24 (0, 0)) := hs.other _ _ hB2 (by simp) (by simp) (by simp)
    have k0 : W.cell? ⟨w.heap.size, 0, none⟩ = some (.pointer (some ⟨tb, 0, none⟩)) := by rw [cell_of_row W w.heap.size 0 _ 24 (0, 0) hbx]; rfl
    have x0 : W.cell? ⟨Bx, 0, none⟩ = some (vs f.k) := hX.cell 0
    have x1 : W.cell? ⟨Bx, 1, none⟩ = some (.int .i64 f.v) := hX.cell 1
    have x2 : W.cell? ⟨Bx, 2, none⟩ = some (.bool f.t) := hX.cell 2
    have HRS := Lib.hid (restore_any ht f (by omega))
    unfold Fo.val at HRS ⊢
    gi_wp2
    refine ⟨trivial, ?_⟩
    refine (CallsIn.inRound l (callsIn_wide.2 HRS.out)).mono ?_
    rintro e w' ⟨rfl, hm, hg⟩
    gi_wp2
    obtain ⟨h2, s2⟩ := ht.of_map hm hg
    have hsz := hs.size
    exact ⟨KeepsFrom.of_grownBy hg (fun j e => by cases e; exact hlt2), ⟨hg.size, fun c hc hne => hg.block c (by omega) (fun e => hne (by injection e))⟩, by rw [restAll_snoc, List.length_append]; exact h2, hs.trans s2⟩
  case done =>
    rintro Dk ys W hD rfl ⟨ht, hs⟩ hK
    have hbx : W.heap[w.heap.size]? = some (.cells #[.pointer (some ⟨tb, 0, none⟩)] 24 (0, 0)) := hs.other _ _ hB2 (by simp) (by simp) (by simp)
    have k0 : W.cell? ⟨w.heap.size, 0, none⟩ = some (.pointer (some ⟨tb, 0, none⟩)) := by rw [cell_of_row W w.heap.size 0 _ 24 (0, 0) hbx]; rfl
    have k1 : W.cell? ⟨tb, 1, none⟩ = some (.slice (some ⟨g, 0, none⟩) J.length cap) := ht.blk.cell 1
    have HT := Lib.hid ht; have HS := Lib.hid hs; have HK := Lib.hid hK
    have HDL := Lib.hid (fun W' (hr : World.ownsRow W' base 76 3 (.slice (some ⟨g, 0, none⟩) J.length cap) J.length (cellsF J)) => delete_any base g J.length cap 0 (cellsF J) W' hr hkl hJ)
    clear ht hs hK hbx hT2 hB2 hS2 HM
    go_wp2_with fail
    have HR3 : Hid (World.ownsRow W.drew base 76 3 (.slice (some ⟨g, 0, none⟩) J.length cap) J.length (cellsF J)) := HT.out.row
    have HT3 : Hid (TabAt base W.drew tb mb (.slice (some ⟨g, 0, none⟩) J.length cap) (restAll D (backs J J.length)) J (n + (backs J J.length).length)) := ⟨HT.out.blk, HT.out.tbase, HT.out.mbase, HT.out.map, HT.out.row⟩
    have HS3 : Hid (Step base W2 W.drew) := ⟨HS.out.os, HS.out.tape, HS.out.output, HS.out.size, HS.out.low, HS.out.other⟩
    have HK3 : Hid (W.drew.heap[Dk]? = some (.deferred (some []))) := HK.out
    have q0 : W.drew.cell? ⟨w.heap.size, 0, none⟩ = some (.pointer (some ⟨tb, 0, none⟩)) ∧ W.drew.cell? ⟨tb, 1, none⟩ = some (.slice (some ⟨g, 0, none⟩) J.length cap) := ⟨k0, k1⟩
    have hgw : g < w.heap.size := (H.out.row.lt g rfl).2
    clear HT HS HK k0 k1 hbw
    refine wp_region_noPanic ?_
    refine Late.region_X (fun W' => W'.cell? ⟨w.heap.size, 0, none⟩ = some (.pointer (some ⟨tb, 0, none⟩)) ∧ W'.cell? ⟨tb, 1, none⟩ = some (.slice (some ⟨g, 0, none⟩) J.length cap)) [14] (by kernel_rfl) ?_
    generalize W.drew = W3 at *
    refine Late.take_X (f := 15) (i := 0) (v := ?_) rfl (by kernel_rfl) (by kernel_rfl) (by kernel_rfl) (by kernel_rfl) (by kernel_rfl) (fun _ _ _ h => h) (by rfl) ?_ q0 ?_
    rotate_left
    · intro w hw
      obtain ⟨s1, s2⟩ := hw
      go_simp
      with_reducible rfl
    refine Late.take_X (f := 15) (i := 1) (v := ?_) rfl (by kernel_rfl) (by kernel_rfl) (by kernel_rfl) (by kernel_rfl) (by kernel_rfl) (fun _ _ _ h => h) (by rfl) ?_ q0 ?_
    rotate_left
    · intro w hw
      obtain ⟨s1, s2⟩ := hw
      go_simp
      with_reducible rfl
    refine Late.take_X (f := 15) (i := 2) (v := ?_) rfl (by kernel_rfl) (by kernel_rfl) (by kernel_rfl) (by kernel_rfl) (by kernel_rfl) (fun _ _ _ h => h) (by rfl) ?_ q0 ?_
    rotate_left
    · intro w hw
      obtain ⟨s1, s2⟩ := hw
      go_simp
      with_reducible rfl
    refine Late.take_X (f := 15) (i := 3) (v := ?_) rfl (by kernel_rfl) (by kernel_rfl) (by kernel_rfl) (by kernel_rfl) (by kernel_rfl) (fun _ _ _ h => h) (by rfl) ?_ q0 ?_
    rotate_left
    · intro w hw
      obtain ⟨s1, s2⟩ := hw
      go_simp
      with_reducible rfl
    refine Late.take_X (f := 15) (i := 4) (v := ?_) rfl (by kernel_rfl) (by kernel_rfl) (by kernel_rfl) (by kernel_rfl) (by kernel_rfl) (fun _ _ _ h => h) (by rfl) ?_ q0 ?_
    rotate_left
    · intro w hw
      obtain ⟨s1, s2⟩ := hw
      go_simp
      with_reducible rfl
    refine Late.take_X (f := 15) (i := 5) (v := ?_) rfl (by kernel_rfl) (by kernel_rfl) (by kernel_rfl) (by kernel_rfl) (by kernel_rfl) (fun _ _ _ h => h) (by rfl) ?_ q0 ?_
    rotate_left
    · intro w hw
      obtain ⟨s1, s2⟩ := hw
      go_simp
      with_reducible rfl
    refine Late.take_X (f := 15) (i := 6) (v := ?_) rfl (by kernel_rfl) (by kernel_rfl) (by kernel_rfl) (by kernel_rfl) (by kernel_rfl) (fun _ _ _ h => h) (by rfl) ?_ q0 ?_
    rotate_left
    · intro w hw
      obtain ⟨s1, s2⟩ := hw
      go_simp
      with_reducible rfl
    refine Late.take_X (f := 15) (i := 7) (v := ?_) rfl (by kernel_rfl) (by kernel_rfl) (by kernel_rfl) (by kernel_rfl) (by kernel_rfl) (fun _ _ _ h => h) (by rfl) ?_ q0 ?_
    rotate_left
    · intro w hw
      obtain ⟨s1, s2⟩ := hw
      go_simp
      with_reducible rfl
    refine Late.take_X (f := 15) (i := 8) (v := ?_) rfl (by kernel_rfl) (by kernel_rfl) (by kernel_rfl) (by kernel_rfl) (by kernel_rfl) (fun _ _ _ h => h) (by rfl) ?_ q0 ?_
    rotate_left
    · intro w hw
      obtain ⟨s1, s2⟩ := hw
      go_simp
      with_reducible rfl
    refine Late.take_X (f := 15) (i := 9) (v := ?_) rfl (by kernel_rfl) (by kernel_rfl) (by kernel_rfl) (by kernel_rfl) (by kernel_rfl) (fun _ _ _ h => h) (by rfl) ?_ q0 ?_
    rotate_left
    · intro w hw
      obtain ⟨s1, s2⟩ := hw
      go_simp
      with_reducible rfl
    refine Late.take_X (f := 15) (i := 10) (v := ?_) rfl (by kernel_rfl) (by kernel_rfl) (by kernel_rfl) (by kernel_rfl) (by kernel_rfl) (fun _ _ _ h => h) (by rfl) ?_ q0 ?_
    rotate_left
    · intro w hw
      obtain ⟨s1, s2⟩ := hw
      go_simp
      with_reducible rfl
    refine Late.ready_X (rs := [11]) (by kernel_rfl) (by simp) ?_
    refine Late.AllX.cons rfl (fun K' hK => ?_) Late.AllX.nil
    go_simp
    refine (HDL.out W3 HR3.out).mono ?_
    rintro e w4 ⟨rfl, hr4, hg4⟩
    go_simp
    have hb4 : Blk w4 tb 65 [.map (some mb), .slice (some ⟨g, 0, none⟩) J.length cap] := by
      unfold Blk; rw [hg4.block tb HT3.out.blk.lt (fun e => by injection e with e; exact own_ne76 (by decide) HT3.out.blk HT3.out.row (by rw [e]; rfl))]; exact HT3.out.blk
    have hm4 := HT3.out.map.kept hg4 (fun e => by injection e with e; exact hgm e.symm)
    have hDk : w4.heap[Dk]? = some (.deferred (some [])) := (hg4.block Dk (Array.getElem?_eq_some_iff.1 HK3.out).1 (fun e => by injection e with e; omega)).trans HK3.out
    have hs4 : Step base W3 w4 := Step.of_grown hg4 HT3.out.base_le (fun r e => by cases e; exact ⟨(row_blk HT3.out.row _ rfl).1, .inr (.inl (row_blk HT3.out.row _ rfl).2)⟩)
    have k1 : w4.cell? ⟨tb, 1, none⟩ = some (.slice (some ⟨g, 0, none⟩) J.length cap) := hb4.cell 1
    have f1 : w4.frozen? ⟨tb, 1, none⟩ = false := hb4.frozen 1
    have HB4 := Lib.hid hb4; have HM4 := Lib.hid hm4; have HD4 := Lib.hid hDk; have HS4 := Lib.hid hs4; have HR4 := Lib.hid hr4
    have q4 : w4.cell? ⟨w.heap.size, 0, none⟩ = some (.pointer (some ⟨tb, 0, none⟩)) ∧ w4.cell? ⟨tb, 1, none⟩ = some (.slice (some ⟨g, 0, none⟩) J.length cap) := ⟨grown_cell hg4 q0.1 (by show w.heap.size ≠ g; omega), k1⟩
    clear hb4 hm4 hDk hs4 hr4 hg4 q0
    refine hK.out _ _ (fun _ => q4) ?_
    refine Late.ready_X (rs := [12]) (by kernel_rfl) (by simp) ?_
    refine Late.AllX.cons rfl (fun K' hK => ?_) Late.AllX.nil
    go_simp
    refine hK.out _ _ (fun _ => q4) ?_
    refine Late.ready_X (rs := [13]) (by kernel_rfl) (by simp) ?_
    refine Late.AllX.cons rfl (fun K' hK => ?_) Late.AllX.nil
    go_simp
    refine hK.out _ _ (fun _ => q4) ?_
    refine Late.ready_X (rs := [14]) (by kernel_rfl) (by simp) ?_
    refine Late.AllX.cons rfl (fun K' hK => ?_) Late.AllX.nil
    go_simp
    refine hK.out _ _ (fun h => absurd (by simp) h) ?_
    refine Late.done_X (by kernel_rfl) ?_ _
    try (simp only [])
    clear q4 k1 f1
    go_wp2_with fail
    have hk5 : (w4.setCell ⟨tb, 1, none⟩ (.slice (some ⟨g, 0, none⟩) 0 cap)).heap[Dk]? = some (.deferred (some [])) := by rw [Below.heap_setCell _ _ _ _ (show Dk ≠ tb by omega)]; exact HD4.out
    have hT5 : TabAt base (w4.setCell ⟨tb, 1, none⟩ (.slice (some ⟨g, 0, none⟩) 0 cap)) tb mb (.slice (some ⟨g, 0, none⟩) 0 cap) (undoD D J) [] (n + 1000) := by
      have hr := HR4.out
      rw [← cellsF_take] at hr
      rw [List.take_zero] at hr
      refine ⟨by have := HB4.out.set 1 (.slice (some ⟨g, 0, none⟩) 0 cap); simpa using this, HT3.out.tbase, HT3.out.mbase, (HM4.out.mono (by rw [backs_length]; omega)).setCell (blk_ne_map HM4.out HB4.out) _, ?_⟩
      exact hr.kept (grown_set w4 tb 1 _) (.inr (own_ne76 (by decide) HB4.out hr))
    refine ⟨by simp, .inl ⟨_, _, rfl, run_takeDeferred hk5, ?_⟩⟩
    have hgp := grownBy_putObj' (w4.setCell ⟨tb, 1, none⟩ (.slice (some ⟨g, 0, none⟩) 0 cap)) Dk (.deferred none)
    exact ⟨_, results_none rfl _ _ _, rfl, ⟨mb, _, hT5.kept hgp (fun e => by injection e with e; omega) (fun e => by injection e with e; omega) (fun r hr2 e => by injection e with e; have h6 : g = r := (by simpa [Value.ownBlock] using hr2); omega)⟩,
      (hBe.trans (HS3.out.trans (HS4.out.trans (step_store HB4.out HT3.out.tbase 1 _)))).grown_new (H.out.base_le) hgp (fun r e => by cases e; omega)⟩
  case stop =>
    rintro Dk c pre W _ _ h _
    exact h.elim
/-- UNDO AT WHATEVER MARK -/
theorem undo_every {base : Nat} {w : World} {tb : Nat} {D : DU} {J : List Fo} {n : Nat} (h : Tab base w tb D J n) (m : Int) (hJ : J.length ≤ 1000) (hn : n ≤ 500000) :
    Calls Try.prog 16 #[.pointer (some ⟨tb, 0, none⟩), .int .i64 m] w fun e w' => e = .returned (.tuple #[]) ∧ Tab base w' tb (undoD D (J.drop m.toNat)) (J.take m.toNat) (n + 1000) ∧ Step base w w' := by
  by_cases h0 : 0 ≤ m
  · exact undo_all h m h0 hJ hn
  · have hz : m.toNat = 0 := by omega
    rw [hz, List.drop_zero, List.take_zero]
    by_cases hl : 0 < J.length
    · obtain ⟨mb, jv, h⟩ := h
      obtain ⟨j, hj⟩ : ∃ j, J.length = j + 1 := ⟨J.length - 1, by omega⟩
      obtain ⟨g, cap, hv⟩ : ∃ g cap, jv = .slice (some ⟨g, 0, none⟩) J.length cap := by
        have := h.row
        rw [hj] at this ⊢
        exact row_form this
      subst hv
      exact undo_neg h m (by omega) hl hJ hn
    · obtain rfl : J = [] := List.eq_nil_of_length_eq_zero (by omega)
      exact (undo_none h m (by simp; omega)).mono fun e w' he => ⟨he.1, (h.below he.2).mono (by omega), Step.of_below he.2 h.base_le⟩
end Go.Proofs.Ytkmjknehbaofcaa
