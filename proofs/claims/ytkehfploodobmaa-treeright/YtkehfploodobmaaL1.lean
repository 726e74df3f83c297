/- TreeRight: the walk. -/
import Derived.Test.YtkehfploodobmaaW13
import Derived.Test.YtkehfploodobmaaW14
import Derived.Test.YtkehfploodobmaaW15
import Derived.Deep.RegionHeld3
namespace Go.Proofs.Ytkehfploodobmaa
open Go.RowKit TreeMath RealMath

theorem size_le (t : T) (h : ∀ k ∈ all t, tooMuch k.hd = false) : size t ≤ count t * 3000 := by
  unfold size count
  generalize all t = l at *
  induction l with
  | nil => simp
  | cons a r ih =>
    have h1 := h a (by simp)
    have h2 := ih (fun k hk => h k (by simp [hk]))
    unfold tooMuch at h1
    simp only [Bool.or_eq_false_iff, decide_eq_false_iff_not] at h1
    simp only [List.map_cons, List.sum_cons, List.length_cons]
    omega
theorem few_of (t : T) (h : ∀ k ∈ all t, tooMuch k.hd = false) : Few t := fun k hk => by
  have h1 := h k hk
  unfold tooMuch at h1
  simp only [Bool.or_eq_false_iff, decide_eq_false_iff_not] at h1
  omega
set_option maxHeartbeats 8000000 in
theorem right_walk (x : Hd) (ks : List T) (w : World) (hok : Ok w w.heap.size (.mk x ks)) :
    Calls Try.prog 3 #[nv x ks.length] w fun e w' => e = .returned (.bool true) ∧ Below w.heap.size w w' := by
  have HOK := Lib.hid hok
  clear hok
  go_enter Try.func3, Try.ntmps3
  go_wp2_with fail
  have hbox := Blk.new w 27 #[vb x.kind, .slice x.na x.names.length x.nc, .slice x.ka ks.length x.kc, .slice x.da x.data.length x.dc, .bool x.run, .float .f64 x.stamp, vs x.target]
  have hB1 : Below w.heap.size w (w.alloc (.cells #[vb x.kind, .slice x.na x.names.length x.nc, .slice x.ka ks.length x.kc, .slice x.da x.data.length x.dc, .bool x.run, .float .f64 x.stamp, vs x.target] 27)) := (Below.refl _ _).alloc (Nat.le_refl _) _
  have hs1 : (w.alloc (.cells #[vb x.kind, .slice x.na x.names.length x.nc, .slice x.ka ks.length x.kc, .slice x.da x.data.length x.dc, .bool x.run, .float .f64 x.stamp, vs x.target] 27)).heap.size = w.heap.size + 1 := by simp
  generalize w.alloc (.cells #[vb x.kind, .slice x.na x.names.length x.nc, .slice x.ka ks.length x.kc, .slice x.da x.data.length x.dc, .bool x.run, .float .f64 x.stamp, vs x.target] 27) = W1 at *
  have HBOX := Lib.hid hbox; have HB1 := Lib.hid hB1; have HS1 := Lib.hid hs1
  clear hbox hB1 hs1
  refine (leaf_any W1).mono ?_
  rintro e w1 ⟨rfl, hb1⟩
  have HB2 : Hid (Below (w.heap.size + 1) W1 w1) := hb1.mono (by have := HS1.out; omega)
  clear hb1
  have HCELL : Hid (∀ W, Below (w.heap.size + 1) W1 W → W.cell? ⟨w.heap.size, 0, none⟩ = some (vb x.kind) ∧ W.cell? ⟨w.heap.size, 1, none⟩ = some (.slice x.na x.names.length x.nc) ∧ W.cell? ⟨w.heap.size, 2, none⟩ = some (.slice x.ka ks.length x.kc) ∧ W.cell? ⟨w.heap.size, 3, none⟩ = some (.slice x.da x.data.length x.dc) ∧ W.cell? ⟨w.heap.size, 4, none⟩ = some (.bool x.run) ∧ W.cell? ⟨w.heap.size, 5, none⟩ = some (.float .f64 x.stamp) ∧ W.cell? ⟨w.heap.size, 6, none⟩ = some (vs x.target)) := fun W hW => by
    have hblk := HBOX.out.below hW (by omega)
    exact ⟨hblk.cell 0, hblk.cell 1, hblk.cell 2, hblk.cell 3, hblk.cell 4, hblk.cell 5, hblk.cell 6⟩
  have HKEEP : Hid (∀ W, Below (w.heap.size + 1) W1 W → w.heap.size ≤ W.heap.size ∧ Ok W w.heap.size (.mk x ks)) := fun W hW => ⟨by have := hW.size; have := HS1.out; omega, HOK.out.keep (HB1.out.trans (hW.mono (by omega)))⟩
  have HNEXT : Hid (∀ W W', Below (w.heap.size + 1) W1 W → Below W.heap.size W W' → Below (w.heap.size + 1) W1 W') := fun W W' h h' => h.trans (h'.mono (by have := h.size; have := HS1.out; omega))
  obtain ⟨c0, c1, c2, c3, c4, c5, c6⟩ := HCELL.out w1 HB2.out
  go_wp2_with fail
  refine (great_of w.heap.size (.mk x ks) 300 w1 (HKEEP.out _ HB2.out).1 (HKEEP.out _ HB2.out).2 (by omega) (by omega)).mono ?_
  rintro e w2 ⟨rfl, hb2⟩
  have HB3 : Hid (Below (w.heap.size + 1) W1 w2) := HNEXT.out _ _ HB2.out hb2
  clear hb2 c0 c1 c2 c3 c4 c5 c6
  have HOKG := Lib.hid (greatF_ok (.mk x ks) 300)
  have hgl := greatF_le (.mk x ks) 300 (by omega)
  generalize greatF (.mk x ks) 300 = gm at *
  by_cases hgm : gm < 0
  · have hgm' : decide (gm < 0) = true := decide_eq_true hgm
    go_wp2_with fail
    refine (leaf_any w2).mono ?_
    rintro e w3 ⟨rfl, hb3⟩
    have HB4 : Hid (Below w.heap.size w w3) := HB1.out.trans ((HNEXT.out _ _ HB3.out hb3).mono (by omega))
    clear hb3
    go_wp2_with fail
    go_ret
    exact ⟨rfl, HB4.out⟩
  · have hgm' : decide (gm < 0) = false := decide_eq_false hgm
    obtain ⟨hcn, hsm⟩ := HOKG.out (by omega)
    have hn : count (.mk x ks) ≤ 300 := by omega
    have hz : size (.mk x ks) ≤ 1000000 := by have := size_le _ hsm; omega
    have hdd : depth (.mk x ks) ≤ 300 := Nat.le_trans (depth_count _) hn
    have hfew := few_of _ hsm
    have C11 : Hid (∀ W, Below (w.heap.size + 1) W1 W → Calls Try.prog 11 #[nv x ks.length] W fun e w' => e = .returned (.bool (rightB (.mk x ks))) ∧ Below (w.heap.size + 1) W1 w') := fun W hW => (right_any x ks w.heap.size W (HKEEP.out _ hW).1 (HKEEP.out _ hW).2 (by omega)).mono fun e w' h => ⟨h.1, HNEXT.out _ _ hW h.2⟩
    have C12 : Hid (∀ W, Below (w.heap.size + 1) W1 W → Calls Try.prog 12 #[nv x ks.length] W fun e w' => e = .returned (.bool (rightB (.mk x ks))) ∧ Below (w.heap.size + 1) W1 w') := fun W hW => (rright_any x ks w.heap.size W (HKEEP.out _ hW).1 (HKEEP.out _ hW).2 (by omega) hfew).mono fun e w' h => ⟨h.1, HNEXT.out _ _ hW h.2⟩
    have C13 : Hid (∀ W, Below (w.heap.size + 1) W1 W → Calls Try.prog 13 #[nv x ks.length] W fun e w' => e = .returned (.int .i64 (count (.mk x ks) : Nat)) ∧ Below (w.heap.size + 1) W1 w') := fun W hW => (count_any x ks w.heap.size W (HKEEP.out _ hW).1 (HKEEP.out _ hW).2 (by omega)).mono fun e w' h => ⟨h.1, HNEXT.out _ _ hW h.2⟩
    have C14 : Hid (∀ W, Below (w.heap.size + 1) W1 W → Calls Try.prog 14 #[nv x ks.length] W fun e w' => ∃ g c, e = .returned (.slice (some ⟨g, 0, none⟩) (count (.mk x ks)) c) ∧ Below (w.heap.size + 1) W1 w') := fun W hW => (all_of w.heap.size (.mk x ks) W (HKEEP.out _ hW).1 (HKEEP.out _ hW).2 (by omega)).mono fun e w' h => by
      obtain ⟨v, he, hnod, hb⟩ := h
      obtain ⟨g, c, hv, -⟩ := hnod.at (count_pos (.mk x ks))
      exact ⟨g, c, by rw [he, hv]; rfl, HNEXT.out _ _ hW hb⟩
    have C15 : Hid (∀ W, Below (w.heap.size + 1) W1 W → Calls Try.prog 15 #[nv x ks.length] W fun e w' => e = .returned (.int .i64 (depth (.mk x ks) : Nat)) ∧ Below (w.heap.size + 1) W1 w') := fun W hW => (depth_any x ks w.heap.size W (HKEEP.out _ hW).1 (HKEEP.out _ hW).2 (by omega)).mono fun e w' h => ⟨h.1, HNEXT.out _ _ hW h.2⟩
    have C16 : Hid (∀ W, Below (w.heap.size + 1) W1 W → Calls Try.prog 16 #[nv x ks.length] W fun e w' => e = .returned (.int .i64 (depth (.mk x ks) : Nat)) ∧ Below (w.heap.size + 1) W1 w') := fun W hW => (rdepth_of w.heap.size (.mk x ks) W (HKEEP.out _ hW).1 (HKEEP.out _ hW).2 (by omega)).mono fun e w' h => ⟨h.1, HNEXT.out _ _ hW h.2⟩
    have C17 : Hid (∀ W, Below (w.heap.size + 1) W1 W → Calls Try.prog 17 #[nv x ks.length] W fun e w' => e = .returned (.int .i64 (size (.mk x ks) : Nat)) ∧ Below (w.heap.size + 1) W1 w') := fun W hW => (size_any x ks w.heap.size W (HKEEP.out _ hW).1 (HKEEP.out _ hW).2 (by omega) (by omega)).mono fun e w' h => ⟨h.1, HNEXT.out _ _ hW h.2⟩
    have C18 : Hid (∀ W, Below (w.heap.size + 1) W1 W → Calls Try.prog 18 #[nv x ks.length] W fun e w' => e = .returned (.int .i64 (size (.mk x ks) : Nat)) ∧ Below (w.heap.size + 1) W1 w') := fun W hW => (rsize_any x ks w.heap.size W (HKEEP.out _ hW).1 (HKEEP.out _ hW).2 (by omega) (by omega)).mono fun e w' h => ⟨h.1, HNEXT.out _ _ hW h.2⟩
    clear hcn hsm hfew HOKG
    generalize rightB (.mk x ks) = rb at *
    generalize count (.mk x ks) = cn at *
    generalize depth (.mk x ks) = dn at *
    generalize size (.mk x ks) = sn at *
    go_wp2_with fail
    have HB5 : Hid (Below (w.heap.size + 1) W1 w2.drew) := HB3.out.drew
    have k0 := HCELL.out _ HB5.out
    go_region_held3 (fun W => W.cell? ⟨w.heap.size, 0, none⟩ = some (vb x.kind) ∧ W.cell? ⟨w.heap.size, 1, none⟩ = some (.slice x.na x.names.length x.nc) ∧ W.cell? ⟨w.heap.size, 2, none⟩ = some (.slice x.ka ks.length x.kc) ∧ W.cell? ⟨w.heap.size, 3, none⟩ = some (.slice x.da x.data.length x.dc) ∧ W.cell? ⟨w.heap.size, 4, none⟩ = some (.bool x.run) ∧ W.cell? ⟨w.heap.size, 5, none⟩ = some (.float .f64 x.stamp) ∧ W.cell? ⟨w.heap.size, 6, none⟩ = some (vs x.target))
      (first | exact k0 | exact k1 | exact k2 | exact k3 | exact k4 | exact k5 | exact k6 | exact k7 | exact k8)
      (first
        | (go_at_call 11
           refine (C11.out _ HB5.out).mono ?_
           rintro e x1 ⟨rfl, hb⟩
           have H1 := Lib.hid hb; clear hb
           have k1 := HCELL.out _ H1.out)
        | (go_at_call 12
           refine (C12.out _ H1.out).mono ?_
           rintro e x2 ⟨rfl, hb⟩
           have H2 := Lib.hid hb; clear hb
           have k2 := HCELL.out _ H2.out)
        | (go_at_call 13
           refine (C13.out _ H2.out).mono ?_
           rintro e x3 ⟨rfl, hb⟩
           have H3 := Lib.hid hb; clear hb
           have k3 := HCELL.out _ H3.out)
        | (go_at_call 14
           refine (C14.out _ H3.out).mono ?_
           rintro e x4 ⟨g4, c4, rfl, hb⟩
           have H4 := Lib.hid hb; clear hb
           have k4 := HCELL.out _ H4.out)
        | (go_at_call 15
           refine (C15.out _ H4.out).mono ?_
           rintro e x5 ⟨rfl, hb⟩
           have H5 := Lib.hid hb; clear hb
           have k5 := HCELL.out _ H5.out)
        | (go_at_call 16
           refine (C16.out _ H5.out).mono ?_
           rintro e x6 ⟨rfl, hb⟩
           have H6 := Lib.hid hb; clear hb
           have k6 := HCELL.out _ H6.out)
        | (go_at_call 17
           refine (C17.out _ H6.out).mono ?_
           rintro e x7 ⟨rfl, hb⟩
           have H7 := Lib.hid hb; clear hb
           have k7 := HCELL.out _ H7.out)
        | (go_at_call 18
           refine (C18.out _ H7.out).mono ?_
           rintro e x8 ⟨rfl, hb⟩
           have H8 := Lib.hid hb; clear hb
           have k8 := HCELL.out _ H8.out))
    clear k0 k1 k2 k3 k4 k5 k6 k7 k8
    go_wp2_with fail
    go_ret
    exact ⟨rfl, HB1.out.trans (H8.out.mono (by omega))⟩
end Go.Proofs.Ytkehfploodobmaa
