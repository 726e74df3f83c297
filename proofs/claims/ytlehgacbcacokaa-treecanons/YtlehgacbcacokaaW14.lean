/- The contract of the document's example. -/
import Derived.Test.YtlehgacbcacokaaW9
import Derived.Test.YtlehgacbcacokaaK2
import Derived.Deep.CutBlock
namespace Go.Proofs.Ytlehgacbcacokaa
open Go.RowKit TreeMath RealMath

def leafF (s : Nat) : T := .mk (fileHd (some ⟨s + 1, 0, none⟩) 1 [255] false 0) []
def leafT (s : Nat) : T := .mk (dirHd (some ⟨s, 0, none⟩) 1 [[97]] (some ⟨s + 1 + 1, 0, none⟩) 1) [leafF s]
theorem leaf_count (s : Nat) : count (leafT s) = 2 := by unfold leafT leafF; rw [count_mk, allL, allL, all, allL]; rfl
theorem leaf_depth (s : Nat) : depth (leafT s) = 2 := by unfold leafT leafF; rw [depth, depthL, depthL, depth, depthL]; rfl
theorem leaf_size (s : Nat) : size (leafT s) = 1 := by unfold size leafT leafF; rw [all, allL, allL, all, allL]; rfl
theorem leaf_right (s : Nat) : rightB (leafT s) = true := by
  have h1 : fitsB (leafF s) = true := by unfold leafF; rw [fits_file]; rfl
  have h2 : fitsB (leafT s) = true := by
    have : namesOk [[97]] = true := by decide
    unfold leafT; rw [fits_dir, this]; rfl
  unfold rightB
  rw [leaf_count, leaf_depth]
  have : all (leafT s) = [leafT s, leafF s] := by unfold leafT leafF; rw [all, allL, allL, all, allL]; rfl
  rw [this]; simp [h1, h2]
theorem leaf_ok (w W : World) (h0 : Blk W w.heap.size 9 [vs [97]]) (h1 : Blk W (w.heap.size + 1) 5 [vb 255]) (h2 : Blk W (w.heap.size + 1 + 1) 27 (cellsT (leafF w.heap.size))) : Ok W W.heap.size (leafT w.heap.size) := by
  refine ok_dir _ _ _ _ _ _ (Blk.strs (tl := []) (by simpa using h0)) (fun _ a ha => by cases ha; exact h0.lt) (fun h => by cases h) (by simp) (by unfold maxLen; simp) (fun t ht => by simp at ht; subst ht; unfold maxLen; simp) (fun h => by cases h) (by unfold maxLen; simp) (by simp) (Blk.kid _ h2 h2.lt) ?_
  intro k hk
  obtain rfl : k = leafF w.heap.size := by simpa using hk
  exact ok_file _ _ _ _ _ (Blk.src (tl := []) (by simpa using h1)) (fun _ a ha => by cases ha; exact h1.lt) (fun h => by cases h) (by simp) (by unfold maxLen; simp) (by omega)
set_option maxHeartbeats 2000000 in
theorem leaf_any (w : World) : Calls Try.prog 14 #[] w fun e w' => e = .returned (.bool true) ∧ Below w.heap.size w w' := by
  go_enter Try.func14, Try.ntmps14
  go_upto_region 2 with fail
  have g0 := (((Blk.new w 9 #[vs [97]]).alloc (.cells #[vb 255] 5)).alloc (.cells (cellsT (leafF w.heap.size)).toArray 27)).alloc (.cells (cellsT (leafT w.heap.size)).toArray 27)
  have g1 := ((Blk.new (w.alloc (.cells #[vs [97]] 9)) 5 #[vb 255]).alloc (.cells (cellsT (leafF w.heap.size)).toArray 27)).alloc (.cells (cellsT (leafT w.heap.size)).toArray 27)
  have g2 := (Blk.new ((w.alloc (.cells #[vs [97]] 9)).alloc (.cells #[vb 255] 5)) 27 (cellsT (leafF w.heap.size)).toArray).alloc (.cells (cellsT (leafT w.heap.size)).toArray 27)
  have g3 := Blk.new (((w.alloc (.cells #[vs [97]] 9)).alloc (.cells #[vb 255] 5)).alloc (.cells (cellsT (leafF w.heap.size)).toArray 27)) 27 (cellsT (leafT w.heap.size)).toArray
  have hB : Below w.heap.size w ((((w.alloc (.cells #[vs [97]] 9)).alloc (.cells #[vb 255] 5)).alloc (.cells (cellsT (leafF w.heap.size)).toArray 27)).alloc (.cells (cellsT (leafT w.heap.size)).toArray 27)) :=
    ((((Below.refl _ _).alloc (Nat.le_refl _) _).alloc (by simp) _).alloc (by simp; omega) _).alloc (by simp; omega) _
  have hs : ((((w.alloc (.cells #[vs [97]] 9)).alloc (.cells #[vb 255] 5)).alloc (.cells (cellsT (leafF w.heap.size)).toArray 27)).alloc (.cells (cellsT (leafT w.heap.size)).toArray 27)).heap.size = w.heap.size + 4 := by simp
  change Code.wp _ _ _ _ ((((w.alloc (.cells #[vs [97]] 9)).alloc (.cells #[vb 255] 5)).alloc (.cells (cellsT (leafF w.heap.size)).toArray 27)).alloc (.cells (cellsT (leafT w.heap.size)).toArray 27))
  simp only [World.size_alloc] at g1 g2 g3
  generalize ((((w.alloc (.cells #[vs [97]] 9)).alloc (.cells #[vb 255] 5)).alloc (.cells (cellsT (leafF w.heap.size)).toArray 27)).alloc (.cells (cellsT (leafT w.heap.size)).toArray 27)) = W1 at *
  have HOK := Lib.hid (leaf_ok w W1 g0 g1 g2)
  have HB := Lib.hid hB; have HS := Lib.hid hs
  have HBOX : Hid (Blk W1 (w.heap.size + 1 + 1 + 1) 27 (cellsT (leafT w.heap.size))) := g3
  clear g0 g1 g2 g3 hB hs
  have key : ∀ W, Below W1.heap.size W1 W → ∀ j, j < 7 → W.cell? ⟨w.heap.size + 1 + 1 + 1, j, none⟩ = (cellsT (leafT w.heap.size))[j]? := fun W hW j _ => (HBOX.out.below hW (by have := HS.out; omega)).cell j
  have HKEY := Lib.hid key; clear key
  have HLC := Lib.hid (leaf_count w.heap.size); have HLD := Lib.hid (leaf_depth w.heap.size); have HLS := Lib.hid (leaf_size w.heap.size); have HLR := Lib.hid (leaf_right w.heap.size)
  have HK : Hid (∀ W, Below W1.heap.size W1 W → W1.heap.size ≤ W.heap.size ∧ Ok W W1.heap.size (leafT w.heap.size)) := fun W hW => ⟨hW.size, HOK.out.keep hW⟩
  have a0 := HKEY.out W1 (Below.refl _ _) 0 (by omega); have a1 := HKEY.out W1 (Below.refl _ _) 1 (by omega); have a2 := HKEY.out W1 (Below.refl _ _) 2 (by omega); have a3 := HKEY.out W1 (Below.refl _ _) 3 (by omega); have a4 := HKEY.out W1 (Below.refl _ _) 4 (by omega); have a5 := HKEY.out W1 (Below.refl _ _) 5 (by omega); have a6 := HKEY.out W1 (Below.refl _ _) 6 (by omega)
  simp only [leafT, cellsT, cellsOf, List.getElem?_cons_zero, List.getElem?_cons_succ] at a0 a1 a2 a3 a4 a5 a6
  go_wp2_with fail
  refine (count_any (dirHd (some ⟨w.heap.size, 0, none⟩) 1 [[97]] (some ⟨w.heap.size + 1 + 1, 0, none⟩) 1) [leafF w.heap.size] W1.heap.size W1 (Nat.le_refl _) (HK.out _ (Below.refl _ _)).2 (by have := HLC.out; unfold leafT at this; omega)).mono ?_
  rintro e w1 ⟨he, hb⟩
  obtain rfl : e = .returned (.int .i64 2) := by rw [he]; unfold leafT at HLC; rw [HLC.out]; rfl
  have HB1 := Lib.hid hb
  clear he hb a0 a1 a2 a3 a4 a5 a6
  have a0 := HKEY.out w1 HB1.out 0 (by omega); have a1 := HKEY.out w1 HB1.out 1 (by omega); have a2 := HKEY.out w1 HB1.out 2 (by omega); have a3 := HKEY.out w1 HB1.out 3 (by omega); have a4 := HKEY.out w1 HB1.out 4 (by omega); have a5 := HKEY.out w1 HB1.out 5 (by omega); have a6 := HKEY.out w1 HB1.out 6 (by omega)
  simp only [leafT, cellsT, cellsOf, List.getElem?_cons_zero, List.getElem?_cons_succ] at a0 a1 a2 a3 a4 a5 a6
  go_wp2_with fail
  refine (depth_any (dirHd (some ⟨w.heap.size, 0, none⟩) 1 [[97]] (some ⟨w.heap.size + 1 + 1, 0, none⟩) 1) [leafF w.heap.size] W1.heap.size w1 (HK.out _ HB1.out).1 (HK.out _ HB1.out).2 (by have := HLC.out; unfold leafT at this; omega)).mono ?_
  rintro e w2 ⟨he, hb⟩
  obtain rfl : e = .returned (.int .i64 2) := by rw [he]; unfold leafT at HLD; rw [HLD.out]; rfl
  have HB2 : Hid (Below W1.heap.size W1 w2) := HB1.out.trans (hb.mono HB1.out.size)
  clear he hb a0 a1 a2 a3 a4 a5 a6
  have a0 := HKEY.out w2 HB2.out 0 (by omega); have a1 := HKEY.out w2 HB2.out 1 (by omega); have a2 := HKEY.out w2 HB2.out 2 (by omega); have a3 := HKEY.out w2 HB2.out 3 (by omega); have a4 := HKEY.out w2 HB2.out 4 (by omega); have a5 := HKEY.out w2 HB2.out 5 (by omega); have a6 := HKEY.out w2 HB2.out 6 (by omega)
  simp only [leafT, cellsT, cellsOf, List.getElem?_cons_zero, List.getElem?_cons_succ] at a0 a1 a2 a3 a4 a5 a6
  go_wp2_with fail
  refine (size_any (dirHd (some ⟨w.heap.size, 0, none⟩) 1 [[97]] (some ⟨w.heap.size + 1 + 1, 0, none⟩) 1) [leafF w.heap.size] W1.heap.size w2 (HK.out _ HB2.out).1 (HK.out _ HB2.out).2 (by have := HLC.out; unfold leafT at this; omega) (by have := HLS.out; unfold leafT at this; omega)).mono ?_
  rintro e w3 ⟨he, hb⟩
  obtain rfl : e = .returned (.int .i64 1) := by rw [he]; unfold leafT at HLS; rw [HLS.out]; rfl
  have HB3 : Hid (Below W1.heap.size W1 w3) := HB2.out.trans (hb.mono HB2.out.size)
  clear he hb a0 a1 a2 a3 a4 a5 a6
  have a0 := HKEY.out w3 HB3.out 0 (by omega); have a1 := HKEY.out w3 HB3.out 1 (by omega); have a2 := HKEY.out w3 HB3.out 2 (by omega); have a3 := HKEY.out w3 HB3.out 3 (by omega); have a4 := HKEY.out w3 HB3.out 4 (by omega); have a5 := HKEY.out w3 HB3.out 5 (by omega); have a6 := HKEY.out w3 HB3.out 6 (by omega)
  simp only [leafT, cellsT, cellsOf, List.getElem?_cons_zero, List.getElem?_cons_succ] at a0 a1 a2 a3 a4 a5 a6
  go_wp2_with fail
  refine (right_any (dirHd (some ⟨w.heap.size, 0, none⟩) 1 [[97]] (some ⟨w.heap.size + 1 + 1, 0, none⟩) 1) [leafF w.heap.size] W1.heap.size w3 (HK.out _ HB3.out).1 (HK.out _ HB3.out).2 (by have := HLC.out; unfold leafT at this; omega)).mono ?_
  rintro e w4 ⟨he, hb⟩
  obtain rfl : e = .returned (.bool true) := by rw [he]; unfold leafT at HLR; rw [HLR.out]
  have HB4 : Hid (Below w.heap.size w w4) := HB.out.trans ((HB3.out.trans (hb.mono HB3.out.size)).mono (by have := HS.out; omega))
  clear he hb a0 a1 a2 a3 a4 a5 a6
  go_wp2_with fail
  go_ret
  exact ⟨rfl, HB4.out⟩
end Go.Proofs.Ytlehgacbcacokaa
