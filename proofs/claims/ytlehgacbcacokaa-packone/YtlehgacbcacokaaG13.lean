/- Nodes of each kind, as they are laid. -/
import Derived.Test.YtlehgacbcacokaaG3
import Derived.Test.YtlehgacbcacokaaG12
import Derived.Deep.CutBlock
namespace Go.Proofs.Ytlehgacbcacokaa
open Go.RowKit TreeMath

def fileHd (da : Option Addr) (dc : Nat) (data : List By) (run : Bool) (stamp : Nat) : Hd := ⟨2, none, 0, [], none, 0, da, dc, data, run, stamp, []⟩
def linkHd (target : List By) : Hd := ⟨3, none, 0, [], none, 0, none, 0, [], false, 0, target⟩
def dirHd (na : Option Addr) (nc : Nat) (names : List (List By)) (ka : Option Addr) (kc : Nat) : Hd := ⟨1, na, nc, names, ka, kc, none, 0, [], false, 0, []⟩
theorem ok_file {w : World} {top : Nat} (da : Option Addr) (dc : Nat) (data : List By) (run : Bool) (stamp : Nat) (h1 : SrcIs w da data) (h2 : 0 < data.length → ∀ a, da = some a → a.block < top)
    (h3 : da = none → dc = 0) (h4 : data.length ≤ dc) (h5 : data.length ≤ maxLen) (h6 : stamp < 18446744073709551616) : Ok w top (.mk (fileHd da dc data run stamp) []) :=
  .mk _ _ ⟨fun h => absurd h (by simp [fileHd]), fun h => absurd h (by simp [fileHd]), fun _ => rfl, by simp [fileHd], by simp [fileHd], by simp [fileHd], h1, h2, h3, h4, h5, h6, by simp [fileHd], fun _ => rfl⟩ (by simp) (by simp) (fun h => absurd h (by simp)) (fun k hk => by cases hk)
theorem ok_link {w : World} {top : Nat} (target : List By) (h : target.length ≤ maxLen) : Ok w top (.mk (linkHd target) []) :=
  .mk _ _ ⟨fun h => absurd h (by simp [linkHd]), fun h => absurd h (by simp [linkHd]), fun _ => rfl, by simp [linkHd], by simp [linkHd], by simp [linkHd], fun h => absurd h (by simp [linkHd]), fun h => absurd h (by simp [linkHd]), fun _ => rfl, by simp [linkHd], by simp [linkHd], by simp [linkHd], h, fun _ => rfl⟩ (by simp) (by simp) (fun h => absurd h (by simp)) (fun k hk => by cases hk)
theorem ok_dir {w : World} {top : Nat} (na : Option Addr) (nc : Nat) (names : List (List By)) (ka : Option Addr) (kc : Nat) (ks : List T) (h1 : StrsIs w na names) (h2 : 0 < names.length → ∀ a, na = some a → a.block < top)
    (h3 : na = none → nc = 0) (h4 : names.length ≤ nc) (h5 : names.length ≤ maxLen) (h6 : ∀ t ∈ names, t.length ≤ maxLen) (h7 : ka = none → kc = 0) (h8 : ks.length ≤ maxLen) (h9 : ks.length ≤ kc) (h10 : KidsAt w top ka ks) (h11 : ∀ k ∈ ks, Ok w top k) :
    Ok w top (.mk (dirHd na nc names ka kc) ks) :=
  .mk _ _ ⟨h1, h2, h3, h4, h5, h6, fun h => absurd h (by simp [dirHd]), fun h => absurd h (by simp [dirHd]), fun _ => rfl, by simp [dirHd], by simp [dirHd], by simp [dirHd], by simp [dirHd], h7⟩ h8 h9 h10 h11
theorem Blk.strs {w : World} {g : Nat} {t : TypeId} {ls : List (List By)} {tl : List Value} (h : Blk w g t (ls.map vs ++ tl)) : StrsIs w (some ⟨g, 0, none⟩) ls := fun _ => ⟨g, 0, rfl, fun k hk => by
  rw [Nat.zero_add, h.cell, List.getElem?_append_left (by simpa using hk)]; simp [hk]⟩
theorem Blk.src {w : World} {g : Nat} {l : List By} {tl : List Value} (h : Blk w g 5 (l.map vb ++ tl)) : SrcIs w (some ⟨g, 0, none⟩) l := fun _ => ⟨g, 0, rfl, Blk.bytes h⟩
/-- one node in a row of its own -/
theorem Blk.kid {w : World} {g top : Nat} {t : TypeId} (k : T) (h : Blk w g t (cellsT k)) (hg : g < top) : KidsAt w top (some ⟨g, 0, none⟩) [k] := fun _ => ⟨g, 0, rfl, hg, fun i hi j v hv => by
  have : i = 0 := by simpa using hi
  subst this
  rw [show 0 + 0 * 7 + j = j by omega, h.cell]; exact hv⟩
theorem fits_file (da : Option Addr) (dc : Nat) (data : List By) (run : Bool) (stamp : Nat) : fitsB (.mk (fileHd da dc data run stamp) []) = decide (data.length ≤ 1024) := by
  rw [fitsB]; simp [fileHd]; rfl
theorem fits_link (t : List By) : fitsB (.mk (linkHd t) []) = (decide (1 ≤ t.length) && decide (t.length ≤ 1024)) := by
  have h0 : RealMath.canonB 0 = 0 := by decide
  rw [fitsB]; simp [linkHd, noFile, h0]; rfl
theorem fits_dir (na : Option Addr) (nc : Nat) (names : List (List By)) (ka : Option Addr) (kc : Nat) (ks : List T) : fitsB (.mk (dirHd na nc names ka kc) ks) = (decide (names.length = ks.length) && namesOk names) := by
  have h0 : RealMath.canonB 0 = 0 := by decide
  rw [fitsB]; simp [dirHd, noFile, h0]; rfl
end Go.Proofs.Ytlehgacbcacokaa

/- The contract of the document's example. -/
namespace Go.Proofs.Ytlehgacbcacokaa
open Go.RowKit TreeMath RealMath

def leafF (s : Nat) : T := .mk (fileHd (some ⟨s + 1, 0, none⟩) 1 [255] false 0) []
def leafT (s : Nat) : T := .mk (dirHd (some ⟨s, 0, none⟩) 1 [[97]] (some ⟨s + 1 + 1, 0, none⟩) 1) [leafF s]
theorem leaf_count (s : Nat) : count (leafT s) = 2 := by unfold leafT leafF; rw [count_mk, allL, allL, all, allL]; rfl
theorem leaf_depth (s : Nat) : depth (leafT s) = 2 := by unfold leafT leafF; rw [depth, depthL, depthL, depth, depthL]; rfl
theorem leaf_size (s : Nat) : size (leafT s) = 1 := by unfold size leafT leafF; rw [all, allL, allL, all, allL]; rfl
theorem leaf_right (s : Nat) : rightB (leafT s) = true := by
  have h1 : fitsB (leafF s) = true := by unfold leafF; rw [fits_file]; rfl
  have h2 : fitsB (leafT s) = true := by
    have : namesOk [[97]] = true := by decide
    unfold leafT; rw [fits_dir, this]; rfl
  unfold rightB
  rw [leaf_count, leaf_depth]
  have : all (leafT s) = [leafT s, leafF s] := by unfold leafT leafF; rw [all, allL, allL, all, allL]; rfl
  rw [this]; simp [h1, h2]
theorem leaf_ok (w W : World) (h0 : Blk W w.heap.size 9 [vs [97]]) (h1 : Blk W (w.heap.size + 1) 5 [vb 255]) (h2 : Blk W (w.heap.size + 1 + 1) 27 (cellsT (leafF w.heap.size))) : Ok W W.heap.size (leafT w.heap.size) := by
  refine ok_dir _ _ _ _ _ _ (Blk.strs (tl := []) (by simpa using h0)) (fun _ a ha => by cases ha; exact h0.lt) (fun h => by cases h) (by simp) (by unfold maxLen; simp) (fun t ht => by simp at ht; subst ht; unfold maxLen; simp) (fun h => by cases h) (by unfold maxLen; simp) (by simp) (Blk.kid _ h2 h2.lt) ?_
  intro k hk
  obtain rfl : k = leafF w.heap.size := by simpa using hk
  exact ok_file _ _ _ _ _ (Blk.src (tl := []) (by simpa using h1)) (fun _ a ha => by cases ha; exact h1.lt) (fun h => by cases h) (by simp) (by unfold maxLen; simp) (by omega)
set_option maxHeartbeats 2000000 in
theorem leaf_any (w : World) : Calls Try.prog 14 #[] w fun e w' => e = .returned (.bool true) ∧ Below w.heap.size w w' := by
  go_enter Try.func14, Try.ntmps14
  go_upto_region 2 with fail
  have g0 := (((Blk.new w 9 #[vs [97]]).alloc (.cells #[vb 255] 5)).alloc (.cells (cellsT (leafF w.heap.size)).toArray 27)).alloc (.cells (cellsT (leafT w.heap.size)).toArray 27)
  have g1 := ((Blk.new (w.alloc (.cells #[vs [97]] 9)) 5 #[vb 255]).alloc (.cells (cellsT (leafF w.heap.size)).toArray 27)).alloc (.cells (cellsT (leafT w.heap.size)).toArray 27)
  have g2 := (Blk.new ((w.alloc (.cells #[vs [97]] 9)).alloc (.cells #[vb 255] 5)) 27 (cellsT (leafF w.heap.size)).toArray).alloc (.cells (cellsT (leafT w.heap.size)).toArray 27)
  have g3 := Blk.new (((w.alloc (.cells #[vs [97]] 9)).alloc (.cells #[vb 255] 5)).alloc (.cells (cellsT (leafF w.heap.size)).toArray 27)) 27 (cellsT (leafT w.heap.size)).toArray
  have hB : Below w.heap.size w ((((w.alloc (.cells #[vs [97]] 9)).alloc (.cells #[vb 255] 5)).alloc (.cells (cellsT (leafF w.heap.size)).toArray 27)).alloc (.cells (cellsT (leafT w.heap.size)).toArray 27)) :=
    ((((Below.refl _ _).alloc (Nat.le_refl _) _).alloc (by simp) _).alloc (by simp; omega) _).alloc (by simp; omega) _
  have hs : ((((w.alloc (.cells #[vs [97]] 9)).alloc (.cells #[vb 255] 5)).alloc (.cells (cellsT (leafF w.heap.size)).toArray 27)).alloc (.cells (cellsT (leafT w.heap.size)).toArray 27)).heap.size = w.heap.size + 4 := by simp
  change Code.wp _ _ _ _ ((((w.alloc (.cells #[vs [97]] 9)).alloc (.cells #[vb 255] 5)).alloc (.cells (cellsT (leafF w.heap.size)).toArray 27)).alloc (.cells (cellsT (leafT w.heap.size)).toArray 27))
  simp only [World.size_alloc] at g1 g2 g3
  generalize ((((w.alloc (.cells #[vs [97]] 9)).alloc (.cells #[vb 255] 5)).alloc (.cells (cellsT (leafF w.heap.size)).toArray 27)).alloc (.cells (cellsT (leafT w.heap.size)).toArray 27)) = W1 at *
  have HOK := Lib.hid (leaf_ok w W1 g0 g1 g2)
  have HB := Lib.hid hB; have HS := Lib.hid hs
  have HBOX : Hid (Blk W1 (w.heap.size + 1 + 1 + 1) 27 (cellsT (leafT w.heap.size))) := g3
  clear g0 g1 g2 g3 hB hs
  have key : ∀ W, Below W1.heap.size W1 W → ∀ j, j < 7 → W.cell? ⟨w.heap.size + 1 + 1 + 1, j, none⟩ = (cellsT (leafT w.heap.size))[j]? := fun W hW j _ => (HBOX.out.below hW (by have := HS.out; omega)).cell j
  have HKEY := Lib.hid key; clear key
  have HLC := Lib.hid (leaf_count w.heap.size); have HLD := Lib.hid (leaf_depth w.heap.size); have HLS := Lib.hid (leaf_size w.heap.size); have HLR := Lib.hid (leaf_right w.heap.size)
  have HK : Hid (∀ W, Below W1.heap.size W1 W → W1.heap.size ≤ W.heap.size ∧ Ok W W1.heap.size (leafT w.heap.size)) := fun W hW => ⟨hW.size, HOK.out.keep hW⟩
  have a0 := HKEY.out W1 (Below.refl _ _) 0 (by omega); have a1 := HKEY.out W1 (Below.refl _ _) 1 (by omega); have a2 := HKEY.out W1 (Below.refl _ _) 2 (by omega); have a3 := HKEY.out W1 (Below.refl _ _) 3 (by omega); have a4 := HKEY.out W1 (Below.refl _ _) 4 (by omega); have a5 := HKEY.out W1 (Below.refl _ _) 5 (by omega); have a6 := HKEY.out W1 (Below.refl _ _) 6 (by omega)
  simp only [leafT, cellsT, cellsOf, List.getElem?_cons_zero, List.getElem?_cons_succ] at a0 a1 a2 a3 a4 a5 a6
  go_wp2_with fail
  refine (count_any (dirHd (some ⟨w.heap.size, 0, none⟩) 1 [[97]] (some ⟨w.heap.size + 1 + 1, 0, none⟩) 1) [leafF w.heap.size] W1.heap.size W1 (Nat.le_refl _) (HK.out _ (Below.refl _ _)).2 (by have := HLC.out; unfold leafT at this; omega)).mono ?_
  rintro e w1 ⟨he, hb⟩
  obtain rfl : e = .returned (.int .i64 2) := by rw [he]; unfold leafT at HLC; rw [HLC.out]; rfl
  have HB1 := Lib.hid hb
  clear he hb a0 a1 a2 a3 a4 a5 a6
  have a0 := HKEY.out w1 HB1.out 0 (by omega); have a1 := HKEY.out w1 HB1.out 1 (by omega); have a2 := HKEY.out w1 HB1.out 2 (by omega); have a3 := HKEY.out w1 HB1.out 3 (by omega); have a4 := HKEY.out w1 HB1.out 4 (by omega); have a5 := HKEY.out w1 HB1.out 5 (by omega); have a6 := HKEY.out w1 HB1.out 6 (by omega)
  simp only [leafT, cellsT, cellsOf, List.getElem?_cons_zero, List.getElem?_cons_succ] at a0 a1 a2 a3 a4 a5 a6
  go_wp2_with fail
  refine (depth_any (dirHd (some ⟨w.heap.size, 0, none⟩) 1 [[97]] (some ⟨w.heap.size + 1 + 1, 0, none⟩) 1) [leafF w.heap.size] W1.heap.size w1 (HK.out _ HB1.out).1 (HK.out _ HB1.out).2 (by have := HLC.out; unfold leafT at this; omega)).mono ?_
  rintro e w2 ⟨he, hb⟩
  obtain rfl : e = .returned (.int .i64 2) := by rw [he]; unfold leafT at HLD; rw [HLD.out]; rfl
  have HB2 : Hid (Below W1.heap.size W1 w2) := HB1.out.trans (hb.mono HB1.out.size)
  clear he hb a0 a1 a2 a3 a4 a5 a6
  have a0 := HKEY.out w2 HB2.out 0 (by omega); have a1 := HKEY.out w2 HB2.out 1 (by omega); have a2 := HKEY.out w2 HB2.out 2 (by omega); have a3 := HKEY.out w2 HB2.out 3 (by omega); have a4 := HKEY.out w2 HB2.out 4 (by omega); have a5 := HKEY.out w2 HB2.out 5 (by omega); have a6 := HKEY.out w2 HB2.out 6 (by omega)
  simp only [leafT, cellsT, cellsOf, List.getElem?_cons_zero, List.getElem?_cons_succ] at a0 a1 a2 a3 a4 a5 a6
  go_wp2_with fail
  refine (size_any (dirHd (some ⟨w.heap.size, 0, none⟩) 1 [[97]] (some ⟨w.heap.size + 1 + 1, 0, none⟩) 1) [leafF w.heap.size] W1.heap.size w2 (HK.out _ HB2.out).1 (HK.out _ HB2.out).2 (by have := HLC.out; unfold leafT at this; omega) (by have := HLS.out; unfold leafT at this; omega)).mono ?_
  rintro e w3 ⟨he, hb⟩
  obtain rfl : e = .returned (.int .i64 1) := by rw [he]; unfold leafT at HLS; rw [HLS.out]; rfl
  have HB3 : Hid (Below W1.heap.size W1 w3) := HB2.out.trans (hb.mono HB2.out.size)
  clear he hb a0 a1 a2 a3 a4 a5 a6
  have a0 := HKEY.out w3 HB3.out 0 (by omega); have a1 := HKEY.out w3 HB3.out 1 (by omega); have a2 := HKEY.out w3 HB3.out 2 (by omega); have a3 := HKEY.out w3 HB3.out 3 (by omega); have a4 := HKEY.out w3 HB3.out 4 (by omega); have a5 := HKEY.out w3 HB3.out 5 (by omega); have a6 := HKEY.out w3 HB3.out 6 (by omega)
  simp only [leafT, cellsT, cellsOf, List.getElem?_cons_zero, List.getElem?_cons_succ] at a0 a1 a2 a3 a4 a5 a6
  go_wp2_with fail
  refine (right_any (dirHd (some ⟨w.heap.size, 0, none⟩) 1 [[97]] (some ⟨w.heap.size + 1 + 1, 0, none⟩) 1) [leafF w.heap.size] W1.heap.size w3 (HK.out _ HB3.out).1 (HK.out _ HB3.out).2 (by have := HLC.out; unfold leafT at this; omega)).mono ?_
  rintro e w4 ⟨he, hb⟩
  obtain rfl : e = .returned (.bool true) := by rw [he]; unfold leafT at HLR; rw [HLR.out]
  have HB4 : Hid (Below w.heap.size w w4) := HB.out.trans ((HB3.out.trans (hb.mono HB3.out.size)).mono (by have := HS.out; omega))
  clear he hb a0 a1 a2 a3 a4 a5 a6
  go_wp2_with fail
  go_ret
  exact ⟨rfl, HB4.out⟩
end Go.Proofs.Ytlehgacbcacokaa
