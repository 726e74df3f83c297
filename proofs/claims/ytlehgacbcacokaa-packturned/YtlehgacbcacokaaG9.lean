/- Nodes of each kind, as they are laid. -/
import Derived.Test.YtlehgacbcacokaaG2
import Derived.Test.YtlehgacbcacokaaG8
import Derived.Deep.CutBlock
import Derived.Test.YtlehgacbcacokaaG6
namespace Go.Proofs.Ytlehgacbcacokaa
open Go.RowKit TreeMath

def fileHd (da : Option Addr) (dc : Nat) (data : List By) (run : Bool) (stamp : Nat) : Hd := ⟨2, none, 0, [], none, 0, da, dc, data, run, stamp, []⟩
def linkHd (target : List By) : Hd := ⟨3, none, 0, [], none, 0, none, 0, [], false, 0, target⟩
def dirHd (na : Option Addr) (nc : Nat) (names : List (List By)) (ka : Option Addr) (kc : Nat) : Hd := ⟨1, na, nc, names, ka, kc, none, 0, [], false, 0, []⟩
theorem ok_file {w : World} {top : Nat} (da : Option Addr) (dc : Nat) (data : List By) (run : Bool) (stamp : Nat) (h1 : SrcIs w da data) (h2 : 0 < data.length → ∀ a, da = some a → a.block < top)
    (h3 : da = none → dc = 0) (h4 : data.length ≤ dc) (h5 : data.length ≤ maxLen) (h6 : stamp < 18446744073709551616) : Ok w top (.mk (fileHd da dc data run stamp) []) :=
  .mk _ _ ⟨fun h => absurd h (by simp [fileHd]), fun h => absurd h (by simp [fileHd]), fun _ => rfl, by simp [fileHd], by simp [fileHd], by simp [fileHd], h1, h2, h3, h4, h5, h6, by simp [fileHd], fun _ => rfl⟩ (by simp) (by simp) (fun h => absurd h (by simp)) (fun k hk => by cases hk)
theorem ok_link {w : World} {top : Nat} (target : List By) (h : target.length ≤ maxLen) : Ok w top (.mk (linkHd target) []) :=
  .mk _ _ ⟨fun h => absurd h (by simp [linkHd]), fun h => absurd h (by simp [linkHd]), fun _ => rfl, by simp [linkHd], by simp [linkHd], by simp [linkHd], fun h => absurd h (by simp [linkHd]), fun h => absurd h (by simp [linkHd]), fun _ => rfl, by simp [linkHd], by simp [linkHd], by simp [linkHd], h, fun _ => rfl⟩ (by simp) (by simp) (fun h => absurd h (by simp)) (fun k hk => by cases hk)
theorem ok_dir {w : World} {top : Nat} (na : Option Addr) (nc : Nat) (names : List (List By)) (ka : Option Addr) (kc : Nat) (ks : List T) (h1 : StrsIs w na names) (h2 : 0 < names.length → ∀ a, na = some a → a.block < top)
    (h3 : na = none → nc = 0) (h4 : names.length ≤ nc) (h5 : names.length ≤ maxLen) (h6 : ∀ t ∈ names, t.length ≤ maxLen) (h7 : ka = none → kc = 0) (h8 : ks.length ≤ maxLen) (h9 : ks.length ≤ kc) (h10 : KidsAt w top ka ks) (h11 : ∀ k ∈ ks, Ok w top k) :
    Ok w top (.mk (dirHd na nc names ka kc) ks) :=
  .mk _ _ ⟨h1, h2, h3, h4, h5, h6, fun h => absurd h (by simp [dirHd]), fun h => absurd h (by simp [dirHd]), fun _ => rfl, by simp [dirHd], by simp [dirHd], by simp [dirHd], by simp [dirHd], h7⟩ h8 h9 h10 h11
theorem Blk.strs {w : World} {g : Nat} {t : TypeId} {ls : List (List By)} {tl : List Value} (h : Blk w g t (ls.map vs ++ tl)) : StrsIs w (some ⟨g, 0, none⟩) ls := fun _ => ⟨g, 0, rfl, fun k hk => by
  rw [Nat.zero_add, h.cell, List.getElem?_append_left (by simpa using hk)]; simp [hk]⟩
theorem Blk.src {w : World} {g : Nat} {l : List By} {tl : List Value} (h : Blk w g 5 (l.map vb ++ tl)) : SrcIs w (some ⟨g, 0, none⟩) l := fun _ => ⟨g, 0, rfl, Blk.bytes h⟩
/-- one node in a row of its own -/
theorem Blk.kid {w : World} {g top : Nat} {t : TypeId} (k : T) (h : Blk w g t (cellsT k)) (hg : g < top) : KidsAt w top (some ⟨g, 0, none⟩) [k] := fun _ => ⟨g, 0, rfl, hg, fun i hi j v hv => by
  have : i = 0 := by simpa using hi
  subst this
  rw [show 0 + 0 * 7 + j = j by omega, h.cell]; exact hv⟩
theorem fits_file (da : Option Addr) (dc : Nat) (data : List By) (run : Bool) (stamp : Nat) : fitsB (.mk (fileHd da dc data run stamp) []) = decide (data.length ≤ 1024) := by
  rw [fitsB]; simp [fileHd]; rfl
theorem fits_link (t : List By) : fitsB (.mk (linkHd t) []) = (decide (1 ≤ t.length) && decide (t.length ≤ 1024)) := by
  have h0 : RealMath.canonB 0 = 0 := by decide
  rw [fitsB]; simp [linkHd, noFile, h0]; rfl
theorem fits_dir (na : Option Addr) (nc : Nat) (names : List (List By)) (ka : Option Addr) (kc : Nat) (ks : List T) : fitsB (.mk (dirHd na nc names ka kc) ks) = (decide (names.length = ks.length) && namesOk names) := by
  have h0 : RealMath.canonB 0 = 0 := by decide
  rw [fitsB]; simp [dirHd, noFile, h0]; rfl
end Go.Proofs.Ytlehgacbcacokaa

/- The contract of the document's example. -/
namespace Go.Proofs.Ytlehgacbcacokaa
open Go.RowKit TreeMath RealMath

def leafF (s : Nat) : T := .mk (fileHd (some ⟨s + 1, 0, none⟩) 1 [255] false 0) []
def leafT (s : Nat) : T := .mk (dirHd (some ⟨s, 0, none⟩) 1 [[97]] (some ⟨s + 1 + 1, 0, none⟩) 1) [leafF s]
theorem leaf_count (s : Nat) : count (leafT s) = 2 := by unfold leafT leafF; rw [count_mk, allL, allL, all, allL]; rfl
theorem leaf_depth (s : Nat) : depth (leafT s) = 2 := by unfold leafT leafF; rw [depth, depthL, depthL, depth, depthL]; rfl
theorem leaf_size (s : Nat) : size (leafT s) = 1 := by unfold size leafT leafF; rw [all, allL, allL, all, allL]; rfl
theorem leaf_right (s : Nat) : rightB (leafT s) = true := by
  have h1 : fitsB (leafF s) = true := by unfold leafF; rw [fits_file]; rfl
  have h2 : fitsB (leafT s) = true := by
    have : namesOk [[97]] = true := by decide
    unfold leafT; rw [fits_dir, this]; rfl
  unfold rightB
  rw [leaf_count, leaf_depth]
  have : all (leafT s) = [leafT s, leafF s] := by unfold leafT leafF; rw [all, allL, allL, all, allL]; rfl
  rw [this]; simp [h1, h2]
theorem leaf_ok (w W : World) (h0 : Blk W w.heap.size 9 [vs [97]]) (h1 : Blk W (w.heap.size + 1) 5 [vb 255]) (h2 : Blk W (w.heap.size + 1 + 1) 27 (cellsT (leafF w.heap.size))) : Ok W W.heap.size (leafT w.heap.size) := by
  refine ok_dir _ _ _ _ _ _ (Blk.strs (tl := []) (by simpa using h0)) (fun _ a ha => by cases ha; exact h0.lt) (fun h => by cases h) (by simp) (by unfold maxLen; simp) (fun t ht => by simp at ht; subst ht; unfold maxLen; simp) (fun h => by cases h) (by unfold maxLen; simp) (by simp) (Blk.kid _ h2 h2.lt) ?_
  intro k hk
  obtain rfl : k = leafF w.heap.size := by simpa using hk
  exact ok_file _ _ _ _ _ (Blk.src (tl := []) (by simpa using h1)) (fun _ a ha => by cases ha; exact h1.lt) (fun h => by cases h) (by simp) (by unfold maxLen; simp) (by omega)
set_option maxHeartbeats 2000000 in
theorem leaf_any (w : World) : Calls Try.prog 14 #[] w fun e w' => e = .returned (.bool true) ∧ Below w.heap.size w w' := by
  go_enter Try.func14, Try.ntmps14
  go_upto_region 2 with fail
  have g0 := (((Blk.new w 9 #[vs [97]]).alloc (.cells #[vb 255] 5)).alloc (.cells (cellsT (leafF w.heap.size)).toArray 27)).alloc (.cells (cellsT (leafT w.heap.size)).toArray 27)
  have g1 := ((Blk.new (w.alloc (.cells #[vs [97]] 9)) 5 #[vb 255]).alloc (.cells (cellsT (leafF w.heap.size)).toArray 27)).alloc (.cells (cellsT (leafT w.heap.size)).toArray 27)
  have g2 := (Blk.new ((w.alloc (.cells #[vs [97]] 9)).alloc (.cells #[vb 255] 5)) 27 (cellsT (leafF w.heap.size)).toArray).alloc (.cells (cellsT (leafT w.heap.size)).toArray 27)
  have g3 := Blk.new (((w.alloc (.cells #[vs [97]] 9)).alloc (.cells #[vb 255] 5)).alloc (.cells (cellsT (leafF w.heap.size)).toArray 27)) 27 (cellsT (leafT w.heap.size)).toArray
  have hB : Below w.heap.size w ((((w.alloc (.cells #[vs [97]] 9)).alloc (.cells #[vb 255] 5)).alloc (.cells (cellsT (leafF w.heap.size)).toArray 27)).alloc (.cells (cellsT (leafT w.heap.size)).toArray 27)) :=
    ((((Below.refl _ _).alloc (Nat.le_refl _) _).alloc (by simp) _).alloc (by simp; omega) _).alloc (by simp; omega) _
  have hs : ((((w.alloc (.cells #[vs [97]] 9)).alloc (.cells #[vb 255] 5)).alloc (.cells (cellsT (leafF w.heap.size)).toArray 27)).alloc (.cells (cellsT (leafT w.heap.size)).toArray 27)).heap.size = w.heap.size + 4 := by simp
  change Code.wp _ _ _ _ ((((w.alloc (.cells #[vs [97]] 9)).alloc (.cells #[vb 255] 5)).alloc (.cells (cellsT (leafF w.heap.size)).toArray 27)).alloc (.cells (cellsT (leafT w.heap.size)).toArray 27))
  simp only [World.size_alloc] at g1 g2 g3
  generalize ((((w.alloc (.cells #[vs [97]] 9)).alloc (.cells #[vb 255] 5)).alloc (.cells (cellsT (leafF w.heap.size)).toArray 27)).alloc (.cells (cellsT (leafT w.heap.size)).toArray 27)) = W1 at *
  have HOK := Lib.hid (leaf_ok w W1 g0 g1 g2)
  have HB := Lib.hid hB; have HS := Lib.hid hs
  have HBOX : Hid (Blk W1 (w.heap.size + 1 + 1 + 1) 27 (cellsT (leafT w.heap.size))) := g3
  clear g0 g1 g2 g3 hB hs
  have key : ∀ W, Below W1.heap.size W1 W → ∀ j, j < 7 → W.cell? ⟨w.heap.size + 1 + 1 + 1, j, none⟩ = (cellsT (leafT w.heap.size))[j]? := fun W hW j _ => (HBOX.out.below hW (by have := HS.out; omega)).cell j
  have HKEY := Lib.hid key; clear key
  have HLC := Lib.hid (leaf_count w.heap.size); have HLD := Lib.hid (leaf_depth w.heap.size); have HLS := Lib.hid (leaf_size w.heap.size); have HLR := Lib.hid (leaf_right w.heap.size)
  have HK : Hid (∀ W, Below W1.heap.size W1 W → W1.heap.size ≤ W.heap.size ∧ Ok W W1.heap.size (leafT w.heap.size)) := fun W hW => ⟨hW.size, HOK.out.keep hW⟩
  have a0 := HKEY.out W1 (Below.refl _ _) 0 (by omega); have a1 := HKEY.out W1 (Below.refl _ _) 1 (by omega); have a2 := HKEY.out W1 (Below.refl _ _) 2 (by omega); have a3 := HKEY.out W1 (Below.refl _ _) 3 (by omega); have a4 := HKEY.out W1 (Below.refl _ _) 4 (by omega); have a5 := HKEY.out W1 (Below.refl _ _) 5 (by omega); have a6 := HKEY.out W1 (Below.refl _ _) 6 (by omega)
  simp only [leafT, cellsT, cellsOf, List.getElem?_cons_zero, List.getElem?_cons_succ] at a0 a1 a2 a3 a4 a5 a6
  go_wp2_with fail
  refine (count_any (dirHd (some ⟨w.heap.size, 0, none⟩) 1 [[97]] (some ⟨w.heap.size + 1 + 1, 0, none⟩) 1) [leafF w.heap.size] W1.heap.size W1 (Nat.le_refl _) (HK.out _ (Below.refl _ _)).2 (by have := HLC.out; unfold leafT at this; omega)).mono ?_
  rintro e w1 ⟨he, hb⟩
  obtain rfl : e = .returned (.int .i64 2) := by rw [he]; unfold leafT at HLC; rw [HLC.out]; rfl
  have HB1 := Lib.hid hb
  clear he hb a0 a1 a2 a3 a4 a5 a6
  have a0 := HKEY.out w1 HB1.out 0 (by omega); have a1 := HKEY.out w1 HB1.out 1 (by omega); have a2 := HKEY.out w1 HB1.out 2 (by omega); have a3 := HKEY.out w1 HB1.out 3 (by omega); have a4 := HKEY.out w1 HB1.out 4 (by omega); have a5 := HKEY.out w1 HB1.out 5 (by omega); have a6 := HKEY.out w1 HB1.out 6 (by omega)
  simp only [leafT, cellsT, cellsOf, List.getElem?_cons_zero, List.getElem?_cons_succ] at a0 a1 a2 a3 a4 a5 a6
  go_wp2_with fail
  refine (depth_any (dirHd (some ⟨w.heap.size, 0, none⟩) 1 [[97]] (some ⟨w.heap.size + 1 + 1, 0, none⟩) 1) [leafF w.heap.size] W1.heap.size w1 (HK.out _ HB1.out).1 (HK.out _ HB1.out).2 (by have := HLC.out; unfold leafT at this; omega)).mono ?_
  rintro e w2 ⟨he, hb⟩
  obtain rfl : e = .returned (.int .i64 2) := by rw [he]; unfold leafT at HLD; rw [HLD.out]; rfl
  have HB2 : Hid (Below W1.heap.size W1 w2) := HB1.out.trans (hb.mono HB1.out.size)
  clear he hb a0 a1 a2 a3 a4 a5 a6
  have a0 := HKEY.out w2 HB2.out 0 (by omega); have a1 := HKEY.out w2 HB2.out 1 (by omega); have a2 := HKEY.out w2 HB2.out 2 (by omega); have a3 := HKEY.out w2 HB2.out 3 (by omega); have a4 := HKEY.out w2 HB2.out 4 (by omega); have a5 := HKEY.out w2 HB2.out 5 (by omega); have a6 := HKEY.out w2 HB2.out 6 (by omega)
  simp only [leafT, cellsT, cellsOf, List.getElem?_cons_zero, List.getElem?_cons_succ] at a0 a1 a2 a3 a4 a5 a6
  go_wp2_with fail
  refine (size_any (dirHd (some ⟨w.heap.size, 0, none⟩) 1 [[97]] (some ⟨w.heap.size + 1 + 1, 0, none⟩) 1) [leafF w.heap.size] W1.heap.size w2 (HK.out _ HB2.out).1 (HK.out _ HB2.out).2 (by have := HLC.out; unfold leafT at this; omega) (by have := HLS.out; unfold leafT at this; omega)).mono ?_
  rintro e w3 ⟨he, hb⟩
  obtain rfl : e = .returned (.int .i64 1) := by rw [he]; unfold leafT at HLS; rw [HLS.out]; rfl
  have HB3 : Hid (Below W1.heap.size W1 w3) := HB2.out.trans (hb.mono HB2.out.size)
  clear he hb a0 a1 a2 a3 a4 a5 a6
  have a0 := HKEY.out w3 HB3.out 0 (by omega); have a1 := HKEY.out w3 HB3.out 1 (by omega); have a2 := HKEY.out w3 HB3.out 2 (by omega); have a3 := HKEY.out w3 HB3.out 3 (by omega); have a4 := HKEY.out w3 HB3.out 4 (by omega); have a5 := HKEY.out w3 HB3.out 5 (by omega); have a6 := HKEY.out w3 HB3.out 6 (by omega)
  simp only [leafT, cellsT, cellsOf, List.getElem?_cons_zero, List.getElem?_cons_succ] at a0 a1 a2 a3 a4 a5 a6
  go_wp2_with fail
  refine (right_any (dirHd (some ⟨w.heap.size, 0, none⟩) 1 [[97]] (some ⟨w.heap.size + 1 + 1, 0, none⟩) 1) [leafF w.heap.size] W1.heap.size w3 (HK.out _ HB3.out).1 (HK.out _ HB3.out).2 (by have := HLC.out; unfold leafT at this; omega)).mono ?_
  rintro e w4 ⟨he, hb⟩
  obtain rfl : e = .returned (.bool true) := by rw [he]; unfold leafT at HLR; rw [HLR.out]
  have HB4 : Hid (Below w.heap.size w w4) := HB.out.trans ((HB3.out.trans (hb.mono HB3.out.size)).mono (by have := HS.out; omega))
  clear he hb a0 a1 a2 a3 a4 a5 a6
  go_wp2_with fail
  go_ret
  exact ⟨rfl, HB4.out⟩
end Go.Proofs.Ytlehgacbcacokaa

/- The contract of great. -/
namespace Go.Proofs.Ytlehgacbcacokaa
open Go.RowKit TreeMath RealMath

def tooMuch (x : Hd) : Bool := decide (3000 < x.data.length) || decide (3000 < x.target.length) || decide (200 < x.names.length)
mutual
def greatF : T → Int → Int
  | .mk x ks, l => if (decide (l - 1 < 0) || tooMuch x) = true then -1 else greatL ks (l - 1)
def greatL : List T → Int → Int
  | [], l => l
  | k :: r, l => if 0 ≤ l then greatL r (greatF k l) else l
end
theorem greatL_neg {l : Int} (h : l < 0) : ∀ ks : List T, greatL ks l = l
  | [] => by rw [greatL]
  | k :: r => by rw [greatL, if_neg (by omega)]
mutual
theorem greatF_le : ∀ (t : T) (l : Int), 0 ≤ l → -1 ≤ greatF t l ∧ greatF t l ≤ l
  | .mk x ks, l, h => by
    rw [greatF]
    split
    · omega
    · rename_i hc
      simp only [Bool.or_eq_true, not_or, decide_eq_true_eq] at hc
      have := greatL_le ks (l - 1) (by omega)
      omega
theorem greatL_le : ∀ (ks : List T) (l : Int), -1 ≤ l → -1 ≤ greatL ks l ∧ greatL ks l ≤ l
  | [], l, h => by rw [greatL]; omega
  | k :: r, l, h => by
    rw [greatL]
    split
    · have h1 := greatF_le k l (by omega)
      have h2 := greatL_le r (greatF k l) (by omega)
      omega
    · omega
end
mutual
theorem greatF_ok : ∀ (t : T) (l : Int), 0 ≤ greatF t l → (count t : Int) + greatF t l ≤ l ∧ ∀ k ∈ all t, tooMuch k.hd = false
  | .mk x ks, l, h => by
    rw [greatF] at h ⊢
    split at h
    · omega
    · rename_i hc
      rw [if_neg hc]
      simp only [Bool.or_eq_true, not_or, Bool.not_eq_true] at hc
      have h1 := greatL_ok ks (l - 1) h
      rw [count_mk, all]
      refine ⟨by omega, fun k hk => ?_⟩
      rcases List.mem_cons.1 hk with e | e
      · subst e; exact hc.2
      · exact h1.2 k e
theorem greatL_ok : ∀ (ks : List T) (l : Int), 0 ≤ greatL ks l → ((allL ks).length : Int) + greatL ks l ≤ l ∧ ∀ k ∈ allL ks, tooMuch k.hd = false
  | [], l, h => by rw [greatL, allL]; simp
  | k :: r, l, h => by
    rw [greatL] at h ⊢
    split at h
    · rename_i hl
      rw [if_pos hl]
      have h2 := greatL_ok r _ h
      by_cases hk : 0 ≤ greatF k l
      · have h1 := greatF_ok k l hk
        rw [allL, List.length_append]
        refine ⟨by have := h1.1; unfold count at this; omega, fun j hj => ?_⟩
        rcases List.mem_append.1 hj with e | e
        · exact h1.2 j e
        · exact h2.2 j e
      · rw [greatL_neg (by omega)] at h; omega
    · omega
end
def GreatOf (top : Nat) (t : T) : Prop := ∀ (l : Int) (w : World), top ≤ w.heap.size → Ok w top t → 0 ≤ l → l ≤ 300 → Calls Try.prog 15 #[val t, .int .i64 l] w fun e w' => e = .returned (.int .i64 (greatF t l)) ∧ Below w.heap.size w w'
set_option maxHeartbeats 4000000 in
theorem great_of (top : Nat) : ∀ t, GreatOf top t := by
  refine T.ind fun x ks IH => ?_
  intro l w htop hok h0 h3
  show Calls Try.prog 15 #[nv x ks.length, .int .i64 l] w _
  have hlen := hok.len
  have hnl := hok.hd.nlen; have hdl := hok.hd.dlen; have htl := hok.hd.tlen
  unfold maxLen at hlen hnl hdl htl
  have HIH := Lib.hid IH; have HOK := Lib.hid hok
  have HG : Hid (greatF (.mk x ks) l = if (decide (l - 1 < 0) || tooMuch x) = true then -1 else greatL ks (l - 1)) := by show _ = _; rw [greatF]
  clear IH hok
  have HB : Hid (∀ box, Below w.heap.size w (w.alloc box)) := fun box => (Below.refl _ _).alloc (Nat.le_refl _) _
  cases hc : (decide (l - 1 < 0) || tooMuch x) with
  | true =>
    rw [hc] at HG
    by_cases h1 : l - 1 < 0
    · have h1' : decide (l - 1 < 0) = true := decide_eq_true h1
      clear hc
      go_enter Try.func15, Try.ntmps15
      go_wp2_with fail
      go_ret
      exact ⟨ret_int (by rw [HG.out]; rfl), HB.out _⟩
    · have h1' : decide (l - 1 < 0) = false := decide_eq_false h1
      rw [h1', Bool.false_or] at hc
      unfold tooMuch at hc
      by_cases g1 : 3000 < x.data.length
      · have g1' : decide ((3000 : Int) < x.data.length) = true := decide_eq_true (by omega)
        clear hc
        go_enter Try.func15, Try.ntmps15
        go_wp2_with fail
        go_ret
        exact ⟨ret_int (by rw [HG.out]; rfl), HB.out _⟩
      · have g1' : decide ((3000 : Int) < x.data.length) = false := decide_eq_false (by omega)
        rw [decide_eq_false g1, Bool.false_or] at hc
        by_cases g2 : 3000 < x.target.length
        · have g2' : decide ((3000 : Int) < x.target.length) = true := decide_eq_true (by omega)
          clear hc
          go_enter Try.func15, Try.ntmps15
          go_wp2_with fail
          go_ret
          exact ⟨ret_int (by rw [HG.out]; rfl), HB.out _⟩
        · have g2' : decide ((3000 : Int) < x.target.length) = false := decide_eq_false (by omega)
          rw [decide_eq_false g2, Bool.false_or] at hc
          have g3 := of_decide_eq_true hc
          have g3' : decide ((200 : Int) < x.names.length) = true := decide_eq_true (by omega)
          clear hc
          go_enter Try.func15, Try.ntmps15
          go_wp2_with fail
          go_ret
          exact ⟨ret_int (by rw [HG.out]; rfl), HB.out _⟩
  | false =>
    rw [hc] at HG
    have HG' : Hid (greatF (.mk x ks) l = greatL ks (l - 1)) := by show _ = _; rw [HG.out]; rfl
    clear HG
    unfold tooMuch at hc
    simp only [Bool.or_eq_false_iff, decide_eq_false_iff_not] at hc
    obtain ⟨h1, ⟨g1, g2⟩, g3⟩ := hc
    have h1' : decide (l - 1 < 0) = false := decide_eq_false h1
    have g1' : decide ((3000 : Int) < x.data.length) = false := decide_eq_false (by omega)
    have g2' : decide ((3000 : Int) < x.target.length) = false := decide_eq_false (by omega)
    have g3' : decide ((200 : Int) < x.names.length) = false := decide_eq_false (by omega)
    go_enter Try.func15, Try.ntmps15
    go_wp2_with fail
    have hbox := Blk.new w 27 #[vb x.kind, .slice x.na x.names.length x.nc, .slice x.ka ks.length x.kc, .slice x.da x.data.length x.dc, .bool x.run, .float .f64 x.stamp, vs x.target]
    have hB1 : Below w.heap.size w (w.alloc (.cells #[vb x.kind, .slice x.na x.names.length x.nc, .slice x.ka ks.length x.kc, .slice x.da x.data.length x.dc, .bool x.run, .float .f64 x.stamp, vs x.target] 27)) := HB.out _
    have hs1 : (w.alloc (.cells #[vb x.kind, .slice x.na x.names.length x.nc, .slice x.ka ks.length x.kc, .slice x.da x.data.length x.dc, .bool x.run, .float .f64 x.stamp, vs x.target] 27)).heap.size = w.heap.size + 1 := by simp
    generalize w.alloc (.cells #[vb x.kind, .slice x.na x.names.length x.nc, .slice x.ka ks.length x.kc, .slice x.da x.data.length x.dc, .bool x.run, .float .f64 x.stamp, vs x.target] 27) = W1 at *
    have HBOX := Lib.hid hbox; have HB1 := Lib.hid hB1; have HS1 := Lib.hid hs1
    clear hbox hB1 HB hs1 g1' g2' g3' h1'
    go_loopw [1, 5] (fun vl vi wr => ∃ (i : Nat) (m : Int), i ≤ ks.length ∧ vi = .int .i64 i ∧ -1 ≤ m ∧ m ≤ 300 ∧ vl = .int .i64 m ∧ Hid (greatL (ks.drop i) m = greatL ks (l - 1)) ∧ Hid (Below (w.heap.size + 1) W1 wr)) (fun _ vi _ => ks.length - (intOf vi).toNat)
    case atStart => exact ⟨0, l - 1, Nat.zero_le _, rfl, by omega, by omega, rfl, Lib.hid (by simp), Below.refl _ _⟩
    case round =>
      obtain ⟨i, m, hi, rfl, hm1, hm3, rfl, HD0, HP⟩ := hrel
      rename World => W0
      have hb2 := (HBOX.out.below HP.out (by omega)).cell 2
      simp only [List.getElem?_cons_zero, List.getElem?_cons_succ] at hb2
      by_cases hlt : i < ks.length
      · have hlt' : decide ((i : Int) < ks.length) = true := decide_eq_true (by omega)
        by_cases hm0 : 0 ≤ m
        · have hm0' : decide ((0 : Int) ≤ m) = true := decide_eq_true hm0
          have hbt : Below top w W0 := (HB1.out.mono htop).trans (HP.out.mono (by omega))
          obtain ⟨a, oa, y, ly, hAe, hat, hy, hca⟩ := HOK.out.at.cells i hlt
          have hc := hca.same (hbt.block a hat)
          obtain ⟨a0, a1, a2, a3, a4, a5, a6⟩ := hc.seven
          have hsz : w.heap.size + 1 ≤ W0.heap.size := by have := HP.out.size; have := HS1.out; omega
          have HC : Hid (Calls Try.prog 15 #[nv y ly.length, .int .i64 m] W0 fun e w' => e = .returned (.int .i64 (greatF ks[i] m)) ∧ Below W0.heap.size W0 w') := by
            have := HIH.out ks[i] (List.getElem_mem _) m W0 (by omega) ((HOK.out.kid (List.getElem_mem hlt)).keep hbt) hm0 hm3
            rw [hy] at this ⊢; exact this
          have hgl := greatF_le ks[i] m hm0
          have HTK : Hid (greatL (ks.drop (i + 1)) (greatF ks[i] m) = greatL ks (l - 1)) := by
            show _ = _
            rw [← HD0.out, List.drop_eq_getElem_cons hlt, greatL, if_pos hm0]
          have HBE := Lib.hid HP.out
          clear hbt hc hca HP hat HD0
          rw [hAe] at hb2
          clear hAe
          generalize greatF ks[i] m = gm at *
          clear hy
          go_wp2_with fail
          refine HC.out.mono ?_
          rintro e w2 ⟨rfl, hb2'⟩
          have HBE2 : Hid (Below (w.heap.size + 1) W1 w2) := HBE.out.trans (hb2'.mono hsz)
          clear hb2' HC HBE
          go_wp2_with fail
          go_roundw
          case rel => exact ⟨i + 1, gm, by omega, by go_num, by omega, by omega, rfl, HTK.out, HBE2.out⟩
          case measure => simp [intOf]; omega
        · have hm0' : decide ((0 : Int) ≤ m) = false := decide_eq_false hm0
          have HE : Hid (greatL ks (l - 1) = m) := by show _ = _; rw [← HD0.out, greatL_neg (by omega)]
          have HBE : Hid (Below w.heap.size w W0) := HB1.out.trans (HP.out.mono (by omega))
          clear HP HD0
          go_wp2_with fail
          go_ret
          exact ⟨ret_int (by rw [HG'.out, HE.out]), HBE.out⟩
      · have hlt' : decide ((i : Int) < ks.length) = false := decide_eq_false (by omega)
        have HE : Hid (greatL ks (l - 1) = m) := by show _ = _; rw [← HD0.out, List.drop_of_length_le (by omega), greatL]
        have HBE : Hid (Below w.heap.size w W0) := HB1.out.trans (HP.out.mono (by omega))
        clear HP HD0
        go_wp2_with fail
        go_ret
        exact ⟨ret_int (by rw [HG'.out, HE.out]), HBE.out⟩
end Go.Proofs.Ytlehgacbcacokaa
