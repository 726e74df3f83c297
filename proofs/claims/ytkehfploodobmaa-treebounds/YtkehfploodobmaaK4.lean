/- TreeBounds: a tree that grows deeper, step by step. -/
import Derived.Test.YtkehfploodobmaaW14
import Derived.Test.YtkehfploodobmaaK3
namespace Go.Proofs.Ytkehfploodobmaa
open Go.RowKit TreeMath RealMath

structure DeepRel (w : World) (g i : Nat) (t : T) (wr : World) : Prop where
  blk : Blk wr g 27 (cellsT t)
  ok : Ok wr wr.heap.size t
  ins : InS (fun c => g < c) t
  count : count t = i
  depth : depth t = i
  fits : (all t).all fitsB = true
  below : Below g w wr
theorem deep_step {w W0 : World} {g i : Nat} {x : Hd} {ks : List T} (h : DeepRel w g i (.mk x ks) W0) :
    DeepRel w g (i + 1) (.mk (dirHd (some ⟨W0.heap.size, 0, none⟩) 1 [[100]] (some ⟨W0.heap.size + 1, 0, none⟩) 1) [.mk x ks])
      (((set7 W0 g (.int .u8 1) (.slice (some ⟨W0.heap.size, 0, none⟩) 1 1) (.slice (some ⟨W0.heap.size + 1, 0, none⟩) 1 1) (.slice none 0 0) (.bool false) (.float .f64 0) (.string ⟨#[]⟩)).alloc (.cells #[.string ⟨#[100]⟩] 9)).alloc (.cells #[vb x.kind, .slice x.na x.names.length x.nc, .slice x.ka ks.length x.kc, .slice x.da x.data.length x.dc, .bool x.run, .float .f64 x.stamp, vs x.target] 27)) := by
  have hgl := h.blk.lt
  have key := set7_other W0 g (.int .u8 1) (.slice (some ⟨W0.heap.size, 0, none⟩) 1 1) (.slice (some ⟨W0.heap.size + 1, 0, none⟩) 1 1) (.slice none 0 0) (.bool false) (.float .f64 0) (.string ⟨#[]⟩)
  have hsz := set7_size W0 g (.int .u8 1) (.slice (some ⟨W0.heap.size, 0, none⟩) 1 1) (.slice (some ⟨W0.heap.size + 1, 0, none⟩) 1 1) (.slice none 0 0) (.bool false) (.float .f64 0) (.string ⟨#[]⟩)
  have bg' := set7_blk h.blk (by rfl) (.int .u8 1) (.slice (some ⟨W0.heap.size, 0, none⟩) 1 1) (.slice (some ⟨W0.heap.size + 1, 0, none⟩) 1 1) (.slice none 0 0) (.bool false) (.float .f64 0) (.string ⟨#[]⟩)
  have be' := set7_below h.below g (Nat.le_refl _) (.int .u8 1) (.slice (some ⟨W0.heap.size, 0, none⟩) 1 1) (.slice (some ⟨W0.heap.size + 1, 0, none⟩) 1 1) (.slice none 0 0) (.bool false) (.float .f64 0) (.string ⟨#[]⟩)
  generalize (set7 W0 g (.int .u8 1) (.slice (some ⟨W0.heap.size, 0, none⟩) 1 1) (.slice (some ⟨W0.heap.size + 1, 0, none⟩) 1 1) (.slice none 0 0) (.bool false) (.float .f64 0) (.string ⟨#[]⟩)) = W1 at *
  have hok1 : Ok W1 W0.heap.size (.mk x ks) := h.ok.turn h.ins (fun c h1 h2 => key c (by omega)) (fun c h1 h2 => h2)
  have hB : Below W1.heap.size W1 ((W1.alloc (.cells #[.string ⟨#[100]⟩] 9)).alloc (.cells #[vb x.kind, .slice x.na x.names.length x.nc, .slice x.ka ks.length x.kc, .slice x.da x.data.length x.dc, .bool x.run, .float .f64 x.stamp, vs x.target] 27)) := ((Below.refl _ _).alloc (Nat.le_refl _) _).alloc (by simp) _
  have b0 := (Blk.new W1 9 #[vs [100]]).alloc (.cells #[vb x.kind, .slice x.na x.names.length x.nc, .slice x.ka ks.length x.kc, .slice x.da x.data.length x.dc, .bool x.run, .float .f64 x.stamp, vs x.target] 27)
  have b1 := Blk.new (W1.alloc (.cells #[.string ⟨#[100]⟩] 9)) 27 #[vb x.kind, .slice x.na x.names.length x.nc, .slice x.ka ks.length x.kc, .slice x.da x.data.length x.dc, .bool x.run, .float .f64 x.stamp, vs x.target]
  simp only [World.size_alloc] at b1
  rw [hsz] at b0 b1
  have hbe := be'.trans (hB.mono (by omega))
  have bg2 := bg'.below hB (by omega)
  have hok2 : Ok ((W1.alloc (.cells #[.string ⟨#[100]⟩] 9)).alloc (.cells #[vb x.kind, .slice x.na x.names.length x.nc, .slice x.ka ks.length x.kc, .slice x.da x.data.length x.dc, .bool x.run, .float .f64 x.stamp, vs x.target] 27)) W0.heap.size (.mk x ks) := hok1.keep (hB.mono (by omega))
  have hs : ((W1.alloc (.cells #[.string ⟨#[100]⟩] 9)).alloc (.cells #[vb x.kind, .slice x.na x.names.length x.nc, .slice x.ka ks.length x.kc, .slice x.da x.data.length x.dc, .bool x.run, .float .f64 x.stamp, vs x.target] 27)).heap.size = W0.heap.size + 2 := by simp; omega
  replace b0 : Blk ((W1.alloc (.cells #[.string ⟨#[100]⟩] 9)).alloc (.cells #[vb x.kind, .slice x.na x.names.length x.nc, .slice x.ka ks.length x.kc, .slice x.da x.data.length x.dc, .bool x.run, .float .f64 x.stamp, vs x.target] 27)) W0.heap.size 9 [vs [100]] := b0
  replace b1 : Blk ((W1.alloc (.cells #[.string ⟨#[100]⟩] 9)).alloc (.cells #[vb x.kind, .slice x.na x.names.length x.nc, .slice x.ka ks.length x.kc, .slice x.da x.data.length x.dc, .bool x.run, .float .f64 x.stamp, vs x.target] 27)) (W0.heap.size + 1) 27 (cellsT (.mk x ks)) := b1
  generalize (W1.alloc (.cells #[.string ⟨#[100]⟩] 9)).alloc (.cells #[vb x.kind, .slice x.na x.names.length x.nc, .slice x.ka ks.length x.kc, .slice x.da x.data.length x.dc, .bool x.run, .float .f64 x.stamp, vs x.target] 27) = W2 at *
  refine ⟨bg2, ?_, ?_, ?_, ?_, ?_, hbe⟩
  · refine ok_dir _ _ _ _ _ _ (Blk.strs (tl := []) (by simpa using b0)) (fun _ a ha => by cases ha; exact b0.lt) (fun h => by cases h) (by simp) (by unfold maxLen; simp) (fun t ht => by simp at ht; subst ht; unfold maxLen; simp) (fun h => by cases h) (by unfold maxLen; simp) (by simp) (Blk.kid _ b1 b1.lt) ?_
    intro k hk
    obtain rfl : k = .mk x ks := by simpa using hk
    exact hok2.up (by omega)
  · refine inS_dir _ _ _ _ _ _ _ (fun _ a ha => by cases ha; exact hgl) (fun _ a ha => by cases ha; show g < W0.heap.size + 1; omega) ?_
    intro k hk
    obtain rfl : k = .mk x ks := by simpa using hk
    exact h.ins
  · rw [count_mk, allL, allL, List.append_nil]; have := h.count; unfold TreeMath.count at this; omega
  · rw [TreeMath.depth, depthL, depthL]; have := h.depth; omega
  · have h1 := h.fits
    have : namesOk [[100]] = true := by decide
    rw [all, allL, allL, List.append_nil, List.all_cons, h1, fits_dir, this]; rfl
def wname (i : Nat) : List By := [UInt8.ofNat (97 + i / 10), UInt8.ofNat (48 + i % 10)]
def wnames (k : Nat) : List (List By) := (List.range k).map wname
def fileZ : T := .mk (fileHd none 0 [] false 0) []
structure WideRel (w : World) (i j : Nat) (vn vk : Value) (wr : World) : Prop where
  blk : Blk wr w.heap.size 27 [.int .u8 1, vn, vk, .slice none 0 0, .bool false, .float .f64 0, .string ⟨#[]⟩]
  names : Strs wr (w.heap.size + 1) vn (wnames i)
  kids : Nodes wr (w.heap.size + 1) vk (List.replicate j fileZ)
  below : Below w.heap.size w wr
theorem wide_start (w : World) : WideRel w 0 0 (.slice none 0 0) (.slice none 0 0) (w.alloc (.cells #[.int .u8 1, .slice none 0 0, .slice none 0 0, .slice none 0 0, .bool false, .float .f64 0, .string ⟨#[]⟩] 27)) :=
  ⟨Blk.new w 27 _, strs_nil _ _, nodes_nil _ _, (Below.refl _ _).alloc (Nat.le_refl _) _⟩
theorem WideRel.alloc {w wr : World} {i j : Nat} {vn vk : Value} (h : WideRel w i j vn vk wr) (o : Obj) : WideRel w i j vn vk (wr.alloc o) :=
  ⟨h.blk.alloc o, h.names.alloc o, h.kids.alloc o, h.below.alloc (Nat.le_of_lt h.blk.lt) o⟩
theorem wide_blk_n {w W w' : World} {i j : Nat} {vn vk : Value} (h : WideRel w i j vn vk W) (hg : W.grownBy w' vn.ownBlock) : Blk w' w.heap.size 27 [.int .u8 1, vn, vk, .slice none 0 0, .bool false, .float .f64 0, .string ⟨#[]⟩] := by
  unfold Blk; rw [hg.block _ h.blk.lt (fun e => by have := (h.names.lt _ e.symm).1; omega)]; exact h.blk
theorem wide_blk_k {w W w' : World} {i j : Nat} {vn vk : Value} (h : WideRel w i j vn vk W) (hg : W.grownBy w' vk.ownBlock) : Blk w' w.heap.size 27 [.int .u8 1, vn, vk, .slice none 0 0, .bool false, .float .f64 0, .string ⟨#[]⟩] := by
  unfold Blk; rw [hg.block _ h.blk.lt (fun e => by have := (h.kids.lt _ e.symm).1; omega)]; exact h.blk
theorem wnames_succ (i : Nat) : wnames (i + 1) = wnames i ++ [wname i] := by unfold wnames; rw [List.range_succ, List.map_append]; rfl
theorem wide_names {w W w' : World} {i j : Nat} {vn vk v' : Value} (h : WideRel w i j vn vk W) (hn : Strs w' (w.heap.size + 1) v' (wnames i ++ [wname i])) (hg : W.grownBy w' vn.ownBlock) : WideRel w (i + 1) j v' vk (w'.setCell ⟨w.heap.size, 1, none⟩ v') := by
  have hb := wide_blk_n h hg
  have hlt := h.blk.lt
  have hk := h.kids.kept h.names hg
  refine ⟨by have := hb.set 1 v'; simpa using this, ?_, ?_, ?_⟩
  · rw [wnames_succ]
    exact own_same hn fun c h1 _ => Below.heap_setCell w' ⟨w.heap.size, 1, none⟩ v' c (fun e => by simp only at e; omega)
  · exact own_same hk fun c h1 _ => Below.heap_setCell w' ⟨w.heap.size, 1, none⟩ v' c (fun e => by simp only at e; omega)
  · exact (h.below.grown hg (Nat.le_of_lt hlt) (fun c hc => by have := (h.names.lt c hc).1; omega)).setCell (by exact Nat.le_refl _) _
theorem wide_kids {w W w' : World} {i j : Nat} {vn vk v' : Value} (h : WideRel w i j vn vk W) (hn : Nodes w' (w.heap.size + 1) v' (List.replicate j fileZ ++ [fileZ])) (hg : W.grownBy w' vk.ownBlock) : WideRel w i (j + 1) vn v' (w'.setCell ⟨w.heap.size, 2, none⟩ v') := by
  have hb := wide_blk_k h hg
  have hlt := h.blk.lt
  have hk := h.names.kept h.kids hg
  refine ⟨by have := hb.set 2 v'; simpa using this, ?_, ?_, ?_⟩
  · exact own_same hk fun c h1 _ => Below.heap_setCell w' ⟨w.heap.size, 2, none⟩ v' c (fun e => by simp only at e; omega)
  · rw [List.replicate_succ']
    exact own_same hn fun c h1 _ => Below.heap_setCell w' ⟨w.heap.size, 2, none⟩ v' c (fun e => by simp only at e; omega)
  · exact (h.below.grown hg (Nat.le_of_lt hlt) (fun c hc => by have := (h.kids.lt c hc).1; omega)).setCell (by exact Nat.le_refl _) _
theorem wname_cells (j : Nat) (h : j < 70) : #[Value.int .u8 (97 + (j : Int) / 10), .int .u8 (48 + (j : Int) % 10)] = ((wname j).map vb).toArray := by
  unfold wname
  simp only [List.map_cons, List.map_nil, vb]
  rw [show ((UInt8.ofNat (97 + j / 10)).toNat : Int) = 97 + (j : Int) / 10 by rw [UInt8.toNat_ofNat_of_lt' (by show _ < 256; omega)]; omega,
    show ((UInt8.ofNat (48 + j % 10)).toNat : Int) = 48 + (j : Int) % 10 by rw [UInt8.toNat_ofNat_of_lt' (by show _ < 256; omega)]; omega]
theorem wname_conv (j : Nat) (h : j < 70) (W : World) : (convert 24 9 (.slice (some ⟨W.heap.size, 0, none⟩) 2 2)).run Try.prog (W.alloc (.cells #[.int .u8 (97 + (j : Int) / 10), .int .u8 (48 + (j : Int) % 10)] 5)) =
    .ok (vs (wname j)) (W.alloc (.cells #[.int .u8 (97 + (j : Int) / 10), .int .u8 (48 + (j : Int) % 10)] 5)) := by
  rw [wname_cells j h]
  exact run_text_src (A := some ⟨W.heap.size, 0, none⟩) (cap := 2) (l := wname j) (Blk.src (tl := []) (by simpa using Blk.new W 5 ((wname j).map vb).toArray))
theorem wnames_len (k : Nat) : (wnames k).length = k := by unfold wnames; simp
theorem wnames_each (k : Nat) : ∀ t ∈ wnames k, t.length ≤ maxLen := by
  intro t ht
  unfold wnames at ht
  obtain ⟨i, _, rfl⟩ := List.mem_map.1 ht
  unfold maxLen wname; simp
theorem wnames_ok : ∀ k, k < 70 → namesOk (wnames k) = true := by decide +kernel
theorem all_replicate (n : Nat) : allL (List.replicate n fileZ) = List.replicate n fileZ := by
  induction n with
  | zero => rw [List.replicate_zero, allL]
  | succ n ih => rw [List.replicate_succ, allL, ih]; unfold fileZ; rw [all, allL]; rfl
theorem depth_replicate (n : Nat) : depthL (List.replicate n fileZ) ≤ 1 := by
  induction n with
  | zero => rw [List.replicate_zero, depthL]; omega
  | succ n ih =>
    have : depth fileZ = 1 := by unfold fileZ; rw [TreeMath.depth, depthL]
    rw [List.replicate_succ, depthL, this]; omega
theorem wide_count (An : Option Addr) (cn : Nat) (Ak : Option Addr) (ck k : Nat) : count (.mk (dirHd An cn (wnames k) Ak ck) (List.replicate k fileZ)) = k + 1 := by
  rw [count_mk, all_replicate, List.length_replicate]
theorem wide_right (An : Option Addr) (cn : Nat) (Ak : Option Addr) (ck k : Nat) (hk : k < 70) : rightB (.mk (dirHd An cn (wnames k) Ak ck) (List.replicate k fileZ)) = decide (k < 64) := by
  unfold rightB
  have hf : fitsB fileZ = true := by unfold fileZ; rw [fits_file]; rfl
  have hd : depth (.mk (dirHd An cn (wnames k) Ak ck) (List.replicate k fileZ)) ≤ 8 := by rw [TreeMath.depth]; have := depth_replicate k; omega
  have hall : (all (.mk (dirHd An cn (wnames k) Ak ck) (List.replicate k fileZ))).all fitsB = true := by
    rw [all, all_replicate, List.all_cons, fits_dir, wnames_ok k hk, wnames_len, List.length_replicate]
    rw [decide_eq_true rfl, List.all_eq_true.2 (fun t ht => by rw [(List.mem_replicate.1 ht).2]; exact hf)]; rfl
  rw [wide_count, hall, decide_eq_true hd, Bool.and_true, Bool.and_true]
  exact decide_eq_decide.2 (by omega)
theorem deep_right {w wr : World} {g i : Nat} {t : T} (h : DeepRel w g i t wr) (hi : i ≤ 10) : rightB t = decide (i ≤ 8) := by
  unfold rightB
  rw [h.fits, h.count, h.depth, decide_eq_true (by omega : i ≤ 64)]; simp
theorem file_count (da : Option Addr) (dc : Nat) (data : List By) (run : Bool) (stamp : Nat) : count (.mk (fileHd da dc data run stamp) []) = 1 := by rw [count_mk, allL]; rfl
theorem file_size (da : Option Addr) (dc : Nat) (data : List By) (run : Bool) (stamp : Nat) : size (.mk (fileHd da dc data run stamp) []) = data.length := by unfold size; rw [all, allL]; simp [T.hd, fileHd]
theorem file_right (da : Option Addr) (dc : Nat) (data : List By) (run : Bool) (stamp : Nat) : rightB (.mk (fileHd da dc data run stamp) []) = decide (data.length ≤ 1024) := by
  unfold rightB
  rw [file_count, TreeMath.depth, depthL, all, allL, List.all_cons, fits_file]; simp
theorem wide_ok {w wr : World} {k : Nat} {vn vk : Value} (h : WideRel w k k vn vk wr) (hk : k < 70) :
    ∃ An cn Ak ck, vn = .slice An k cn ∧ vk = .slice Ak k ck ∧ Ok wr wr.heap.size (.mk (dirHd An cn (wnames k) Ak ck) (List.replicate k fileZ)) := by
  obtain ⟨An, cn, hn, hns, hnn, hnc, hnb⟩ := h.names.src
  obtain ⟨Ak, ck, hkv, hks, hkn, hkc, hkb⟩ := h.kids.src
  rw [wnames_len] at hn hnc
  rw [List.length_replicate] at hkv hkc
  refine ⟨An, cn, Ak, ck, hn, hkv, ok_dir _ _ _ _ _ _ hns (fun _ a ha => (hnb a ha).2) hnn (by rw [wnames_len]; exact hnc) (by rw [wnames_len]; unfold maxLen; omega) (wnames_each k) hkn (by rw [List.length_replicate]; unfold maxLen; omega) (by rw [List.length_replicate]; exact hkc) hks ?_⟩
  intro t ht
  rw [(List.mem_replicate.1 ht).2]
  exact ok_file _ _ _ _ _ (fun h => absurd h (by simp)) (fun h => absurd h (by simp)) (fun _ => rfl) (by simp) (by simp) (by omega)
theorem nv_wide (An : Option Addr) (cn : Nat) (Ak : Option Addr) (ck k : Nat) : nv (dirHd An cn (wnames k) Ak ck) (List.replicate k fileZ).length = .agg #[.int .u8 1, .slice An k cn, .slice Ak k ck, .slice none 0 0, .bool false, .float .f64 0, .string ⟨#[]⟩] := by
  rw [List.length_replicate]
  show Value.agg #[vb 1, .slice An (wnames k).length cn, .slice Ak k ck, .slice none 0 0, .bool false, .float .f64 0, .string ⟨#[]⟩] = _
  rw [wnames_len]; rfl
theorem nv_file (A : Option Addr) (n : Nat) : nv (fileHd A n (List.replicate n 0) false 0) ([] : List T).length = .agg #[.int .u8 2, .slice none 0 0, .slice none 0 0, .slice A n n, .bool false, .float .f64 0, .string ⟨#[]⟩] := by
  show Value.agg #[vb 2, .slice none 0 0, .slice none 0 0, .slice A (List.replicate n (0 : By)).length n, .bool false, .float .f64 0, .string ⟨#[]⟩] = _
  rw [List.length_replicate]; rfl
theorem made_run (W : World) (n : Nat) (hn : n ≤ 2000) : (Instr.makeSlice 24 (.int .i64 (n : Int)) (.int .i64 (n : Int))).run Try.prog W = .ok (.slice (some ⟨W.heap.size, 0, none⟩) n n) (W.alloc (.cells ((List.replicate n (0 : By)).map vb).toArray 5)) := by
  obtain ⟨i0, hi, hz0, hz1, hz2⟩ := info_parts info5
  have hr := run_make (P := Try.prog) W 24 5 i0 (.int .u8 0) Try.underlying24 hi hz0 .i64 .i64 (n : Int) (n : Int) (by omega) (by omega) (by rw [hz2]; omega) (by omega)
  have hm : madeCells (Value.int .u8 0).cells ((n : Int).toNat * i0.size) = ((List.replicate n (0 : By)).map vb).toArray := by
    rw [hz1, Int.toNat_natCast, Nat.mul_one]
    unfold madeCells
    apply Array.ext
    · simp
    · intro i h1 h2
      simp [Value.cells, Nat.mod_one]
  rw [hr, hm, Int.toNat_natCast]
end Go.Proofs.Ytkehfploodobmaa
