/- The contracts of Count, Depth, Size: what is handed to each. -/
import Derived.Test.YtlehgacbcacokaaW7
namespace Go.Proofs.Ytlehgacbcacokaa
open Go.RowKit TreeMath RealMath

/-- a number in a variable of its own -/
def NumAt (g : Nat) (s : Int) (w : World) : Prop := Blk w g 3 [.int .i64 s]
theorem NumAt.set {g : Nat} {s : Int} {w : World} (h : NumAt g s w) (v : Int) : NumAt g v (w.setCell ⟨g, 0, none⟩ (.int .i64 v)) := by
  have := Blk.set h 0 (.int .i64 v)
  exact this
theorem turned_set {S : Nat → Prop} {w w1 : World} {g : Nat} (h : Below w.heap.size w w1) (hg : S g) (o : Nat) (v : Value) : Turned S S w (w1.setCell ⟨g, o, none⟩ v) :=
  ⟨h.os, h.tape, h.output, by rw [World.size_setCell]; exact h.size, fun c hc hn => by rw [Below.heap_setCell w1 ⟨g, o, none⟩ v c (fun e => hn (by simp only at e; rw [e]; exact hg))]; exact h.block c hc, fun _ h => Or.inl h⟩
theorem turned_sa {S : Nat → Prop} {w : World} {g : Nat} (hg : S g) (o : Nat) (v : Value) (ob : Obj) : Turned S S w ((w.setCell ⟨g, o, none⟩ v).alloc ob) :=
  (turned_set (Below.refl _ _) hg o v).trans (Turned.of_below ((Below.refl _ _).alloc (Nat.le_refl _) _))
theorem NumAt.sa {g : Nat} {s : Int} {w : World} (h : NumAt g s w) (v : Int) (ob : Obj) : NumAt g v ((w.setCell ⟨g, 0, none⟩ (.int .i64 v)).alloc ob) := Blk.alloc (h.set v) ob
set_option maxHeartbeats 2000000 in
theorem see_count (g top : Nat) (hg : top ≤ g) : See0 52 (.pointer (some ⟨g, 0, none⟩)) top (fun (s : Int) _ _ => wrap64 (s + 1)) (NumAt g) (fun _ c => c = g) := by
  refine ⟨?_, enters_of Try.func52 (by kernel_rfl) rfl, fun s w w' h hb => Blk.below h hb (Blk.lt h), fun _ c hc => by omega, fun s w c h hc => by rw [hc]; exact Blk.lt h⟩
  intro s x ks d w htop hd hR hok
  have c0 := Blk.cell hR 0
  have f0 := Blk.frozen hR 0
  have hlt := Blk.lt hR
  simp only [List.getElem?_cons_zero] at c0
  have HR := Lib.hid hR
  clear hR hok
  go_enter Try.func52, Try.ntmps52
  go_wp2_with fail
  exact bodyPost_end (v := .tuple #[]) (by simp [results, Try.results52]) rfl ⟨rfl, HR.out.sa _ _, turned_sa (S := fun c => c = g) rfl _ _ _⟩
set_option maxHeartbeats 2000000 in
theorem see_depth (g top : Nat) (hg : top ≤ g) : See0 53 (.pointer (some ⟨g, 0, none⟩)) top (fun (s : Int) _ d => if s < (d : Int) then (d : Int) else s) (NumAt g) (fun _ c => c = g) := by
  refine ⟨?_, enters_of Try.func53 (by kernel_rfl) rfl, fun s w w' h hb => Blk.below h hb (Blk.lt h), fun _ c hc => by omega, fun s w c h hc => by rw [hc]; exact Blk.lt h⟩
  intro s x ks d w htop hd hR hok
  have c0 := Blk.cell hR 0
  have f0 := Blk.frozen hR 0
  have hlt := Blk.lt hR
  simp only [List.getElem?_cons_zero] at c0
  have HR := Lib.hid hR
  clear hR hok
  go_enter Try.func53, Try.ntmps53
  go_wp2_with fail
  all_goals exact bodyPost_end (v := .tuple #[]) (by simp [results, Try.results53]) rfl ⟨rfl, HR.out.sa _ _, turned_sa (S := fun c => c = g) rfl _ _ _⟩
set_option maxHeartbeats 2000000 in
theorem see_size (g top : Nat) (hg : top ≤ g) : See0 54 (.pointer (some ⟨g, 0, none⟩)) top (fun (s : Int) t _ => wrap64 (s + (t.hd.data.length : Nat))) (NumAt g) (fun _ c => c = g) := by
  refine ⟨?_, enters_of Try.func54 (by kernel_rfl) rfl, fun s w w' h hb => Blk.below h hb (Blk.lt h), fun _ c hc => by omega, fun s w c h hc => by rw [hc]; exact Blk.lt h⟩
  intro s x ks d w htop hd hR hok
  have c0 := Blk.cell hR 0
  have f0 := Blk.frozen hR 0
  have hlt := Blk.lt hR
  simp only [List.getElem?_cons_zero] at c0
  have HR := Lib.hid hR
  have hdl := hok.hd.dlen
  unfold maxLen at hdl
  clear hR hok
  go_enter Try.func54, Try.ntmps54
  go_wp2_with fail
  exact bodyPost_end (v := .tuple #[]) (by simp [results, Try.results54]) rfl ⟨rfl, HR.out.sa _ _, turned_sa (S := fun c => c = g) rfl _ _ _⟩
theorem wrap_id {n : Int} (h1 : 0 ≤ n) (h2 : n ≤ 4611686018427387904) : wrap64 n = n := by unfold wrap64; omega
theorem fold_count : ∀ (l : List (T × Nat)) (s : Int), 0 ≤ s → s + l.length ≤ 4611686018427387904 → l.foldl (fun (s : Int) (_ : T × Nat) => wrap64 (s + 1)) s = s + l.length
  | [], s, _, _ => by simp
  | p :: l, s, h0, h => by
    simp only [List.length_cons] at h
    rw [List.foldl_cons, wrap_id (by omega) (by omega), fold_count l (s + 1) (by omega) (by omega)]; simp only [List.length_cons]; omega
theorem fold_depth : ∀ (l : List (T × Nat)) (s : Nat), l.foldl (fun (s : Int) (p : T × Nat) => if s < (p.2 : Int) then (p.2 : Int) else s) (s : Int) = (max s (most l) : Nat)
  | [], s => by simp [most]
  | p :: l, s => by
    rw [List.foldl_cons, most_cons, show (if (s : Int) < (p.2 : Int) then (p.2 : Int) else (s : Int)) = ((max s p.2 : Nat) : Int) by split <;> omega, fold_depth l (max s p.2)]
    congr 1; omega
def sizeL (l : List (T × Nat)) : Nat := (l.map fun p => p.1.hd.data.length).sum
theorem fold_size : ∀ (l : List (T × Nat)) (s : Int), 0 ≤ s → s + sizeL l ≤ 4611686018427387904 → l.foldl (fun (s : Int) (p : T × Nat) => wrap64 (s + (p.1.hd.data.length : Nat))) s = s + sizeL l
  | [], s, _, _ => by simp [sizeL]
  | p :: l, s, h0, h => by
    have e : sizeL (p :: l) = p.1.hd.data.length + sizeL l := by simp [sizeL]
    rw [e] at h ⊢
    rw [List.foldl_cons, wrap_id (by omega) (by omega), fold_size l _ (by omega) (by omega)]; omega
theorem size_eq (d : Nat) (t : T) : sizeL (pre d t) = size t := by
  unfold sizeL size; rw [← pre_fst d t, List.map_map]; rfl
set_option maxHeartbeats 2000000 in
theorem count_any (x : Hd) (ks : List T) (top : Nat) (w : World) (htop : top ≤ w.heap.size) (hok : Ok w top (.mk x ks)) (hn : count (.mk x ks) ≤ 90000) :
    Calls Try.prog 18 #[nv x ks.length] w fun e w' => e = .returned (.int .i64 (count (.mk x ks) : Nat)) ∧ Below w.heap.size w w' := by
  have HOK := Lib.hid hok
  have HD : Hid (depth (.mk x ks) ≤ 99999) := by have := depth_count (.mk x ks); show _ ≤ _; omega
  have HN : Hid ((pre 1 (.mk x ks)).foldl (fun (s : Int) (_ : T × Nat) => wrap64 (s + 1)) 0 = (count (.mk x ks) : Nat)) := by
    have e : (pre 1 (.mk x ks)).length = count (.mk x ks) := by unfold count; rw [← pre_fst 1, List.length_map]
    show _ = _; rw [fold_count _ _ (by omega) (by rw [e]; omega), e]; omega
  clear hok hn
  go_enter Try.func18, Try.ntmps18
  go_wp2_with fail
  have hB : Below w.heap.size w ((w.alloc (.cells #[vb x.kind, .slice x.na x.names.length x.nc, .slice x.ka ks.length x.kc, .slice x.da x.data.length x.dc, .bool x.run, .float .f64 x.stamp, vs x.target] 27)).alloc (.cells #[.int .i64 0] 3)) := ((Below.refl _ _).alloc (Nat.le_refl _) _).alloc (by simp) _
  have hb := Blk.new (w.alloc (.cells #[vb x.kind, .slice x.na x.names.length x.nc, .slice x.ka ks.length x.kc, .slice x.da x.data.length x.dc, .bool x.run, .float .f64 x.stamp, vs x.target] 27)) 3 #[.int .i64 0]
  simp only [World.size_alloc] at hb
  refine (each_any 52 (.pointer (some ⟨w.heap.size + 1, 0, none⟩)) top _ _ _ (see_count (w.heap.size + 1) top (by omega)) x ks 0 _ (Nat.le_trans htop hB.size) HD.out hb (HOK.out.keep (hB.mono htop))).mono ?_
  rw [HN.out]
  rintro e w1 ⟨rfl, hR, ht⟩
  have HB1 : Hid (Below w.heap.size w w1) := hB.trans (ht.below (fun c hc => by omega) (by simp; omega))
  have c0 := Blk.cell hR 0
  simp only [List.getElem?_cons_zero] at c0
  clear hb hB ht hR
  go_wp2_with fail
  go_ret
  exact ⟨rfl, HB1.out⟩
end Go.Proofs.Ytlehgacbcacokaa
