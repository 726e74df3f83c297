/- The contracts of Depth, Size and Right. -/
import Derived.Test.YtlehgacbcacokaaW8
import Derived.Test.YtlehgacbcacokaaW5b
namespace Go.Proofs.Ytlehgacbcacokaa
open Go.RowKit TreeMath RealMath

set_option maxHeartbeats 2000000 in
theorem depth_any (x : Hd) (ks : List T) (top : Nat) (w : World) (htop : top ≤ w.heap.size) (hok : Ok w top (.mk x ks)) (hn : count (.mk x ks) ≤ 90000) :
    Calls Try.prog 20 #[nv x ks.length] w fun e w' => e = .returned (.int .i64 (depth (.mk x ks) : Nat)) ∧ Below w.heap.size w w' := by
  have HOK := Lib.hid hok
  have HD : Hid (depth (.mk x ks) ≤ 99999) := by have := depth_count (.mk x ks); show _ ≤ _; omega
  have HN : Hid ((pre 1 (.mk x ks)).foldl (fun (s : Int) (p : T × Nat) => if s < (p.2 : Int) then (p.2 : Int) else s) 0 = (depth (.mk x ks) : Nat)) := by
    have := fold_depth (pre 1 (.mk x ks)) 0
    rw [most_pre 0] at this
    show _ = _; rw [show (0 : Int) = ((0 : Nat) : Int) from rfl, this]; simp
  clear hok hn
  go_enter Try.func20, Try.ntmps20
  go_wp2_with fail
  have hB : Below w.heap.size w ((w.alloc (.cells #[vb x.kind, .slice x.na x.names.length x.nc, .slice x.ka ks.length x.kc, .slice x.da x.data.length x.dc, .bool x.run, .float .f64 x.stamp, vs x.target] 27)).alloc (.cells #[.int .i64 0] 3)) := ((Below.refl _ _).alloc (Nat.le_refl _) _).alloc (by simp) _
  have hb := Blk.new (w.alloc (.cells #[vb x.kind, .slice x.na x.names.length x.nc, .slice x.ka ks.length x.kc, .slice x.da x.data.length x.dc, .bool x.run, .float .f64 x.stamp, vs x.target] 27)) 3 #[.int .i64 0]
  simp only [World.size_alloc] at hb
  refine (each_any 53 (.pointer (some ⟨w.heap.size + 1, 0, none⟩)) top _ _ _ (see_depth (w.heap.size + 1) top (by omega)) x ks 0 _ (Nat.le_trans htop hB.size) HD.out hb (HOK.out.keep (hB.mono htop))).mono ?_
  rw [HN.out]
  rintro e w1 ⟨rfl, hR, ht⟩
  have HB1 : Hid (Below w.heap.size w w1) := hB.trans (ht.below (fun c hc => by omega) (by simp; omega))
  have c0 := Blk.cell hR 0
  simp only [List.getElem?_cons_zero] at c0
  clear hb hB ht hR
  go_wp2_with fail
  go_ret
  exact ⟨rfl, HB1.out⟩
set_option maxHeartbeats 2000000 in
theorem size_any (x : Hd) (ks : List T) (top : Nat) (w : World) (htop : top ≤ w.heap.size) (hok : Ok w top (.mk x ks)) (hn : count (.mk x ks) ≤ 90000) (hz : size (.mk x ks) ≤ 1000000000) :
    Calls Try.prog 22 #[nv x ks.length] w fun e w' => e = .returned (.int .i64 (size (.mk x ks) : Nat)) ∧ Below w.heap.size w w' := by
  have HOK := Lib.hid hok
  have HD : Hid (depth (.mk x ks) ≤ 99999) := by have := depth_count (.mk x ks); show _ ≤ _; omega
  have HN : Hid ((pre 1 (.mk x ks)).foldl (fun (s : Int) (p : T × Nat) => wrap64 (s + (p.1.hd.data.length : Nat))) 0 = (size (.mk x ks) : Nat)) := by
    show _ = _; rw [fold_size _ _ (by omega) (by rw [size_eq]; omega), size_eq]; omega
  clear hok hn
  go_enter Try.func22, Try.ntmps22
  go_wp2_with fail
  have hB : Below w.heap.size w ((w.alloc (.cells #[vb x.kind, .slice x.na x.names.length x.nc, .slice x.ka ks.length x.kc, .slice x.da x.data.length x.dc, .bool x.run, .float .f64 x.stamp, vs x.target] 27)).alloc (.cells #[.int .i64 0] 3)) := ((Below.refl _ _).alloc (Nat.le_refl _) _).alloc (by simp) _
  have hb := Blk.new (w.alloc (.cells #[vb x.kind, .slice x.na x.names.length x.nc, .slice x.ka ks.length x.kc, .slice x.da x.data.length x.dc, .bool x.run, .float .f64 x.stamp, vs x.target] 27)) 3 #[.int .i64 0]
  simp only [World.size_alloc] at hb
  refine (each_any 54 (.pointer (some ⟨w.heap.size + 1, 0, none⟩)) top _ _ _ (see_size (w.heap.size + 1) top (by omega)) x ks 0 _ (Nat.le_trans htop hB.size) HD.out hb (HOK.out.keep (hB.mono htop))).mono ?_
  rw [HN.out]
  rintro e w1 ⟨rfl, hR, ht⟩
  have HB1 : Hid (Below w.heap.size w w1) := hB.trans (ht.below (fun c hc => by omega) (by simp; omega))
  have c0 := Blk.cell hR 0
  simp only [List.getElem?_cons_zero] at c0
  clear hb hB ht hR
  go_wp2_with fail
  go_ret
  exact ⟨rfl, HB1.out⟩
/-- how many were shown, and whether to go on -/
def rightStep (s : Int) (t : T) (d : Nat) : Int × Bool := (wrap64 (s + 1), decide (wrap64 (s + 1) ≤ 64) && decide ((d : Int) ≤ 8) && fitsB t)
set_option maxHeartbeats 2000000 in
theorem see_right (g top : Nat) (hg : top ≤ g) : See 48 (.pointer (some ⟨g, 0, none⟩)) top rightStep (NumAt g) (fun _ c => c = g) := by
  refine ⟨?_, enters_of Try.func48 (by kernel_rfl) rfl, fun s w w' h hb => Blk.below h hb (Blk.lt h), fun _ c hc => by omega, fun s w c h hc => by rw [hc]; exact Blk.lt h⟩
  intro s x ks d w htop hd hR hok
  have c0 := Blk.cell hR 0
  have f0 := Blk.frozen hR 0
  have hlt := Blk.lt hR
  simp only [List.getElem?_cons_zero] at c0
  have HR := Lib.hid hR; have HOK := Lib.hid hok
  clear hR hok
  have HS : Hid ((rightStep s (.mk x ks) d).2 = (decide (wrap64 (s + 1) ≤ 64) && decide ((d : Int) ≤ 8) && fitsB (.mk x ks))) := Lib.hid rfl
  have HB : Hid (∀ v ob, NumAt g v ((w.setCell ⟨g, 0, none⟩ (.int .i64 v)).alloc ob) ∧ Turned (fun c => c = g) (fun c => c = g) w ((w.setCell ⟨g, 0, none⟩ (.int .i64 v)).alloc ob)) := fun v ob => ⟨HR.out.sa v ob, turned_sa (S := fun c => c = g) rfl _ _ _⟩
  by_cases h1 : wrap64 (s + 1) ≤ 64
  · rw [decide_eq_true h1] at HS
    by_cases h2 : (d : Int) ≤ 8
    · rw [decide_eq_true h2] at HS
      show Calls Try.prog 48 #[nv x ks.length, _, _] w _
      go_enter Try.func48, Try.ntmps48
      go_wp2_with fail
      obtain ⟨hn, ht⟩ := HB.out (wrap64 (s + 1)) (.cells #[vb x.kind, .slice x.na x.names.length x.nc, .slice x.ka ks.length x.kc, .slice x.da x.data.length x.dc, .bool x.run, .float .f64 x.stamp, vs x.target] 27)
      refine (fits_any x ks top _ (Nat.le_trans htop ht.size) (HOK.out.keep (ht.below (fun c hc => by omega) htop))).mono ?_
      rintro e w1 ⟨rfl, hb⟩
      have HN1 : Hid (NumAt g (wrap64 (s + 1)) w1) := Blk.below hn hb (Blk.lt hn)
      have HT1 : Hid (Turned (fun c => c = g) (fun c => c = g) w w1) := ht.trans (Turned.of_below hb)
      clear hn ht hb
      generalize fitsB (.mk x ks) = b at *
      go_wp2_with fail
      go_ret
      exact ⟨by rw [HS.out]; rfl, HN1.out, HT1.out⟩
    · rw [decide_eq_false h2] at HS
      show Calls Try.prog 48 #[nv x ks.length, _, _] w _
      go_enter Try.func48, Try.ntmps48
      go_wp2_with fail
      go_ret
      exact ⟨by rw [HS.out]; rfl, (HB.out _ _).1, (HB.out _ _).2⟩
  · rw [decide_eq_false h1] at HS
    show Calls Try.prog 48 #[nv x ks.length, _, _] w _
    go_enter Try.func48, Try.ntmps48
    go_wp2_with fail
    go_ret
    exact ⟨by rw [HS.out]; rfl, (HB.out _ _).1, (HB.out _ _).2⟩
/-- may it be? -/
def rightB (t : T) : Bool := decide (count t ≤ 64) && decide (depth t ≤ 8) && (all t).all fitsB
theorem runs_right : ∀ (l : List (T × Nat)) (s : Nat), s ≤ 64 → (runs rightStep (s : Int) l).2 = (decide (s + l.length ≤ 64) && (l.all fun p => decide (p.2 ≤ 8)) && (l.all fun p => fitsB p.1))
  | [], s, h => by simp [runs, h]
  | (t, d) :: l, s, h => by
    rw [runs]
    have e : wrap64 ((s : Int) + 1) = ((s + 1 : Nat) : Int) := by rw [wrap_id (by omega) (by omega)]; rfl
    have e2 : (rightStep (s : Int) t d).2 = (decide (s + 1 ≤ 64) && decide (d ≤ 8) && fitsB t) := by
      show (decide (wrap64 ((s : Int) + 1) ≤ 64) && decide ((d : Int) ≤ 8) && fitsB t) = _
      rw [e, show decide (((s + 1 : Nat) : Int) ≤ 64) = decide (s + 1 ≤ 64) from decide_eq_decide.2 (by omega), show decide ((d : Int) ≤ 8) = decide (d ≤ 8) from decide_eq_decide.2 (by omega)]
    have e1 : (rightStep (s : Int) t d).1 = ((s + 1 : Nat) : Int) := e
    have key : ∀ (c : Bool) (a : Int × Bool) (b : Int), (if c = true then a else (b, false)).2 = (c && a.2) := by intro c a b; cases c <;> rfl
    rw [e1, e2, key]
    by_cases h1 : s + 1 ≤ 64
    · rw [runs_right l (s + 1) h1]
      rw [decide_eq_true h1, show decide (s + 1 + l.length ≤ 64) = decide (s + ((t, d) :: l).length ≤ 64) from decide_eq_decide.2 (by simp; omega)]
      simp only [List.all_cons]
      generalize decide (s + ((t, d) :: l).length ≤ 64) = b1
      generalize (l.all fun p => decide (p.2 ≤ 8)) = b2
      generalize (l.all fun p => fitsB p.1) = b3
      generalize decide (d ≤ 8) = b4
      generalize fitsB t = b5
      cases b1 <;> cases b2 <;> cases b3 <;> cases b4 <;> cases b5 <;> rfl
    · rw [decide_eq_false h1, decide_eq_false (by simp; omega : ¬ s + ((t, d) :: l).length ≤ 64)]; simp
theorem right_eq (t : T) : (runs rightStep 0 (pre 1 t)).2 = rightB t := by
  have h := runs_right (pre 1 t) 0 (by omega)
  rw [show ((0 : Nat) : Int) = 0 from rfl] at h
  rw [h]
  unfold rightB
  have e : (pre 1 t).length = count t := by unfold count; rw [← pre_fst 1, List.length_map]
  have e3 : ((pre 1 t).all fun p => fitsB p.1) = (all t).all fitsB := by rw [← pre_fst 1 t, List.all_map]; rfl
  have e2 : ((pre 1 t).all fun p => decide (p.2 ≤ 8)) = decide (depth t ≤ 8) := by
    rw [Bool.eq_iff_iff, List.all_eq_true, decide_eq_true_iff, show depth t = most (pre 1 t) by rw [most_pre 0]; omega, most_le]
    simp only [decide_eq_true_iff]
  rw [e, e2, e3, Nat.zero_add]
set_option maxHeartbeats 2000000 in
theorem right_any (x : Hd) (ks : List T) (top : Nat) (w : World) (htop : top ≤ w.heap.size) (hok : Ok w top (.mk x ks)) (hn : count (.mk x ks) ≤ 90000) :
    Calls Try.prog 16 #[nv x ks.length] w fun e w' => e = .returned (.bool (rightB (.mk x ks))) ∧ Below w.heap.size w w' := by
  have HOK := Lib.hid hok
  have HD : Hid (1 + depth (.mk x ks) ≤ 100000) := by have := depth_count (.mk x ks); show _ ≤ _; omega
  clear hok hn
  go_enter Try.func16, Try.ntmps16
  go_wp2_with fail
  have hB : Below w.heap.size w ((w.alloc (.cells #[vb x.kind, .slice x.na x.names.length x.nc, .slice x.ka ks.length x.kc, .slice x.da x.data.length x.dc, .bool x.run, .float .f64 x.stamp, vs x.target] 27)).alloc (.cells #[.int .i64 0] 3)) := ((Below.refl _ _).alloc (Nat.le_refl _) _).alloc (by simp) _
  have hb := Blk.new (w.alloc (.cells #[vb x.kind, .slice x.na x.names.length x.nc, .slice x.ka ks.length x.kc, .slice x.da x.data.length x.dc, .bool x.run, .float .f64 x.stamp, vs x.target] 27)) 3 #[.int .i64 0]
  simp only [World.size_alloc] at hb
  refine (walk_of 48 (.pointer (some ⟨w.heap.size + 1, 0, none⟩)) top _ _ _ (see_right (w.heap.size + 1) top (by omega)) (.mk x ks) 0 1 _ (Nat.le_trans htop hB.size) HD.out hb (HOK.out.keep (hB.mono htop))).mono ?_
  rw [right_eq]
  rintro e w1 ⟨rfl, -, ht⟩
  have HB1 : Hid (Below w.heap.size w w1) := hB.trans (ht.below (fun c hc => by omega) (by simp; omega))
  clear hb hB ht
  go_wp2_with fail
  go_ret
  exact ⟨rfl, HB1.out⟩
end Go.Proofs.Ytlehgacbcacokaa
