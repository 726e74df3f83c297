/- The contracts of walk and each, whatever they are handed. -/
import Derived.Test.YtlehgacbcacokaaG3
import Derived.Shelf.Abstract
namespace Go.Proofs.Ytlehgacbcacokaa
open Go.RowKit TreeMath RealMath

/-- what is asked of a function that is shown each node: of what it holds on to (own) it may turn all, of the rest nothing -/
structure See (fn : Nat) (cp : Value) (top : Nat) {σ : Type} (step : σ → T → Nat → σ × Bool) (R : σ → World → Prop) (own : σ → Nat → Prop) : Prop where
  call : ∀ (s : σ) (x : Hd) (ks : List T) (d : Nat) (w : World), top ≤ w.heap.size → d ≤ 100000 → R s w → Ok w top (.mk x ks) →
    Calls Try.prog fn #[nv x ks.length, .int .i64 d, cp] w fun e w' => e = .returned (.bool (step s (.mk x ks) d).2) ∧ R (step s (.mk x ks) d).1 w' ∧ Turned (own s) (own (step s (.mk x ks) d).1) w w'
  enters : ∀ (args : Array Value) (w : World), (callFunc fn args).run Try.prog w = .ok (.enter fn args) w
  keep : ∀ s w w', R s w → Below w.heap.size w w' → R s w'
  up : ∀ s c, own s c → top ≤ c
  lt : ∀ s w c, R s w → own s c → c < w.heap.size
theorem Turned.after {S S' : Nat → Prop} {w w1 w2 : World} (h : Below w.heap.size w w1) (k : Turned S S' w1 w2) : Turned S S' w w2 := (Turned.of_below (S := S) h).trans k
theorem runs_stop {σ : Type} (step : σ → T → Nat → σ × Bool) (s : σ) (d : Nat) (ks : List T) (i : Nat) (s' : σ) (h : runs step s (preL d (ks.take i)) = (s', false)) : runs step s (preL d ks) = (s', false) := by
  rw [← List.take_append_drop i ks, preL_append, runs_append, h]; simp
def WalkOf (fn : Nat) (cp : Value) (top : Nat) {σ : Type} (step : σ → T → Nat → σ × Bool) (R : σ → World → Prop) (own : σ → Nat → Prop) (t : T) : Prop :=
  ∀ (s : σ) (d : Nat) (w : World), top ≤ w.heap.size → d + depth t ≤ 100000 → R s w → Ok w top t →
    Calls Try.prog 47 #[val t, .int .i64 d, .func (.func fn) #[] #[cp]] w fun e w' => e = .returned (.bool (runs step s (pre d t)).2) ∧ R (runs step s (pre d t)).1 w' ∧ Turned (own s) (own (runs step s (pre d t)).1) w w'
set_option maxHeartbeats 4000000 in
theorem walk_of (fn : Nat) (cp : Value) (top : Nat) {σ : Type} (step : σ → T → Nat → σ × Bool) (R : σ → World → Prop) (own : σ → Nat → Prop) (hsee : See fn cp top step R own) : ∀ t, WalkOf fn cp top step R own t := by
  refine T.ind fun x ks IH => ?_
  intro s d w htop hd hR hok
  show Calls Try.prog 47 #[nv x ks.length, _, _] w _
  have hlen := hok.len
  unfold maxLen at hlen
  have HIH := Lib.hid IH; have HR := Lib.hid hR; have HOK := Lib.hid hok; have HSEE := Lib.hid hsee
  clear IH hR hok hsee
  have HRUN : Hid (runs step s (pre d (.mk x ks)) = if (step s (.mk x ks) d).2 then runs step (step s (.mk x ks) d).1 (preL (d + 1) ks) else ((step s (.mk x ks) d).1, false)) := by
    show _ = _; rw [pre, runs]
  have HDEP : Hid (∀ k ∈ ks, d + 1 + depth k ≤ 100000) := fun k hk => by have := depth_mem hk; rw [depth] at hd; omega
  have hd' : d ≤ 100000 := by omega
  clear hd
  have hen := HSEE.out.enters
  go_enter Try.func47, Try.ntmps47
  go_wp2_with fail
  have hB : Below w.heap.size w (w.alloc (.cells #[vb x.kind, .slice x.na x.names.length x.nc, .slice x.ka ks.length x.kc, .slice x.da x.data.length x.dc, .bool x.run, .float .f64 x.stamp, vs x.target] 27)) := (Below.refl _ _).alloc (Nat.le_refl _) _
  refine (HSEE.out.call s x ks d _ (Nat.le_trans htop hB.size) hd' (HSEE.out.keep _ _ _ HR.out hB) (HOK.out.keep (hB.mono htop))).mono ?_
  rintro e w1 ⟨rfl, hR1, ht1⟩
  have HT1 := Lib.hid (ht1.after hB)
  have HR1 := Lib.hid hR1
  have c2 : w1.cell? ⟨w.heap.size, 2, none⟩ = some (.slice x.ka ks.length x.kc) :=
    (ht1.blk (Blk.new w 27 _) (fun hs => absurd (HSEE.out.lt s w _ HR.out hs) (Nat.lt_irrefl _))).cell 2
  have hs1 : w.heap.size < w1.heap.size := by have := ht1.size; simp at this; omega
  clear hR1 ht1 hB
  generalize step s (.mk x ks) d = r at *
  obtain ⟨s1, b1⟩ := r
  cases b1 with
  | false =>
    go_wp2_with fail
    go_ret
    exact ⟨by rw [HRUN.out]; rfl, by rw [HRUN.out]; exact HR1.out, by rw [HRUN.out]; exact HT1.out⟩
  | true =>
    have HRUN' : Hid (runs step s (pre d (.mk x ks)) = runs step s1 (preL (d + 1) ks)) := by show _ = _; rw [HRUN.out]; rfl
    clear HRUN
    go_wp2_with fail
    go_loopw [17] (fun vi wr => ∃ i : Nat, i ≤ ks.length ∧ vi = .int .i64 i ∧ Hid (∃ si, runs step s1 (preL (d + 1) (ks.take i)) = (si, true) ∧ R si wr ∧ Turned (own s) (own si) w wr)) (fun vi _ => ks.length - (intOf vi).toNat)
    case atStart => exact ⟨0, Nat.zero_le _, rfl, s1, by simp [preL, runs], HR1.out, HT1.out⟩
    case round =>
      obtain ⟨i, hi, rfl, HP⟩ := hrel
      rename World => W0
      clear c2 hs1 HR1 HT1
      by_cases hlt : i < ks.length
      · obtain ⟨si, hrun, hRi, hTi⟩ := HP.out
        have hbe : Below top w W0 := hTi.below (fun c hc => HSEE.out.up s c hc) htop
        obtain ⟨a, oa, y, ly, hAe, hat, hy, hca⟩ := HOK.out.at.cells i hlt
        have hc := hca.same (hbe.block a hat)
        obtain ⟨a0, a1, a2, a3, a4, a5, a6⟩ := hc.seven
        have hs0 := hTi.size
        have HS : Hid (∀ W : World, Below W0.heap.size W0 W → Calls Try.prog 47 #[nv y ly.length, .int .i64 ((d : Int) + 1), .func (.func fn) #[] #[cp]] W fun e w' => e = .returned (.bool (runs step si (pre (d + 1) ks[i])).2) ∧ R (runs step si (pre (d + 1) ks[i])).1 w' ∧ Turned (own si) (own (runs step si (pre (d + 1) ks[i])).1) W w') := fun W hW => by
          have hsW := hW.size
          have := HIH.out ks[i] (List.getElem_mem _) si (d + 1) W (by omega) (HDEP.out _ (List.getElem_mem _)) (HSEE.out.keep _ _ _ hRi hW) (((HOK.out.kid (List.getElem_mem hlt)).keep hbe).keep (hW.mono (by omega)))
          rw [hy] at this ⊢
          exact this
        have HT : Hid (runs step s1 (preL (d + 1) (ks.take (i + 1))) = runs step si (pre (d + 1) ks[i])) := by
          show _ = _; rw [preL_take _ _ _ hlt, runs_append, hrun]; rfl
        have HTI := Lib.hid hTi
        clear hc hca hRi hTi hrun hbe HP
        generalize runs step si (pre (d + 1) ks[i]) = r2 at *
        clear hy HIH HDEP
        obtain ⟨s2, b2⟩ := r2
        rw [hAe]
        go_wp2_with fail
        have hB2 : Below W0.heap.size W0 (W0.alloc (.cells #[vb y.kind, .slice y.na y.names.length y.nc, .slice y.ka ly.length y.kc, .slice y.da y.data.length y.dc, .bool y.run, .float .f64 y.stamp, vs y.target] 27)) := (Below.refl _ _).alloc (Nat.le_refl _) _
        refine (HS.out _ hB2).mono ?_
        rintro e w2 ⟨rfl, hR2, hT2⟩
        have HR2 := Lib.hid hR2
        have HT2 : Hid (Turned (own s) (own s2) w w2) := HTI.out.trans (hT2.after hB2)
        clear hR2 hT2 HTI hB2 HS
        cases b2 with
        | false =>
          go_wp2_with fail
          go_ret
          have he := HRUN'.out.trans (runs_stop step s1 (d + 1) ks (i + 1) s2 HT.out)
          exact ⟨by rw [he]; rfl, by rw [he]; exact HR2.out, by rw [he]; exact HT2.out⟩
        | true =>
          go_wp2_with fail
          go_roundw
          case rel => exact ⟨i + 1, by omega, by go_num, s2, HT.out, HR2.out, HT2.out⟩
          case measure => simp [intOf]; omega
      · obtain rfl : i = ks.length := by omega
        obtain ⟨si, hrun, hRi, hTi⟩ := HP.out
        have HE : Hid (runs step s (pre d (.mk x ks)) = (si, true)) := by show _ = _; rw [HRUN'.out, ← hrun, List.take_length]
        have HRi := Lib.hid hRi; have HTi := Lib.hid hTi
        clear hrun hRi hTi HP
        go_wp2_with fail
        go_ret
        exact ⟨by rw [HE.out]; rfl, by rw [HE.out]; exact HRi.out, by rw [HE.out]; exact HTi.out⟩
end Go.Proofs.Ytlehgacbcacokaa

/- The contract of each; those of Count, Depth, Size. -/
namespace Go.Proofs.Ytlehgacbcacokaa
open Go.RowKit TreeMath RealMath

structure See0 (fn : Nat) (cp : Value) (top : Nat) {σ : Type} (step : σ → T → Nat → σ) (R : σ → World → Prop) (own : σ → Nat → Prop) : Prop where
  call : ∀ (s : σ) (x : Hd) (ks : List T) (d : Nat) (w : World), top ≤ w.heap.size → d ≤ 100000 → R s w → Ok w top (.mk x ks) →
    Calls Try.prog fn #[nv x ks.length, .int .i64 d, cp] w fun e w' => e = .returned (.tuple #[]) ∧ R (step s (.mk x ks) d) w' ∧ Turned (own s) (own (step s (.mk x ks) d)) w w'
  enters : ∀ (args : Array Value) (w : World), (callFunc fn args).run Try.prog w = .ok (.enter fn args) w
  keep : ∀ s w w', R s w → Below w.heap.size w w' → R s w'
  up : ∀ s c, own s c → top ≤ c
  lt : ∀ s w c, R s w → own s c → c < w.heap.size
def always {σ : Type} (step : σ → T → Nat → σ) (s : σ) (t : T) (d : Nat) : σ × Bool := (step s t d, true)
theorem runs_always {σ : Type} (step : σ → T → Nat → σ) : ∀ (s : σ) (l : List (T × Nat)), runs (always step) s l = (l.foldl (fun s p => step s p.1 p.2) s, true)
  | s, [] => rfl
  | s, (t, d) :: l => by rw [runs]; simp only [always, if_true, List.foldl_cons]; exact runs_always step _ l
set_option maxHeartbeats 2000000 in
theorem see_each (fn : Nat) (cp : Value) (top : Nat) {σ : Type} (step : σ → T → Nat → σ) (R : σ → World → Prop) (own : σ → Nat → Prop) (h : See0 fn cp top step R own) (G : Nat) :
    See 83 (.pointer (some ⟨G, 0, none⟩)) top (always step) (fun s w => R s w ∧ ¬ own s G ∧ w.cell? ⟨G, 0, none⟩ = some (.func (.func fn) #[] #[cp])) own := by
  refine ⟨?_, enters_of Try.func83 (by kernel_rfl) rfl, ?_, h.up, fun s w c hR => h.lt s w c hR.1⟩
  · rintro s x ks d w htop hd ⟨hR, hG, hc⟩ hok
    have hlt := block_of_cell hc
    simp only at hlt
    have HR := Lib.hid hR; have HOK := Lib.hid hok; have H := Lib.hid h; have HG := Lib.hid hG; have HC := Lib.hid hc
    have hen := h.enters
    clear hR hok h hG
    show Calls Try.prog 83 #[nv x ks.length, _, _] w _
    go_enter Try.func83, Try.ntmps83
    go_wp2_with fail
    have hB : Below w.heap.size w (w.alloc (.cells #[vb x.kind, .slice x.na x.names.length x.nc, .slice x.ka ks.length x.kc, .slice x.da x.data.length x.dc, .bool x.run, .float .f64 x.stamp, vs x.target] 27)) := (Below.refl _ _).alloc (Nat.le_refl _) _
    refine (H.out.call s x ks d _ (Nat.le_trans htop hB.size) hd (H.out.keep _ _ _ HR.out hB) (HOK.out.keep (hB.mono htop))).mono ?_
    rintro e w1 ⟨rfl, hR1, ht1⟩
    have HT1 := Lib.hid (ht1.after hB)
    have HR1 := Lib.hid hR1
    clear hR1 ht1 hB
    go_wp2_with fail
    go_ret
    refine ⟨rfl, ⟨HR1.out, fun ho => ?_, ?_⟩, HT1.out⟩
    · rcases HT1.out.own G ho with e | e
      · exact HG.out e
      · omega
    · rw [World.cell?_of_block (w := w) (a := ⟨G, 0, none⟩) (HT1.out.other G hlt HG.out)]; exact HC.out
  · rintro s w w' ⟨hR, hG, hc⟩ hb
    exact ⟨h.keep s w w' hR hb, hG, by rw [hb.cell (p := ⟨G, 0, none⟩) (block_of_cell hc)]; exact hc⟩
set_option maxHeartbeats 2000000 in
theorem each_any (fn : Nat) (cp : Value) (top : Nat) {σ : Type} (step : σ → T → Nat → σ) (R : σ → World → Prop) (own : σ → Nat → Prop) (h : See0 fn cp top step R own)
    (x : Hd) (ks : List T) (s : σ) (w : World) (htop : top ≤ w.heap.size) (hd : depth (.mk x ks) ≤ 99999) (hR : R s w) (hok : Ok w top (.mk x ks)) :
    Calls Try.prog 51 #[nv x ks.length, .func (.func fn) #[] #[cp]] w fun e w' => e = .returned (.tuple #[]) ∧ R ((pre 1 (.mk x ks)).foldl (fun s p => step s p.1 p.2) s) w' ∧ Turned (own s) (own ((pre 1 (.mk x ks)).foldl (fun s p => step s p.1 p.2) s)) w w' := by
  have HR := Lib.hid hR; have HOK := Lib.hid hok; have H := Lib.hid h
  clear hR hok h
  go_enter Try.func51, Try.ntmps51
  go_wp2_with fail
  have hB : Below w.heap.size w ((w.alloc (.cells #[vb x.kind, .slice x.na x.names.length x.nc, .slice x.ka ks.length x.kc, .slice x.da x.data.length x.dc, .bool x.run, .float .f64 x.stamp, vs x.target] 27)).alloc (.cells #[.func (.func fn) #[] #[cp]] 69)) := ((Below.refl _ _).alloc (Nat.le_refl _) _).alloc (by simp) _
  have hc := (Blk.new (w.alloc (.cells #[vb x.kind, .slice x.na x.names.length x.nc, .slice x.ka ks.length x.kc, .slice x.da x.data.length x.dc, .bool x.run, .float .f64 x.stamp, vs x.target] 27)) 69 #[.func (.func fn) #[] #[cp]]).cell 0
  simp only [World.size_alloc] at hc
  refine (walk_of 83 (.pointer (some ⟨w.heap.size + 1, 0, none⟩)) top (always step) _ own (see_each fn cp top step R own H.out (w.heap.size + 1)) (.mk x ks) s 1 _ (Nat.le_trans htop hB.size) (by omega) ⟨H.out.keep _ _ _ HR.out hB, fun ho => absurd (H.out.lt _ _ _ HR.out ho) (by omega), hc⟩ (HOK.out.keep (hB.mono htop))).mono ?_
  rw [runs_always]
  rintro e w1 ⟨rfl, ⟨hR1, -, -⟩, ht1⟩
  have HT1 := Lib.hid (ht1.after hB)
  have HR1 := Lib.hid hR1
  clear hR1 ht1 hB hc
  go_wp2_with fail
  exact bodyPost_end (v := .tuple #[]) (by simp [results, Try.results51]) rfl ⟨rfl, HR1.out, HT1.out⟩
end Go.Proofs.Ytlehgacbcacokaa

/- The contracts of Count, Depth, Size: what is handed to each. -/
namespace Go.Proofs.Ytlehgacbcacokaa
open Go.RowKit TreeMath RealMath

/-- a number in a variable of its own -/
def NumAt (g : Nat) (s : Int) (w : World) : Prop := Blk w g 3 [.int .i64 s]
theorem NumAt.set {g : Nat} {s : Int} {w : World} (h : NumAt g s w) (v : Int) : NumAt g v (w.setCell ⟨g, 0, none⟩ (.int .i64 v)) := by
  have := Blk.set h 0 (.int .i64 v)
  exact this
theorem turned_set {S : Nat → Prop} {w w1 : World} {g : Nat} (h : Below w.heap.size w w1) (hg : S g) (o : Nat) (v : Value) : Turned S S w (w1.setCell ⟨g, o, none⟩ v) :=
  ⟨h.os, h.tape, h.output, by rw [World.size_setCell]; exact h.size, fun c hc hn => by rw [Below.heap_setCell w1 ⟨g, o, none⟩ v c (fun e => hn (by simp only at e; rw [e]; exact hg))]; exact h.block c hc, fun _ h => Or.inl h⟩
theorem turned_sa {S : Nat → Prop} {w : World} {g : Nat} (hg : S g) (o : Nat) (v : Value) (ob : Obj) : Turned S S w ((w.setCell ⟨g, o, none⟩ v).alloc ob) :=
  (turned_set (Below.refl _ _) hg o v).trans (Turned.of_below ((Below.refl _ _).alloc (Nat.le_refl _) _))
theorem NumAt.sa {g : Nat} {s : Int} {w : World} (h : NumAt g s w) (v : Int) (ob : Obj) : NumAt g v ((w.setCell ⟨g, 0, none⟩ (.int .i64 v)).alloc ob) := Blk.alloc (h.set v) ob
set_option maxHeartbeats 2000000 in
theorem see_count (g top : Nat) (hg : top ≤ g) : See0 52 (.pointer (some ⟨g, 0, none⟩)) top (fun (s : Int) _ _ => wrap64 (s + 1)) (NumAt g) (fun _ c => c = g) := by
  refine ⟨?_, enters_of Try.func52 (by kernel_rfl) rfl, fun s w w' h hb => Blk.below h hb (Blk.lt h), fun _ c hc => by omega, fun s w c h hc => by rw [hc]; exact Blk.lt h⟩
  intro s x ks d w htop hd hR hok
  have c0 := Blk.cell hR 0
  have f0 := Blk.frozen hR 0
  have hlt := Blk.lt hR
  simp only [List.getElem?_cons_zero] at c0
  have HR := Lib.hid hR
  clear hR hok
  go_enter Try.func52, Try.ntmps52
  go_wp2_with fail
  exact bodyPost_end (v := .tuple #[]) (by simp [results, Try.results52]) rfl ⟨rfl, HR.out.sa _ _, turned_sa (S := fun c => c = g) rfl _ _ _⟩
set_option maxHeartbeats 2000000 in
theorem see_depth (g top : Nat) (hg : top ≤ g) : See0 53 (.pointer (some ⟨g, 0, none⟩)) top (fun (s : Int) _ d => if s < (d : Int) then (d : Int) else s) (NumAt g) (fun _ c => c = g) := by
  refine ⟨?_, enters_of Try.func53 (by kernel_rfl) rfl, fun s w w' h hb => Blk.below h hb (Blk.lt h), fun _ c hc => by omega, fun s w c h hc => by rw [hc]; exact Blk.lt h⟩
  intro s x ks d w htop hd hR hok
  have c0 := Blk.cell hR 0
  have f0 := Blk.frozen hR 0
  have hlt := Blk.lt hR
  simp only [List.getElem?_cons_zero] at c0
  have HR := Lib.hid hR
  clear hR hok
  go_enter Try.func53, Try.ntmps53
  go_wp2_with fail
  all_goals exact bodyPost_end (v := .tuple #[]) (by simp [results, Try.results53]) rfl ⟨rfl, HR.out.sa _ _, turned_sa (S := fun c => c = g) rfl _ _ _⟩
set_option maxHeartbeats 2000000 in
theorem see_size (g top : Nat) (hg : top ≤ g) : See0 54 (.pointer (some ⟨g, 0, none⟩)) top (fun (s : Int) t _ => wrap64 (s + (t.hd.data.length : Nat))) (NumAt g) (fun _ c => c = g) := by
  refine ⟨?_, enters_of Try.func54 (by kernel_rfl) rfl, fun s w w' h hb => Blk.below h hb (Blk.lt h), fun _ c hc => by omega, fun s w c h hc => by rw [hc]; exact Blk.lt h⟩
  intro s x ks d w htop hd hR hok
  have c0 := Blk.cell hR 0
  have f0 := Blk.frozen hR 0
  have hlt := Blk.lt hR
  simp only [List.getElem?_cons_zero] at c0
  have HR := Lib.hid hR
  have hdl := hok.hd.dlen
  unfold maxLen at hdl
  clear hR hok
  go_enter Try.func54, Try.ntmps54
  go_wp2_with fail
  exact bodyPost_end (v := .tuple #[]) (by simp [results, Try.results54]) rfl ⟨rfl, HR.out.sa _ _, turned_sa (S := fun c => c = g) rfl _ _ _⟩
theorem wrap_id {n : Int} (h1 : 0 ≤ n) (h2 : n ≤ 4611686018427387904) : wrap64 n = n := by unfold wrap64; omega
theorem fold_count : ∀ (l : List (T × Nat)) (s : Int), 0 ≤ s → s + l.length ≤ 4611686018427387904 → l.foldl (fun (s : Int) (_ : T × Nat) => wrap64 (s + 1)) s = s + l.length
  | [], s, _, _ => by simp
  | p :: l, s, h0, h => by
    simp only [List.length_cons] at h
    rw [List.foldl_cons, wrap_id (by omega) (by omega), fold_count l (s + 1) (by omega) (by omega)]; simp only [List.length_cons]; omega
theorem fold_depth : ∀ (l : List (T × Nat)) (s : Nat), l.foldl (fun (s : Int) (p : T × Nat) => if s < (p.2 : Int) then (p.2 : Int) else s) (s : Int) = (max s (most l) : Nat)
  | [], s => by simp [most]
  | p :: l, s => by
    rw [List.foldl_cons, most_cons, show (if (s : Int) < (p.2 : Int) then (p.2 : Int) else (s : Int)) = ((max s p.2 : Nat) : Int) by split <;> omega, fold_depth l (max s p.2)]
    congr 1; omega
def sizeL (l : List (T × Nat)) : Nat := (l.map fun p => p.1.hd.data.length).sum
theorem fold_size : ∀ (l : List (T × Nat)) (s : Int), 0 ≤ s → s + sizeL l ≤ 4611686018427387904 → l.foldl (fun (s : Int) (p : T × Nat) => wrap64 (s + (p.1.hd.data.length : Nat))) s = s + sizeL l
  | [], s, _, _ => by simp [sizeL]
  | p :: l, s, h0, h => by
    have e : sizeL (p :: l) = p.1.hd.data.length + sizeL l := by simp [sizeL]
    rw [e] at h ⊢
    rw [List.foldl_cons, wrap_id (by omega) (by omega), fold_size l _ (by omega) (by omega)]; omega
theorem size_eq (d : Nat) (t : T) : sizeL (pre d t) = size t := by
  unfold sizeL size; rw [← pre_fst d t, List.map_map]; rfl
set_option maxHeartbeats 2000000 in
theorem count_any (x : Hd) (ks : List T) (top : Nat) (w : World) (htop : top ≤ w.heap.size) (hok : Ok w top (.mk x ks)) (hn : count (.mk x ks) ≤ 90000) :
    Calls Try.prog 18 #[nv x ks.length] w fun e w' => e = .returned (.int .i64 (count (.mk x ks) : Nat)) ∧ Below w.heap.size w w' := by
  have HOK := Lib.hid hok
  have HD : Hid (depth (.mk x ks) ≤ 99999) := by have := depth_count (.mk x ks); show _ ≤ _; omega
  have HN : Hid ((pre 1 (.mk x ks)).foldl (fun (s : Int) (_ : T × Nat) => wrap64 (s + 1)) 0 = (count (.mk x ks) : Nat)) := by
    have e : (pre 1 (.mk x ks)).length = count (.mk x ks) := by unfold count; rw [← pre_fst 1, List.length_map]
    show _ = _; rw [fold_count _ _ (by omega) (by rw [e]; omega), e]; omega
  clear hok hn
  go_enter Try.func18, Try.ntmps18
  go_wp2_with fail
  have hB : Below w.heap.size w ((w.alloc (.cells #[vb x.kind, .slice x.na x.names.length x.nc, .slice x.ka ks.length x.kc, .slice x.da x.data.length x.dc, .bool x.run, .float .f64 x.stamp, vs x.target] 27)).alloc (.cells #[.int .i64 0] 3)) := ((Below.refl _ _).alloc (Nat.le_refl _) _).alloc (by simp) _
  have hb := Blk.new (w.alloc (.cells #[vb x.kind, .slice x.na x.names.length x.nc, .slice x.ka ks.length x.kc, .slice x.da x.data.length x.dc, .bool x.run, .float .f64 x.stamp, vs x.target] 27)) 3 #[.int .i64 0]
  simp only [World.size_alloc] at hb
  refine (each_any 52 (.pointer (some ⟨w.heap.size + 1, 0, none⟩)) top _ _ _ (see_count (w.heap.size + 1) top (by omega)) x ks 0 _ (Nat.le_trans htop hB.size) HD.out hb (HOK.out.keep (hB.mono htop))).mono ?_
  rw [HN.out]
  rintro e w1 ⟨rfl, hR, ht⟩
  have HB1 : Hid (Below w.heap.size w w1) := hB.trans (ht.below (fun c hc => by omega) (by simp; omega))
  have c0 := Blk.cell hR 0
  simp only [List.getElem?_cons_zero] at c0
  clear hb hB ht hR
  go_wp2_with fail
  go_ret
  exact ⟨rfl, HB1.out⟩
end Go.Proofs.Ytlehgacbcacokaa
