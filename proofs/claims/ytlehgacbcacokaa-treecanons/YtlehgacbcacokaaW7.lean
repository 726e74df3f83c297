/- The contract of each; those of Count, Depth, Size. -/
import Derived.Test.YtlehgacbcacokaaW6
import Derived.Shelf.Abstract
namespace Go.Proofs.Ytlehgacbcacokaa
open Go.RowKit TreeMath RealMath

structure See0 (fn : Nat) (cp : Value) (top : Nat) {σ : Type} (step : σ → T → Nat → σ) (R : σ → World → Prop) (own : σ → Nat → Prop) : Prop where
  call : ∀ (s : σ) (x : Hd) (ks : List T) (d : Nat) (w : World), top ≤ w.heap.size → d ≤ 100000 → R s w → Ok w top (.mk x ks) →
    Calls Try.prog fn #[nv x ks.length, .int .i64 d, cp] w fun e w' => e = .returned (.tuple #[]) ∧ R (step s (.mk x ks) d) w' ∧ Turned (own s) (own (step s (.mk x ks) d)) w w'
  enters : ∀ (args : Array Value) (w : World), (callFunc fn args).run Try.prog w = .ok (.enter fn args) w
  keep : ∀ s w w', R s w → Below w.heap.size w w' → R s w'
  up : ∀ s c, own s c → top ≤ c
  lt : ∀ s w c, R s w → own s c → c < w.heap.size
def always {σ : Type} (step : σ → T → Nat → σ) (s : σ) (t : T) (d : Nat) : σ × Bool := (step s t d, true)
theorem runs_always {σ : Type} (step : σ → T → Nat → σ) : ∀ (s : σ) (l : List (T × Nat)), runs (always step) s l = (l.foldl (fun s p => step s p.1 p.2) s, true)
  | s, [] => rfl
  | s, (t, d) :: l => by rw [runs]; simp only [always, if_true, List.foldl_cons]; exact runs_always step _ l
set_option maxHeartbeats 2000000 in
theorem see_each (fn : Nat) (cp : Value) (top : Nat) {σ : Type} (step : σ → T → Nat → σ) (R : σ → World → Prop) (own : σ → Nat → Prop) (h : See0 fn cp top step R own) (G : Nat) :
    See 83 (.pointer (some ⟨G, 0, none⟩)) top (always step) (fun s w => R s w ∧ ¬ own s G ∧ w.cell? ⟨G, 0, none⟩ = some (.func (.func fn) #[] #[cp])) own := by
  refine ⟨?_, enters_of Try.func83 (by kernel_rfl) rfl, ?_, h.up, fun s w c hR => h.lt s w c hR.1⟩
  · rintro s x ks d w htop hd ⟨hR, hG, hc⟩ hok
    have hlt := block_of_cell hc
    simp only at hlt
    have HR := Lib.hid hR; have HOK := Lib.hid hok; have H := Lib.hid h; have HG := Lib.hid hG; have HC := Lib.hid hc
    have hen := h.enters
    clear hR hok h hG
    show Calls Try.prog 83 #[nv x ks.length, _, _] w _
    go_enter Try.func83, Try.ntmps83
    go_wp2_with fail
    have hB : Below w.heap.size w (w.alloc (.cells #[vb x.kind, .slice x.na x.names.length x.nc, .slice x.ka ks.length x.kc, .slice x.da x.data.length x.dc, .bool x.run, .float .f64 x.stamp, vs x.target] 27)) := (Below.refl _ _).alloc (Nat.le_refl _) _
    refine (H.out.call s x ks d _ (Nat.le_trans htop hB.size) hd (H.out.keep _ _ _ HR.out hB) (HOK.out.keep (hB.mono htop))).mono ?_
    rintro e w1 ⟨rfl, hR1, ht1⟩
    have HT1 := Lib.hid (ht1.after hB)
    have HR1 := Lib.hid hR1
    clear hR1 ht1 hB
    go_wp2_with fail
    go_ret
    refine ⟨rfl, ⟨HR1.out, fun ho => ?_, ?_⟩, HT1.out⟩
    · rcases HT1.out.own G ho with e | e
      · exact HG.out e
      · omega
    · rw [World.cell?_of_block (w := w) (a := ⟨G, 0, none⟩) (HT1.out.other G hlt HG.out)]; exact HC.out
  · rintro s w w' ⟨hR, hG, hc⟩ hb
    exact ⟨h.keep s w w' hR hb, hG, by rw [hb.cell (p := ⟨G, 0, none⟩) (block_of_cell hc)]; exact hc⟩
set_option maxHeartbeats 2000000 in
theorem each_any (fn : Nat) (cp : Value) (top : Nat) {σ : Type} (step : σ → T → Nat → σ) (R : σ → World → Prop) (own : σ → Nat → Prop) (h : See0 fn cp top step R own)
    (x : Hd) (ks : List T) (s : σ) (w : World) (htop : top ≤ w.heap.size) (hd : depth (.mk x ks) ≤ 99999) (hR : R s w) (hok : Ok w top (.mk x ks)) :
    Calls Try.prog 51 #[nv x ks.length, .func (.func fn) #[] #[cp]] w fun e w' => e = .returned (.tuple #[]) ∧ R ((pre 1 (.mk x ks)).foldl (fun s p => step s p.1 p.2) s) w' ∧ Turned (own s) (own ((pre 1 (.mk x ks)).foldl (fun s p => step s p.1 p.2) s)) w w' := by
  have HR := Lib.hid hR; have HOK := Lib.hid hok; have H := Lib.hid h
  clear hR hok h
  go_enter Try.func51, Try.ntmps51
  go_wp2_with fail
  have hB : Below w.heap.size w ((w.alloc (.cells #[vb x.kind, .slice x.na x.names.length x.nc, .slice x.ka ks.length x.kc, .slice x.da x.data.length x.dc, .bool x.run, .float .f64 x.stamp, vs x.target] 27)).alloc (.cells #[.func (.func fn) #[] #[cp]] 69)) := ((Below.refl _ _).alloc (Nat.le_refl _) _).alloc (by simp) _
  have hc := (Blk.new (w.alloc (.cells #[vb x.kind, .slice x.na x.names.length x.nc, .slice x.ka ks.length x.kc, .slice x.da x.data.length x.dc, .bool x.run, .float .f64 x.stamp, vs x.target] 27)) 69 #[.func (.func fn) #[] #[cp]]).cell 0
  simp only [World.size_alloc] at hc
  refine (walk_of 83 (.pointer (some ⟨w.heap.size + 1, 0, none⟩)) top (always step) _ own (see_each fn cp top step R own H.out (w.heap.size + 1)) (.mk x ks) s 1 _ (Nat.le_trans htop hB.size) (by omega) ⟨H.out.keep _ _ _ HR.out hB, fun ho => absurd (H.out.lt _ _ _ HR.out ho) (by omega), hc⟩ (HOK.out.keep (hB.mono htop))).mono ?_
  rw [runs_always]
  rintro e w1 ⟨rfl, ⟨hR1, -, -⟩, ht1⟩
  have HT1 := Lib.hid (ht1.after hB)
  have HR1 := Lib.hid hR1
  clear hR1 ht1 hB hc
  go_wp2_with fail
  exact bodyPost_end (v := .tuple #[]) (by simp [results, Try.results51]) rfl ⟨rfl, HR1.out, HT1.out⟩
end Go.Proofs.Ytlehgacbcacokaa
