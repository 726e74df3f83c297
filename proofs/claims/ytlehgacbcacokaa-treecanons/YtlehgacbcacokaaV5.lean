/- The contract of walk, whatever it is handed: which blocks may turn hangs on the world. -/
import Derived.Test.YtlehgacbcacokaaW7
import Derived.Test.YtlehgacbcacokaaW10
namespace Go.Proofs.Ytlehgacbcacokaa
open Go.RowKit TreeMath RealMath

/-- what is asked of a function that is shown each node: of what it holds on to (own) it may turn all, of the rest nothing -/
structure SeeW (fn : Nat) (cp : Value) (top : Nat) {σ : Type} (step : σ → T → Nat → σ × Bool) (len : σ → Nat) (R : σ → World → Prop) (own : World → Nat → Prop) : Prop where
  call : ∀ (s : σ) (x : Hd) (ks : List T) (d : Nat) (w : World), top ≤ w.heap.size → d ≤ 100000 → len s + 1 ≤ 1000000 → R s w → Ok w top (.mk x ks) →
    Calls Try.prog fn #[nv x ks.length, .int .i64 d, cp] w fun e w' => e = .returned (.bool (step s (.mk x ks) d).2) ∧ R (step s (.mk x ks) d).1 w' ∧ Turned (own w) (own w') w w'
  enters : ∀ (args : Array Value) (w : World), (callFunc fn args).run Try.prog w = .ok (.enter fn args) w
  keep : ∀ s w w', R s w → Below w.heap.size w w' → R s w'
  same : ∀ s w w', R s w → Below w.heap.size w w' → own w' = own w
  up : ∀ s w c, R s w → own w c → top ≤ c
  lt : ∀ s w c, R s w → own w c → c < w.heap.size
  len1 : ∀ s t d, len (step s t d).1 ≤ len s + 1
theorem runs_len {σ : Type} {step : σ → T → Nat → σ × Bool} {len : σ → Nat} (h : ∀ s t d, len (step s t d).1 ≤ len s + 1) : ∀ (l : List (T × Nat)) (s : σ), len (runs step s l).1 ≤ len s + l.length
  | [], s => by simp [runs]
  | (t, d) :: l, s => by
    rw [runs, List.length_cons]
    have h1 := h s t d
    split
    · have := runs_len h l (step s t d).1; omega
    · simp only; omega
theorem preL_length (d : Nat) (ks : List T) : (preL d ks).length = (allL ks).length := by rw [← preL_fst d ks]; simp
theorem Turned.after2 {S S' : Nat → Prop} {own : World → Nat → Prop} {w w1 w2 : World} (hs : own w1 = S) (h : Below w.heap.size w w1) (k : Turned (own w1) S' w1 w2) : Turned S S' w w2 := by rw [hs] at k; exact k.after h
def WalkOfW (fn : Nat) (cp : Value) (top : Nat) {σ : Type} (step : σ → T → Nat → σ × Bool) (len : σ → Nat) (R : σ → World → Prop) (own : World → Nat → Prop) (t : T) : Prop :=
  ∀ (s : σ) (d : Nat) (w : World), top ≤ w.heap.size → d + depth t ≤ 100000 → len s + count t ≤ 1000000 → R s w → Ok w top t →
    Calls Try.prog 47 #[val t, .int .i64 d, .func (.func fn) #[] #[cp]] w fun e w' => e = .returned (.bool (runs step s (pre d t)).2) ∧ R (runs step s (pre d t)).1 w' ∧ Turned (own w) (own w') w w'
set_option maxHeartbeats 4000000 in
theorem walk_ofW (fn : Nat) (cp : Value) (top : Nat) {σ : Type} (step : σ → T → Nat → σ × Bool) (len : σ → Nat) (R : σ → World → Prop) (own : World → Nat → Prop) (hsee : SeeW fn cp top step len R own) : ∀ t, WalkOfW fn cp top step len R own t := by
  refine T.ind fun x ks IH => ?_
  intro s d w htop hd hln hR hok
  have HLN := Lib.hid hln
  have hln1 : len s + 1 ≤ 1000000 := by have := count_pos (.mk x ks); omega
  have HS1 := Lib.hid (hsee.len1 s (.mk x ks) d)
  have HRL := Lib.hid (runs_len hsee.len1)
  clear hln
  show Calls Try.prog 47 #[nv x ks.length, _, _] w _
  have hlen := hok.len
  unfold maxLen at hlen
  have HIH := Lib.hid IH; have HR := Lib.hid hR; have HOK := Lib.hid hok; have HSEE := Lib.hid hsee
  clear IH hR hok hsee
  have HRUN : Hid (runs step s (pre d (.mk x ks)) = if (step s (.mk x ks) d).2 then runs step (step s (.mk x ks) d).1 (preL (d + 1) ks) else ((step s (.mk x ks) d).1, false)) := by
    show _ = _; rw [pre, runs]
  have HDEP : Hid (∀ k ∈ ks, d + 1 + depth k ≤ 100000) := fun k hk => by have := depth_mem hk; rw [depth] at hd; omega
  have hd' : d ≤ 100000 := by omega
  clear hd
  have hen := HSEE.out.enters
  go_enter Try.func47, Try.ntmps47
  go_wp2_with fail
  have hB : Below w.heap.size w (w.alloc (.cells #[vb x.kind, .slice x.na x.names.length x.nc, .slice x.ka ks.length x.kc, .slice x.da x.data.length x.dc, .bool x.run, .float .f64 x.stamp, vs x.target] 27)) := (Below.refl _ _).alloc (Nat.le_refl _) _
  refine (HSEE.out.call s x ks d _ (Nat.le_trans htop hB.size) hd' hln1 (HSEE.out.keep _ _ _ HR.out hB) (HOK.out.keep (hB.mono htop))).mono ?_
  rintro e w1 ⟨rfl, hR1, ht1⟩
  have hsm := HSEE.out.same _ _ _ HR.out hB
  have HT1 := Lib.hid (Turned.after2 hsm hB ht1)
  have HR1 := Lib.hid hR1
  have c2 : w1.cell? ⟨w.heap.size, 2, none⟩ = some (.slice x.ka ks.length x.kc) :=
    (ht1.blk (Blk.new w 27 _) (fun hs => absurd (HSEE.out.lt s w _ HR.out (by rw [hsm] at hs; exact hs)) (Nat.lt_irrefl _))).cell 2
  have hs1 : w.heap.size < w1.heap.size := by have := ht1.size; simp at this; omega
  clear hR1 ht1 hB hsm
  generalize step s (.mk x ks) d = r at *
  obtain ⟨s1, b1⟩ := r
  cases b1 with
  | false =>
    go_wp2_with fail
    go_ret
    exact ⟨by rw [HRUN.out]; rfl, by rw [HRUN.out]; exact HR1.out, HT1.out⟩
  | true =>
    have HRUN' : Hid (runs step s (pre d (.mk x ks)) = runs step s1 (preL (d + 1) ks)) := by show _ = _; rw [HRUN.out]; rfl
    clear HRUN
    go_wp2_with fail
    go_loopw [17] (fun vi wr => ∃ i : Nat, i ≤ ks.length ∧ vi = .int .i64 i ∧ Hid (∃ si, runs step s1 (preL (d + 1) (ks.take i)) = (si, true) ∧ R si wr ∧ Turned (own w) (own wr) w wr)) (fun vi _ => ks.length - (intOf vi).toNat)
    case atStart => exact ⟨0, Nat.zero_le _, rfl, s1, by simp [preL, runs], HR1.out, HT1.out⟩
    case round =>
      obtain ⟨i, hi, rfl, HP⟩ := hrel
      rename World => W0
      clear c2 hs1 HR1 HT1
      by_cases hlt : i < ks.length
      · obtain ⟨si, hrun, hRi, hTi⟩ := HP.out
        have hbe : Below top w W0 := hTi.below (fun c hc => HSEE.out.up s w c HR.out hc) htop
        obtain ⟨a, oa, y, ly, hAe, hat, hy, hca⟩ := HOK.out.at.cells i hlt
        have hc := hca.same (hbe.block a hat)
        obtain ⟨a0, a1, a2, a3, a4, a5, a6⟩ := hc.seven
        have hs0 := hTi.size
        have hlk : len si + count ks[i] ≤ 1000000 := by
          have h1 := HRL.out (preL (d + 1) (ks.take i)) s1
          rw [hrun, preL_length] at h1
          have h2 := all_count_le (x := x) i hlt
          have h3 := HLN.out; have h4 := HS1.out
          simp only at h1 h4
          omega
        have HS : Hid (∀ W : World, Below W0.heap.size W0 W → Calls Try.prog 47 #[nv y ly.length, .int .i64 ((d : Int) + 1), .func (.func fn) #[] #[cp]] W fun e w' => e = .returned (.bool (runs step si (pre (d + 1) ks[i])).2) ∧ R (runs step si (pre (d + 1) ks[i])).1 w' ∧ Turned (own W) (own w') W w') := fun W hW => by
          have hsW := hW.size
          have := HIH.out ks[i] (List.getElem_mem _) si (d + 1) W (by omega) (HDEP.out _ (List.getElem_mem _)) hlk (HSEE.out.keep _ _ _ hRi hW) (((HOK.out.kid (List.getElem_mem hlt)).keep hbe).keep (hW.mono (by omega)))
          rw [hy] at this ⊢
          exact this
        have HT : Hid (runs step s1 (preL (d + 1) (ks.take (i + 1))) = runs step si (pre (d + 1) ks[i])) := by
          show _ = _; rw [preL_take _ _ _ hlt, runs_append, hrun]; rfl
        have HTI := Lib.hid hTi
        have HRI := Lib.hid hRi
        clear hc hca hRi hTi hrun hbe HP
        generalize runs step si (pre (d + 1) ks[i]) = r2 at *
        clear hy HIH HDEP
        obtain ⟨s2, b2⟩ := r2
        rw [hAe]
        go_wp2_with fail
        have hB2 : Below W0.heap.size W0 (W0.alloc (.cells #[vb y.kind, .slice y.na y.names.length y.nc, .slice y.ka ly.length y.kc, .slice y.da y.data.length y.dc, .bool y.run, .float .f64 y.stamp, vs y.target] 27)) := (Below.refl _ _).alloc (Nat.le_refl _) _
        refine (HS.out _ hB2).mono ?_
        rintro e w2 ⟨rfl, hR2, hT2⟩
        have HR2 := Lib.hid hR2
        have HT2 : Hid (Turned (own w) (own w2) w w2) := HTI.out.trans (Turned.after2 (HSEE.out.same _ _ _ HRI.out hB2) hB2 hT2)
        clear hR2 hT2 HTI hB2 HS
        cases b2 with
        | false =>
          go_wp2_with fail
          go_ret
          have he := HRUN'.out.trans (runs_stop step s1 (d + 1) ks (i + 1) s2 HT.out)
          exact ⟨by rw [he]; rfl, by rw [he]; exact HR2.out, HT2.out⟩
        | true =>
          go_wp2_with fail
          go_roundw
          case rel => exact ⟨i + 1, by omega, by go_num, s2, HT.out, HR2.out, HT2.out⟩
          case measure => simp [intOf]; omega
      · obtain rfl : i = ks.length := by omega
        obtain ⟨si, hrun, hRi, hTi⟩ := HP.out
        have HE : Hid (runs step s (pre d (.mk x ks)) = (si, true)) := by show _ = _; rw [HRUN'.out, ← hrun, List.take_length]
        have HRi := Lib.hid hRi; have HTi := Lib.hid hTi
        clear hrun hRi hTi HP
        go_wp2_with fail
        go_ret
        exact ⟨by rw [HE.out]; rfl, by rw [HE.out]; exact HRi.out, HTi.out⟩
end Go.Proofs.Ytlehgacbcacokaa
