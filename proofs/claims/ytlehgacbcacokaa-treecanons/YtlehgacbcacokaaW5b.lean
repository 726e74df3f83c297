/- The contract of fits. -/
import Derived.Test.YtlehgacbcacokaaW5
namespace Go.Proofs.Ytlehgacbcacokaa
open Go.RowKit TreeMath RealMath

set_option maxHeartbeats 2000000 in
theorem fits_any (x : Hd) (ks : List T) (top : Nat) (w : World) (htop : top ≤ w.heap.size) (h : Ok w top (.mk x ks)) :
    Calls Try.prog 49 #[nv x ks.length] w fun e w' => e = .returned (.bool (fitsB (.mk x ks))) ∧ Below w.heap.size w w' := by
  have H := Lib.hid h; clear h
  have hB : Hid (Below w.heap.size w (w.alloc (.cells #[vb x.kind, .slice x.na x.names.length x.nc, .slice x.ka ks.length x.kc, .slice x.da x.data.length x.dc, .bool x.run, .float .f64 x.stamp, vs x.target] 27))) := (Below.refl _ _).alloc (Nat.le_refl _) _
  have HF : Hid (fitsB (.mk x ks) = _) := Lib.hid (by rw [fitsB])
  by_cases k1 : x.kind = 1
  · have e1 : ((x.kind.toNat : Int) == 1) = true := by rw [k1]; rfl
    rw [if_pos k1] at HF
    clear k1
    by_cases hl : x.names.length = ks.length
    · have el : ((x.names.length : Int) == (ks.length : Int)) = true := by rw [hl]; simp
      rw [decide_eq_true hl] at HF
      clear hl
      go_enter Try.func49, Try.ntmps49
      go_wp2_with fail
      refine (names_any x.na x.nc x.names H.out.hd.nlen _ (H.out.hd.nsrc.below hB.out H.out.hd.nsrc.lt)).mono ?_
      rintro e w1 ⟨rfl, rfl⟩
      generalize namesOk x.names = b at *
      cases b with
      | false =>
        go_wp2_with fail
        go_ret
        exact ⟨by rw [HF.out]; rfl, hB.out⟩
      | true =>
        go_wp2_with fail
        refine (bare_any (dirRest x) [] top _ (Nat.le_trans htop hB.out.size) ((dirRest_ok H.out).keep (hB.out.mono htop))).mono ?_
        rintro e w1 ⟨rfl, hb1⟩
        have HB1 : Hid (Below w.heap.size w w1) := hB.out.trans (hb1.mono hB.out.size)
        clear hb1
        rw [dir_same]
        generalize noFile x = b1 at *
        generalize decide (x.target = []) = b2 at *
        go_wp2_with fail
        go_ret
        exact ⟨by rw [HF.out]; rfl, HB1.out⟩
    · have el : ((x.names.length : Int) == (ks.length : Int)) = false := by rw [beq_eq_false_iff_ne]; omega
      have el' : (x.names.length == ks.length) = false := by rw [beq_eq_false_iff_ne]; omega
      rw [decide_eq_false hl] at HF
      clear hl
      go_enter Try.func49, Try.ntmps49
      go_wp2_with fail
      go_ret
      exact ⟨by rw [HF.out]; rfl, hB.out⟩
  · have e1 : ((x.kind.toNat : Int) == 1) = false := by rw [show (1 : Int) = ((1 : By).toNat : Int) from rfl, vb_eq]; exact decide_eq_false k1
    rw [if_neg k1] at HF
    clear k1
    by_cases k2 : x.kind = 2
    · have e2 : ((x.kind.toNat : Int) == 2) = true := by rw [k2]; rfl
      rw [if_pos k2] at HF
      clear k2
      by_cases hl : x.data.length ≤ 1024
      · have el : (x.data.length : Int) ≤ 1024 := by omega
        rw [decide_eq_true hl] at HF
        go_enter Try.func49, Try.ntmps49
        go_wp2_with fail
        refine (bare_any (fileRest x) ks top _ (Nat.le_trans htop hB.out.size) ((fileRest_ok H.out).keep (hB.out.mono htop))).mono ?_
        rintro e w1 ⟨rfl, hb1⟩
        have HB1 : Hid (Below w.heap.size w w1) := hB.out.trans (hb1.mono hB.out.size)
        clear hb1
        rw [file_same]
        have HF' : Hid (fitsB (.mk x ks) = (decide (x.names = []) && decide (ks.length = 0) && decide (x.target = []))) := by
          show _ = _; rw [HF.out]; rfl
        clear HF
        generalize (decide (x.names = []) && decide (ks.length = 0) && decide (x.target = [])) = b1 at *
        go_wp2_with fail
        go_ret
        exact ⟨by rw [HF'.out]; rfl, HB1.out⟩
      · have el : ¬ (x.data.length : Int) ≤ 1024 := by omega
        rw [decide_eq_false hl] at HF
        go_enter Try.func49, Try.ntmps49
        go_wp2_with fail
        go_ret
        exact ⟨by rw [HF.out]; rfl, hB.out⟩
    · have e2 : ((x.kind.toNat : Int) == 2) = false := by rw [show (2 : Int) = ((2 : By).toNat : Int) from rfl, vb_eq]; exact decide_eq_false k2
      rw [if_neg k2] at HF
      clear k2
      by_cases k3 : x.kind = 3
      · have e3 : ((x.kind.toNat : Int) == 3) = true := by rw [k3]; rfl
        rw [if_pos k3] at HF
        clear k3
        by_cases h1 : 1 ≤ x.target.length
        · have h1' : (1 : Int) ≤ x.target.length := by omega
          rw [decide_eq_true h1] at HF
          by_cases h2 : x.target.length ≤ 1024
          · have h2' : (x.target.length : Int) ≤ 1024 := by omega
            rw [decide_eq_true h2] at HF
            go_enter Try.func49, Try.ntmps49
            go_wp2_with fail
            refine (bare_any (linkRest x) ks top _ (Nat.le_trans htop hB.out.size) ((linkRest_ok H.out).keep (hB.out.mono htop))).mono ?_
            rintro e w1 ⟨rfl, hb1⟩
            have HB1 : Hid (Below w.heap.size w w1) := hB.out.trans (hb1.mono hB.out.size)
            clear hb1
            rw [link_same]
            have HF' : Hid (fitsB (.mk x ks) = (decide (x.names = []) && decide (ks.length = 0) && noFile x)) := by
              show _ = _; rw [HF.out]; rfl
            clear HF
            generalize (decide (x.names = []) && decide (ks.length = 0) && noFile x) = b1 at *
            go_wp2_with fail
            go_ret
            exact ⟨by rw [HF'.out]; rfl, HB1.out⟩
          · have h2' : ¬ (x.target.length : Int) ≤ 1024 := by omega
            rw [decide_eq_false h2] at HF
            go_enter Try.func49, Try.ntmps49
            go_wp2_with fail
            go_ret
            exact ⟨by rw [HF.out]; rfl, hB.out⟩
        · have h1' : ¬ (1 : Int) ≤ x.target.length := by omega
          rw [decide_eq_false h1] at HF
          go_enter Try.func49, Try.ntmps49
          go_wp2_with fail
          go_ret
          exact ⟨by rw [HF.out]; rfl, hB.out⟩
      · have e3 : ((x.kind.toNat : Int) == 3) = false := by rw [show (3 : Int) = ((3 : By).toNat : Int) from rfl, vb_eq]; exact decide_eq_false k3
        rw [if_neg k3] at HF
        clear k3
        go_enter Try.func49, Try.ntmps49
        go_wp2_with fail
        go_ret
        exact ⟨by rw [HF.out]; rfl, hB.out⟩
end Go.Proofs.Ytlehgacbcacokaa
