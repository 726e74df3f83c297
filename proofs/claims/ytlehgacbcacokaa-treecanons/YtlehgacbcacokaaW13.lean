/- The contracts of the reference's Right, of the document's example, and of great. -/
import Derived.Test.YtlehgacbcacokaaW12
import Derived.Test.YtlehgacbcacokaaW9
namespace Go.Proofs.Ytlehgacbcacokaa
open Go.RowKit TreeMath RealMath

theorem rightB_eq (t : T) : rightB t = (formB t && decide (depth t ≤ 8) && decide (count t ≤ 64)) := by
  unfold rightB; rw [formB_all]
  generalize decide (count t ≤ 64) = a; generalize decide (depth t ≤ 8) = b; generalize (all t).all fitsB = c
  cases a <;> cases b <;> cases c <;> rfl
set_option maxHeartbeats 2000000 in
theorem rright_any (x : Hd) (ks : List T) (top : Nat) (w : World) (htop : top ≤ w.heap.size) (hok : Ok w top (.mk x ks)) (hn : count (.mk x ks) ≤ 90000) (hf : Few (.mk x ks)) :
    Calls Try.prog 17 #[nv x ks.length] w fun e w' => e = .returned (.bool (rightB (.mk x ks))) ∧ Below w.heap.size w w' := by
  have HOK := Lib.hid hok; have HN := Lib.hid hn; have HF := Lib.hid hf
  have HE := Lib.hid (rightB_eq (.mk x ks))
  have hcb : count (.mk x ks) ≤ 90000 := hn
  have hdb : depth (.mk x ks) ≤ 90000 := Nat.le_trans (depth_count _) hn
  clear hok hn hf
  go_enter Try.func17, Try.ntmps17
  go_wp2_with fail
  have hbox := Blk.new w 27 #[vb x.kind, .slice x.na x.names.length x.nc, .slice x.ka ks.length x.kc, .slice x.da x.data.length x.dc, .bool x.run, .float .f64 x.stamp, vs x.target]
  have hB1 : Below w.heap.size w (w.alloc (.cells #[vb x.kind, .slice x.na x.names.length x.nc, .slice x.ka ks.length x.kc, .slice x.da x.data.length x.dc, .bool x.run, .float .f64 x.stamp, vs x.target] 27)) := (Below.refl _ _).alloc (Nat.le_refl _) _
  have hs1 : (w.alloc (.cells #[vb x.kind, .slice x.na x.names.length x.nc, .slice x.ka ks.length x.kc, .slice x.da x.data.length x.dc, .bool x.run, .float .f64 x.stamp, vs x.target] 27)).heap.size = w.heap.size + 1 := by simp
  generalize w.alloc (.cells #[vb x.kind, .slice x.na x.names.length x.nc, .slice x.ka ks.length x.kc, .slice x.da x.data.length x.dc, .bool x.run, .float .f64 x.stamp, vs x.target] 27) = W1 at *
  have HBOX := Lib.hid hbox; have HB1 := Lib.hid hB1; have HS1 := Lib.hid hs1
  clear hbox hB1 hs1
  refine (form_of top (.mk x ks) W1 (by have := HS1.out; omega) (HOK.out.keep (HB1.out.mono htop)) HN.out HF.out).mono ?_
  rintro e w1 ⟨rfl, hb1⟩
  have HB2 : Hid (Below (w.heap.size + 1) W1 w1) := hb1.mono (by have := HS1.out; omega)
  clear hb1
  generalize formB (.mk x ks) = bf at *
  cases bf with
  | false =>
    go_wp2_with fail
    go_ret
    exact ⟨by rw [HE.out]; rfl, HB1.out.trans (HB2.out.mono (by omega))⟩
  | true =>
    have hblk := HBOX.out.below HB2.out (by omega)
    have c0 := hblk.cell 0; have c1 := hblk.cell 1; have c2 := hblk.cell 2; have c3 := hblk.cell 3; have c4 := hblk.cell 4; have c5 := hblk.cell 5; have c6 := hblk.cell 6
    simp only [List.getElem?_cons_zero, List.getElem?_cons_succ] at c0 c1 c2 c3 c4 c5 c6
    clear hblk
    go_wp2_with fail
    have hsz : top ≤ w1.heap.size := by have := HB2.out.size; have := HS1.out; omega
    refine (rdepth_of top (.mk x ks) w1 hsz (HOK.out.keep ((HB1.out.mono htop).trans (HB2.out.mono (by omega)))) HN.out).mono ?_
    rintro e w2 ⟨rfl, hb2⟩
    have HB3 : Hid (Below (w.heap.size + 1) W1 w2) := HB2.out.trans (hb2.mono (by have := HB2.out.size; have := HS1.out; omega))
    clear hb2 c0 c1 c2 c3 c4 c5 c6 hsz
    generalize depth (.mk x ks) = dd at *
    have hblk := HBOX.out.below HB3.out (by omega)
    have c0 := hblk.cell 0; have c1 := hblk.cell 1; have c2 := hblk.cell 2; have c3 := hblk.cell 3; have c4 := hblk.cell 4; have c5 := hblk.cell 5; have c6 := hblk.cell 6
    simp only [List.getElem?_cons_zero, List.getElem?_cons_succ] at c0 c1 c2 c3 c4 c5 c6
    clear hblk
    by_cases h8 : dd ≤ 8
    · have h8' : decide ((dd : Int) ≤ 8) = true := decide_eq_true (by omega)
      rw [decide_eq_true h8] at HE
      go_wp2_with fail
      have hsz : top ≤ w2.heap.size := by have := HB3.out.size; have := HS1.out; omega
      refine (all_of top (.mk x ks) w2 hsz (HOK.out.keep ((HB1.out.mono htop).trans (HB3.out.mono (by omega)))) HN.out).mono ?_
      rintro e w3 ⟨v, rfl, hnod, hb3⟩
      have HB4 : Hid (Below w.heap.size w w3) := HB1.out.trans ((HB3.out.mono (by omega)).trans (hb3.mono (by have := HB3.out.size; have := HS1.out; omega)))
      obtain ⟨g, c, rfl, -, -, -, -, -⟩ := hnod.at (count_pos (.mk x ks))
      clear hb3 hnod c0 c1 c2 c3 c4 c5 c6
      change (all (T.mk x ks)).length ≤ 90000 at hcb
      unfold count at HE
      generalize (all (T.mk x ks)).length = cc at *
      by_cases h64 : cc ≤ 64
      · have h64' : decide ((cc : Int) ≤ 64) = true := decide_eq_true (by omega)
        rw [decide_eq_true h64] at HE
        go_wp2_with fail
        go_ret
        exact ⟨by rw [HE.out]; rfl, HB4.out⟩
      · have h64' : decide ((cc : Int) ≤ 64) = false := decide_eq_false (by omega)
        rw [decide_eq_false h64] at HE
        go_wp2_with fail
        go_ret
        exact ⟨by rw [HE.out]; rfl, HB4.out⟩
    · have h8' : decide ((dd : Int) ≤ 8) = false := decide_eq_false (by omega)
      rw [decide_eq_false h8] at HE
      go_wp2_with fail
      go_ret
      exact ⟨by rw [HE.out]; rfl, HB1.out.trans (HB3.out.mono (by omega))⟩
end Go.Proofs.Ytlehgacbcacokaa
