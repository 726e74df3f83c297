/- The contracts of bare and fits. -/
import Derived.Test.YtlehgacbcacokaaW4
namespace Go.Proofs.Ytlehgacbcacokaa
open Go.RowKit TreeMath RealMath

theorem hdOk_zero (w : World) (top : Nat) : HdOk w top zero :=
  ⟨fun h => absurd h (by simp [zero]), fun h => absurd h (by simp [zero]), fun _ => rfl, by simp [zero], by simp [zero], by simp [zero], fun h => absurd h (by simp [zero]), fun h => absurd h (by simp [zero]), fun _ => rfl, by simp [zero], by simp [zero], by simp [zero], by simp [zero], fun _ => rfl⟩
theorem ok_zero (w : World) (top : Nat) : Ok w top zeroT := .mk zero [] (hdOk_zero w top) (by simp) (by simp [zero]) (fun h => absurd h (by simp)) (fun k hk => by cases hk)
set_option maxHeartbeats 1000000 in
theorem bare_any (x : Hd) (ks : List T) (top : Nat) (w : World) (htop : top ≤ w.heap.size) (h : Ok w top (.mk x ks)) :
    Calls Try.prog 81 #[nv x ks.length] w fun e w' => e = .returned (.bool (same (.mk x ks) zeroT)) ∧ Below w.heap.size w w' := by
  have H := Lib.hid h; clear h
  go_enter Try.func81, Try.ntmps81
  go_wp2_with fail
  have hB : Below w.heap.size w (w.alloc (.cells #[vb x.kind, .slice x.na x.names.length x.nc, .slice x.ka ks.length x.kc, .slice x.da x.data.length x.dc, .bool x.run, .float .f64 x.stamp, vs x.target] 27)) := (Below.refl _ _).alloc (Nat.le_refl _) _
  refine (same_of top (.mk x ks) zeroT _ (Nat.le_trans htop hB.size) (H.out.keep (hB.mono htop)) (ok_zero _ _)).mono ?_
  rintro e w1 ⟨rfl, hb1⟩
  have HB1 : Hid (Below w.heap.size w w1) := hB.trans (hb1.mono hB.size)
  clear hb1 hB
  go_wp2_with fail
  go_ret
  exact ⟨rfl, HB1.out⟩
def dirRest (x : Hd) : Hd := ⟨0, none, 0, [], none, 0, x.da, x.dc, x.data, x.run, x.stamp, x.target⟩
def fileRest (x : Hd) : Hd := ⟨0, x.na, x.nc, x.names, x.ka, x.kc, none, 0, [], false, 0, x.target⟩
def linkRest (x : Hd) : Hd := ⟨0, x.na, x.nc, x.names, x.ka, x.kc, x.da, x.dc, x.data, x.run, x.stamp, []⟩
theorem dirRest_ok {w : World} {top : Nat} {x : Hd} {ks : List T} (h : Ok w top (.mk x ks)) : Ok w top (.mk (dirRest x) []) :=
  .mk _ _ ⟨fun h => absurd h (by simp [dirRest]), fun h => absurd h (by simp [dirRest]), fun _ => rfl, by simp [dirRest], by simp [dirRest], by simp [dirRest], h.hd.dsrc, h.hd.dlt, h.hd.dnil, h.hd.dcap, h.hd.dlen, h.hd.stamp, h.hd.tlen, fun _ => rfl⟩ (by simp) (by simp) (fun h => absurd h (by simp)) (fun k hk => by cases hk)
theorem fileRest_ok {w : World} {top : Nat} {x : Hd} {ks : List T} (h : Ok w top (.mk x ks)) : Ok w top (.mk (fileRest x) ks) :=
  .mk _ _ ⟨h.hd.nsrc, h.hd.nlt, h.hd.nnil, h.hd.ncap, h.hd.nlen, h.hd.neach, fun h => absurd h (by simp [fileRest]), fun h => absurd h (by simp [fileRest]), fun _ => rfl, by simp [fileRest], by simp [fileRest], by simp [fileRest], h.hd.tlen, h.hd.knil⟩ h.len h.cap h.at (fun k hk => h.kid hk)
theorem linkRest_ok {w : World} {top : Nat} {x : Hd} {ks : List T} (h : Ok w top (.mk x ks)) : Ok w top (.mk (linkRest x) ks) :=
  .mk _ _ ⟨h.hd.nsrc, h.hd.nlt, h.hd.nnil, h.hd.ncap, h.hd.nlen, h.hd.neach, h.hd.dsrc, h.hd.dlt, h.hd.dnil, h.hd.dcap, h.hd.dlen, h.hd.stamp, by simp [linkRest], h.hd.knil⟩ h.len h.cap h.at (fun k hk => h.kid hk)
theorem dir_same (x : Hd) : same (.mk (dirRest x) []) zeroT = (noFile x && decide (x.target = [])) := by
  rw [same_zero]
  by_cases h1 : x.run = false <;> by_cases h2 : x.target = [] <;> by_cases h3 : canonB x.stamp = 0 <;> by_cases h4 : x.data = [] <;> simp [dirRest, noFile, h1, h2, h3, h4]
theorem file_same (x : Hd) (ks : List T) : same (.mk (fileRest x) ks) zeroT = (decide (x.names = []) && decide (ks.length = 0) && decide (x.target = [])) := by
  rw [same_zero]
  have h0 : canonB 0 = 0 := by decide
  by_cases h1 : x.names = [] <;> by_cases h2 : x.target = [] <;> by_cases h3 : ks.length = 0 <;> simp [fileRest, h0, h1, h2, h3]
theorem link_same (x : Hd) (ks : List T) : same (.mk (linkRest x) ks) zeroT = (decide (x.names = []) && decide (ks.length = 0) && noFile x) := by
  rw [same_zero]
  by_cases h1 : x.names = [] <;> by_cases h2 : x.run = false <;> by_cases h3 : ks.length = 0 <;> by_cases h4 : canonB x.stamp = 0 <;> by_cases h5 : x.data = [] <;> simp [linkRest, noFile, h1, h2, h3, h4, h5]
end Go.Proofs.Ytlehgacbcacokaa
