/- The functions that another is handed, and Canon. -/
import Derived.Test.YtlehgacbcacokaaV3
import Derived.Test.YtlehgacbcacokaaW19
namespace Go.Proofs.Ytlehgacbcacokaa
open Go.RowKit TreeMath RealMath

theorem canon_lt (b : Nat) (h : b < 18446744073709551616) : canonB b < 18446744073709551616 := by
  by_cases h1 : isNan b = true
  · rw [canonB_nan h1]; decide
  · have h1' : isNan b = false := by simpa using h1
    by_cases h2 : b = SW
    · rw [h2]; decide
    · rw [canonB_num h1' h2]; exact h
theorem stamp_canon : Stamp 62 canonB := ⟨fun b w h => canon_any b h w, enters_of Try.func62 (by kernel_rfl) rfl, canon_lt⟩
set_option maxHeartbeats 400000 in
theorem id_any (b : Nat) (w : World) : Calls Try.prog 66 #[.float .f64 b] w fun e w' => e = .returned (.float .f64 b) ∧ w = w' := by
  go_enter Try.func66, Try.ntmps66
  go_wp2
  go_ret
  exact ⟨rfl, rfl⟩
theorem stamp_id : Stamp 66 id := ⟨fun b w _ => id_any b w, enters_of Try.func66 (by kernel_rfl) rfl, fun _ h => h⟩
set_option maxHeartbeats 4000000 in
theorem treeCanon_any (x : Hd) (ks : List T) (top : Nat) (w : World) (htop : top ≤ w.heap.size) (hok : Ok w top (.mk x ks)) (hcn : count (.mk x ks) ≤ 90000) (hfew : Few (.mk x ks)) (hsize : size (.mk x ks) ≤ 90000) :
    Calls Try.prog 29 #[nv x ks.length] w (AnPost canonB (.mk x ks) w) := by
  have HOK := Lib.hid hok; have HF := Lib.hid hfew; have HC := Lib.hid hcn; have HSZ := Lib.hid hsize
  clear hok hfew hcn hsize
  go_enter Try.func29, Try.ntmps29
  go_wp2_with fail
  have hb0 : Below w.heap.size w ((w.alloc (.cells #[vb x.kind, .slice x.na x.names.length x.nc, .slice x.ka ks.length x.kc, .slice x.da x.data.length x.dc, .bool x.run, .float .f64 x.stamp, vs x.target] 27)).alloc (.cells #[.int .u8 0, .slice none 0 0, .slice none 0 0, .slice none 0 0, .bool false, .float .f64 0, .string ⟨#[]⟩] 27)) := ((Below.refl _ _).alloc (Nat.le_refl _) _).alloc (by simp) _
  have b4 := Blk.new (w.alloc (.cells #[vb x.kind, .slice x.na x.names.length x.nc, .slice x.ka ks.length x.kc, .slice x.da x.data.length x.dc, .bool x.run, .float .f64 x.stamp, vs x.target] 27)) 27 #[.int .u8 0, .slice none 0 0, .slice none 0 0, .slice none 0 0, .bool false, .float .f64 0, .string ⟨#[]⟩]
  rw [World.size_alloc] at b4
  have hs : ((w.alloc (.cells #[vb x.kind, .slice x.na x.names.length x.nc, .slice x.ka ks.length x.kc, .slice x.da x.data.length x.dc, .bool x.run, .float .f64 x.stamp, vs x.target] 27)).alloc (.cells #[.int .u8 0, .slice none 0 0, .slice none 0 0, .slice none 0 0, .bool false, .float .f64 0, .string ⟨#[]⟩] 27)).heap.size = w.heap.size + 2 := by simp
  generalize (w.alloc (.cells #[vb x.kind, .slice x.na x.names.length x.nc, .slice x.ka ks.length x.kc, .slice x.da x.data.length x.dc, .bool x.run, .float .f64 x.stamp, vs x.target] 27)).alloc (.cells #[.int .u8 0, .slice none 0 0, .slice none 0 0, .slice none 0 0, .bool false, .float .f64 0, .string ⟨#[]⟩] 27) = W1 at *
  refine (another_of 62 canonB stamp_canon top (.mk x ks) W1 (Nat.le_trans htop hb0.size) (HOK.out.keep (hb0.mono htop)) HC.out HF.out HSZ.out).mono ?_
  rintro e w1 ⟨y, ly, rfl, hok, hin, hal, hb, hown⟩
  rw [hs] at hin
  have hbx : Blk w1 (w.heap.size + 1) 27 [.int .u8 0, .slice none 0 0, .slice none 0 0, .slice none 0 0, .bool false, .float .f64 0, .string ⟨#[]⟩] := b4.below hb (by omega)
  have hB1 := hb0.trans (hb.mono (by omega))
  have key := set7_other w1 (w.heap.size + 1) (vb y.kind) (.slice y.na y.names.length y.nc) (.slice y.ka ly.length y.kc) (.slice y.da y.data.length y.dc) (.bool y.run) (.float .f64 y.stamp) (vs y.target)
  have hsz := set7_size w1 (w.heap.size + 1) (vb y.kind) (.slice y.na y.names.length y.nc) (.slice y.ka ly.length y.kc) (.slice y.da y.data.length y.dc) (.bool y.run) (.float .f64 y.stamp) (vs y.target)
  have bk := set7_blk hbx rfl (vb y.kind) (.slice y.na y.names.length y.nc) (.slice y.ka ly.length y.kc) (.slice y.da y.data.length y.dc) (.bool y.run) (.float .f64 y.stamp) (vs y.target)
  have be := set7_below hB1 (w.heap.size + 1) (by omega) (vb y.kind) (.slice y.na y.names.length y.nc) (.slice y.ka ly.length y.kc) (.slice y.da y.data.length y.dc) (.bool y.run) (.float .f64 y.stamp) (vs y.target)
  rw [hs] at hown
  have HOWN : Hid (Own3 w.heap.size y ly (set7 w1 (w.heap.size + 1) (vb y.kind) (.slice y.na y.names.length y.nc) (.slice y.ka ly.length y.kc) (.slice y.da y.data.length y.dc) (.bool y.run) (.float .f64 y.stamp) (vs y.target))) := ⟨own_weak (own_same hown.ns fun c h1 _ => key c (by omega)) (by omega), own_weak (own_same hown.ds fun c h1 _ => key c (by omega)) (by omega), own_weak (own_same hown.ks fun c h1 _ => key c (by omega)) (by omega)⟩
  have HKEY := Lib.hid key; have HSZ9 := Lib.hid hsz; have HBK := Lib.hid bk; have HBE := Lib.hid be; have HO := Lib.hid hok; have HI := Lib.hid hin; have HAL := Lib.hid hal
  have k0 := hbx.cell 0; have k1 := hbx.cell 1; have k2 := hbx.cell 2; have k3 := hbx.cell 3; have k4 := hbx.cell 4; have k5 := hbx.cell 5; have k6 := hbx.cell 6
  have f0 := hbx.frozen 0; have f1 := hbx.frozen 1; have f2 := hbx.frozen 2; have f3 := hbx.frozen 3; have f4 := hbx.frozen 4; have f5 := hbx.frozen 5; have f6 := hbx.frozen 6
  have hl6 := hbx.lt
  simp only [List.getElem?_cons_zero, List.getElem?_cons_succ] at k0 k1 k2 k3 k4 k5 k6
  clear hown key hsz bk be hok hin hal hb hbx hB1 b4 hb0 hs
  go_wp2_with fail
  change bodyPost _ _ _ _ _ (set7 w1 (w.heap.size + 1) (vb y.kind) (.slice y.na y.names.length y.nc) (.slice y.ka ly.length y.kc) (.slice y.da y.data.length y.dc) (.bool y.run) (.float .f64 y.stamp) (vs y.target))
  clear k0 k1 k2 k3 k4 k5 k6 f0 f1 f2 f3 f4 f5 f6
  generalize set7 w1 (w.heap.size + 1) (vb y.kind) (.slice y.na y.names.length y.nc) (.slice y.ka ly.length y.kc) (.slice y.da y.data.length y.dc) (.bool y.run) (.float .f64 y.stamp) (vs y.target) = W9 at *
  have e0 := HBK.out.cell 0; have e1 := HBK.out.cell 1; have e2 := HBK.out.cell 2; have e3 := HBK.out.cell 3; have e4 := HBK.out.cell 4; have e5 := HBK.out.cell 5; have e6 := HBK.out.cell 6
  simp only [List.getElem?_cons_zero, List.getElem?_cons_succ] at e0 e1 e2 e3 e4 e5 e6
  exact bodyPost_ret (v := nv y ly.length) (by simp [results, Try.results29, go_sem, e0, e1, e2, e3, e4, e5, e6]) rfl ⟨y, ly, rfl, HO.out.turn HI.out (fun c hc _ => HKEY.out c (by omega)) (fun c _ hl => by rw [HSZ9.out]; exact hl), HI.out.mono (fun c hc => by omega), HAL.out, HBE.out, HOWN.out⟩
end Go.Proofs.Ytlehgacbcacokaa
