/- The contract of the reference's Make. -/
import Derived.Test.YtlehgacbcacokaaG16
import Derived.Test.YtlehgacbcacokaaG9
import Derived.Test.YtlehgacbcacokaaG13
import Derived.Deep.RegionHeld3
import Derived.Test.YtlehgacbcacokaaG14
import Derived.Laws.IdiomStrings
namespace Go.Proofs.Ytlehgacbcacokaa
open Go.RowKit TreeMath RealMath

/-- a tree that may be -/
structure MadeR (t : T) : Prop where
  fits : (all t).all fitsB = true
  depth : depth t ≤ 8
  count : count t ≤ 40
theorem Mades.take {w : World} {B : Nat} {A : Option Addr} {l : List Md} (h : Mades w B A l) (n : Nat) : Mades w B A (l.take n) := by
  refine ⟨fun h0 => ?_, fun m hm => h.each m (List.mem_of_mem_take hm), fun m hm => h.low m (List.mem_of_mem_take hm), h.le⟩
  obtain ⟨b, o, e, hb, hc⟩ := h.at_ (by simp at h0; omega)
  exact ⟨b, o, e, hb, fun i hi => by rw [List.getElem_take]; exact hc i (by simp at hi; omega)⟩
def MkPost (B : Nat) (w : World) (e : Ending) (w' : World) : Prop := ∃ y ly, e = .returned (nv y ly.length) ∧ Ok w' w'.heap.size (.mk y ly) ∧ InS (fun c => c < B ∨ w.heap.size ≤ c) (.mk y ly) ∧ MadeR (.mk y ly) ∧ Below w.heap.size w w'
/-- the call of kids, as Make has it -/
theorem kids_top (l : List Md) (A : Option Addr) (c B : Nat) (w : World) (h0 : 0 < l.length) (hl : l.length ≤ 40) (hdata : ∀ x ∈ l, x.data.length ≤ 200) (hm : Mades w B A l) :
    Calls Try.prog 55 #[.slice A l.length c, .int .i64 0, .int .i64 1] w (MkPost B w) := by
  have := kids_of l 7 A c B 0 1 w (by omega) (by omega) h0 hl hdata hm
  exact this.mono fun e w' ⟨t, h1, h2, h3, h4, h5⟩ => by
    obtain ⟨y, ly⟩ := t
    exact ⟨y, ly, h1, h2, h3, ⟨h4.fits, by have := h4.depth; omega, by have := h4.count; have := cnt_le (parOf l) l.length 0; omega⟩, h5⟩
set_option maxHeartbeats 4000000 in
theorem make_end (B : Nat) (w w1 : World) (y : Hd) (ly : List T) (hBw : B ≤ w.heap.size) (hblk : Blk w1 w.heap.size 27 [.int .u8 0, .slice none 0 0, .slice none 0 0, .slice none 0 0, .bool false, .float .f64 0, .string ⟨#[]⟩]) (hok : Ok w1 w1.heap.size (.mk y ly)) (hin : InS (fun c => c < B ∨ w.heap.size + 1 ≤ c) (.mk y ly)) (hb : Below w.heap.size w w1) :
    Blk (set7 w1 w.heap.size (vb y.kind) (.slice y.na y.names.length y.nc) (.slice y.ka ly.length y.kc) (.slice y.da y.data.length y.dc) (.bool y.run) (.float .f64 y.stamp) (vs y.target)) w.heap.size 27 (cellsT (.mk y ly)) ∧
    Ok (set7 w1 w.heap.size (vb y.kind) (.slice y.na y.names.length y.nc) (.slice y.ka ly.length y.kc) (.slice y.da y.data.length y.dc) (.bool y.run) (.float .f64 y.stamp) (vs y.target)) (set7 w1 w.heap.size (vb y.kind) (.slice y.na y.names.length y.nc) (.slice y.ka ly.length y.kc) (.slice y.da y.data.length y.dc) (.bool y.run) (.float .f64 y.stamp) (vs y.target)).heap.size (.mk y ly) ∧
    Below w.heap.size w (set7 w1 w.heap.size (vb y.kind) (.slice y.na y.names.length y.nc) (.slice y.ka ly.length y.kc) (.slice y.da y.data.length y.dc) (.bool y.run) (.float .f64 y.stamp) (vs y.target)) := by
  have key := set7_other w1 w.heap.size (vb y.kind) (.slice y.na y.names.length y.nc) (.slice y.ka ly.length y.kc) (.slice y.da y.data.length y.dc) (.bool y.run) (.float .f64 y.stamp) (vs y.target)
  have hsz := set7_size w1 w.heap.size (vb y.kind) (.slice y.na y.names.length y.nc) (.slice y.ka ly.length y.kc) (.slice y.da y.data.length y.dc) (.bool y.run) (.float .f64 y.stamp) (vs y.target)
  exact ⟨set7_blk hblk rfl _ _ _ _ _ _ _, hok.turn hin (fun c hc _ => key c (by rcases hc with e | e <;> omega)) (fun c _ hl => by rw [hsz]; exact hl), set7_below hb _ (Nat.le_refl _) _ _ _ _ _ _ _⟩
set_option maxHeartbeats 8000000 in
theorem make_any (l : List Md) (A : Option Addr) (c B : Nat) (w : World) (hl : l.length ≤ 60) (hcap : l.length ≤ c) (hcm : c ≤ maxLen) (hdata : ∀ x ∈ l, x.data.length ≤ 200) (hm : Mades w B A l) :
    Calls Try.prog 25 #[.slice A l.length c] w (MkPost B w) := by
  have hBw := hm.le
  unfold maxLen at hcm
  have HM := Lib.hid hm; have HD := Lib.hid hdata
  clear hm hdata
  have HB : Hid (∀ o, Below w.heap.size w (w.alloc o)) := fun o => (Below.refl _ _).alloc (Nat.le_refl _) _
  have HBX : Hid (Blk (w.alloc (.cells #[.int .u8 0, .slice none 0 0, .slice none 0 0, .slice none 0 0, .bool false, .float .f64 0, .string ⟨#[]⟩] 27)) w.heap.size 27 [.int .u8 0, .slice none 0 0, .slice none 0 0, .slice none 0 0, .bool false, .float .f64 0, .string ⟨#[]⟩]) := Blk.new w 27 _
  by_cases h0 : 0 < l.length
  · have e0 : ((l.length : Int) == 0) = false := by rw [beq_eq_false_iff_ne]; omega
    have e0' : (l.length == 0) = false := by rw [beq_eq_false_iff_ne]; omega
    by_cases h4 : 40 < l.length
    · have e4 : decide ((40 : Int) < l.length) = true := decide_eq_true (by omega)
      obtain ⟨b, o, rfl, -⟩ := HM.out.at_ h0
      have HK : Hid (Calls Try.prog 55 #[.slice (some ⟨b, o, none⟩) 40 c, .int .i64 0, .int .i64 1] (w.alloc (.cells #[.int .u8 0, .slice none 0 0, .slice none 0 0, .slice none 0 0, .bool false, .float .f64 0, .string ⟨#[]⟩] 27)) (MkPost B (w.alloc (.cells #[.int .u8 0, .slice none 0 0, .slice none 0 0, .slice none 0 0, .bool false, .float .f64 0, .string ⟨#[]⟩] 27)))) := by
        have := kids_top (l.take 40) (some ⟨b, o, none⟩) c B _ (by simp; omega) (by simp; omega) (fun x hx => HD.out x (List.mem_of_mem_take hx)) ((HM.out.keep ((HB.out (.cells #[.int .u8 0, .slice none 0 0, .slice none 0 0, .slice none 0 0, .bool false, .float .f64 0, .string ⟨#[]⟩] 27)).mono hBw)).take 40)
        rw [List.length_take, Nat.min_eq_left (by omega)] at this; exact this
      go_enter Try.func25, Try.ntmps25
      go_wp2_with fail
      refine HK.out.mono ?_
      rintro e w1 ⟨y, ly, rfl, hok, hin, hmr, hb⟩
      rw [World.size_alloc] at hin
      have hB1 := (HB.out (.cells #[.int .u8 0, .slice none 0 0, .slice none 0 0, .slice none 0 0, .bool false, .float .f64 0, .string ⟨#[]⟩] 27)).trans (hb.mono (by simp))
      have hbx := HBX.out.below hb (by simp)
      have HE := Lib.hid (make_end B w w1 y ly hBw hbx hok hin hB1)
      have k0 := hbx.cell 0; have k1 := hbx.cell 1; have k2 := hbx.cell 2; have k3 := hbx.cell 3; have k4 := hbx.cell 4; have k5 := hbx.cell 5; have k6 := hbx.cell 6
      have f0 := hbx.frozen 0; have f1 := hbx.frozen 1; have f2 := hbx.frozen 2; have f3 := hbx.frozen 3; have f4 := hbx.frozen 4; have f5 := hbx.frozen 5; have f6 := hbx.frozen 6
      have hl6 := hbx.lt
      simp only [List.getElem?_cons_zero, List.getElem?_cons_succ] at k0 k1 k2 k3 k4 k5 k6
      have HIN := Lib.hid hin; have HMR := Lib.hid hmr
      clear hok hin hmr hb hB1 hbx HK HBX
      go_wp2_with fail
      change bodyPost _ _ _ _ _ (set7 w1 w.heap.size (vb y.kind) (.slice y.na y.names.length y.nc) (.slice y.ka ly.length y.kc) (.slice y.da y.data.length y.dc) (.bool y.run) (.float .f64 y.stamp) (vs y.target))
      obtain ⟨bk, hok9, be⟩ := HE.out
      clear k0 k1 k2 k3 k4 k5 k6 f0 f1 f2 f3 f4 f5 f6
      generalize (set7 w1 w.heap.size (vb y.kind) (.slice y.na y.names.length y.nc) (.slice y.ka ly.length y.kc) (.slice y.da y.data.length y.dc) (.bool y.run) (.float .f64 y.stamp) (vs y.target)) = W9 at *
      have e0 := bk.cell 0; have e1 := bk.cell 1; have e2 := bk.cell 2; have e3 := bk.cell 3; have e4 := bk.cell 4; have e5 := bk.cell 5; have e6 := bk.cell 6
      simp only [cellsT, cellsOf, List.getElem?_cons_zero, List.getElem?_cons_succ] at e0 e1 e2 e3 e4 e5 e6
      exact bodyPost_ret (v := nv y ly.length) (by simp [results, Try.results25, go_sem, e0, e1, e2, e3, e4, e5, e6]) rfl ⟨y, ly, rfl, hok9, HIN.out.mono (fun c hc => by rcases hc with e | e; exact .inl e; exact .inr (by omega)), HMR.out, be⟩
    · have e4 : decide ((40 : Int) < l.length) = false := decide_eq_false (by omega)
      have HK : Hid (Calls Try.prog 55 #[.slice A l.length c, .int .i64 0, .int .i64 1] (w.alloc (.cells #[.int .u8 0, .slice none 0 0, .slice none 0 0, .slice none 0 0, .bool false, .float .f64 0, .string ⟨#[]⟩] 27)) (MkPost B (w.alloc (.cells #[.int .u8 0, .slice none 0 0, .slice none 0 0, .slice none 0 0, .bool false, .float .f64 0, .string ⟨#[]⟩] 27)))) :=
        kids_top l A c B _ h0 (by omega) HD.out (HM.out.keep ((HB.out (.cells #[.int .u8 0, .slice none 0 0, .slice none 0 0, .slice none 0 0, .bool false, .float .f64 0, .string ⟨#[]⟩] 27)).mono hBw))
      go_enter Try.func25, Try.ntmps25
      go_wp2_with fail
      refine HK.out.mono ?_
      rintro e w1 ⟨y, ly, rfl, hok, hin, hmr, hb⟩
      rw [World.size_alloc] at hin
      have hB1 := (HB.out (.cells #[.int .u8 0, .slice none 0 0, .slice none 0 0, .slice none 0 0, .bool false, .float .f64 0, .string ⟨#[]⟩] 27)).trans (hb.mono (by simp))
      have hbx := HBX.out.below hb (by simp)
      have HE := Lib.hid (make_end B w w1 y ly hBw hbx hok hin hB1)
      have k0 := hbx.cell 0; have k1 := hbx.cell 1; have k2 := hbx.cell 2; have k3 := hbx.cell 3; have k4 := hbx.cell 4; have k5 := hbx.cell 5; have k6 := hbx.cell 6
      have f0 := hbx.frozen 0; have f1 := hbx.frozen 1; have f2 := hbx.frozen 2; have f3 := hbx.frozen 3; have f4 := hbx.frozen 4; have f5 := hbx.frozen 5; have f6 := hbx.frozen 6
      have hl6 := hbx.lt
      simp only [List.getElem?_cons_zero, List.getElem?_cons_succ] at k0 k1 k2 k3 k4 k5 k6
      have HIN := Lib.hid hin; have HMR := Lib.hid hmr
      clear hok hin hmr hb hB1 hbx HK HBX
      go_wp2_with fail
      change bodyPost _ _ _ _ _ (set7 w1 w.heap.size (vb y.kind) (.slice y.na y.names.length y.nc) (.slice y.ka ly.length y.kc) (.slice y.da y.data.length y.dc) (.bool y.run) (.float .f64 y.stamp) (vs y.target))
      obtain ⟨bk, hok9, be⟩ := HE.out
      clear k0 k1 k2 k3 k4 k5 k6 f0 f1 f2 f3 f4 f5 f6
      generalize (set7 w1 w.heap.size (vb y.kind) (.slice y.na y.names.length y.nc) (.slice y.ka ly.length y.kc) (.slice y.da y.data.length y.dc) (.bool y.run) (.float .f64 y.stamp) (vs y.target)) = W9 at *
      have e0 := bk.cell 0; have e1 := bk.cell 1; have e2 := bk.cell 2; have e3 := bk.cell 3; have e4 := bk.cell 4; have e5 := bk.cell 5; have e6 := bk.cell 6
      simp only [cellsT, cellsOf, List.getElem?_cons_zero, List.getElem?_cons_succ] at e0 e1 e2 e3 e4 e5 e6
      exact bodyPost_ret (v := nv y ly.length) (by simp [results, Try.results25, go_sem, e0, e1, e2, e3, e4, e5, e6]) rfl ⟨y, ly, rfl, hok9, HIN.out.mono (fun c hc => by rcases hc with e | e; exact .inl e; exact .inr (by omega)), HMR.out, be⟩
  · have hl0 : l = [] := List.eq_nil_of_length_eq_zero (by omega)
    subst hl0
    have e0 : (((([] : List Md).length : Nat) : Int) == 0) = true := rfl
    have HO : Hid (∀ W, Ok W W.heap.size (.mk (fileHd none 0 [] false 0) [])) := fun W => ok_file _ _ _ _ _ (fun h => absurd h (by simp)) (fun h => absurd h (by simp)) (fun _ => rfl) (by simp) (by simp) (by omega)
    go_enter Try.func25, Try.ntmps25
    go_wp2_with fail
    exact bodyPost_ret (v := nv (fileHd none 0 [] false 0) ([] : List T).length) (by simp [results, Try.results25, go_sem]; exact ⟨rfl, ⟨rfl, rfl, rfl⟩, ⟨rfl, rfl⟩, ⟨rfl, rfl, rfl⟩, rfl, rfl, rfl⟩) rfl ⟨fileHd none 0 [] false 0, [], rfl, HO.out _, inS_file _ _ _ _ _ _ (fun h => absurd h (by simp)), ⟨by rw [all, allL, List.all_cons, fits_file]; rfl, by rw [TreeMath.depth, depthL]; omega, by rw [count_mk, allL]; simp⟩, HB.out _⟩
end Go.Proofs.Ytlehgacbcacokaa

/- TreeSame: the walk. -/
namespace Go.Proofs.Ytlehgacbcacokaa
open Go.RowKit TreeMath RealMath

theorem same_files (p q : Nat) : same (.mk (fileHd none 0 [] false p) []) (.mk (fileHd none 0 [] false q) []) = decide (canonB p = canonB q) := by
  rw [same, hdSame, sameL]; simp [fileHd]; rfl
theorem small_true {l : List Md} (h : smallB l = true) : l.length ≤ 60 ∧ ∀ x ∈ l, x.data.length ≤ 200 := by
  unfold smallB at h
  rw [Bool.and_eq_true, List.all_eq_true] at h
  exact ⟨of_decide_eq_true h.2, fun x hx => of_decide_eq_true (h.1 x hx)⟩
theorem ok_stamp (W : World) (top p : Nat) (hp : p < 18446744073709551616) : Ok W top (.mk (fileHd none 0 [] false p) []) := ok_file _ _ _ _ _ (fun h => absurd h (by simp)) (fun h => absurd h (by simp)) (fun _ => rfl) (by simp) (by simp) hp
set_option maxHeartbeats 8000000 in
theorem same_walk (A1 A2 : Option Addr) (c1 c2 : Nat) (l1 l2 : List Md) (p q : Nat) (w : World) (h1 : Mades w w.heap.size A1 l1) (h2 : Mades w w.heap.size A2 l2) (hm1 : l1.length ≤ maxLen) (hm2 : l2.length ≤ maxLen) (hc1 : l1.length ≤ c1) (hc2 : l2.length ≤ c2) (hx1 : c1 ≤ maxLen) (hx2 : c2 ≤ maxLen) (hp : p < 18446744073709551616) (hq : q < 18446744073709551616) :
    Calls Try.prog 7 #[.slice A1 l1.length c1, .slice A2 l2.length c2, .int .u64 p, .int .u64 q] w fun e w' => e = .returned (.bool true) ∧ Below w.heap.size w w' := by
  have H1 := Lib.hid h1; have H2 := Lib.hid h2
  clear h1 h2
  go_enter Try.func7, Try.ntmps7
  go_wp2_with fail
  refine (leaf_any w).mono ?_
  rintro e w1 ⟨rfl, hb1⟩
  have HB1 := Lib.hid hb1
  clear hb1
  go_wp2_with fail
  refine (small_any A1 c1 w.heap.size l1 hm1 w1 (H1.out.keep HB1.out)).mono ?_
  rintro e w2 ⟨rfl, rfl⟩
  have HS1 := Lib.hid (small_true (l := l1)); have HS2 := Lib.hid (small_true (l := l2))
  generalize smallB l1 = s1 at *
  cases s1 with
  | false =>
    go_wp2_with fail
    refine (leaf_any w1).mono ?_
    rintro e w2 ⟨rfl, hb2⟩
    have HB2 : Hid (Below w.heap.size w w2) := HB1.out.trans (hb2.mono HB1.out.size)
    clear hb2
    go_wp2_with fail
    go_ret
    exact ⟨rfl, HB2.out⟩
  | true =>
    obtain ⟨ha1, hd1⟩ := HS1.out rfl
    have HD1 := Lib.hid hd1
    clear hd1 HS1
    go_wp2_with fail
    refine (small_any A2 c2 w.heap.size l2 hm2 w1 (H2.out.keep HB1.out)).mono ?_
    rintro e w2 ⟨rfl, rfl⟩
    generalize smallB l2 = s2 at *
    cases s2 with
    | false =>
      go_wp2_with fail
      refine (leaf_any w1).mono ?_
      rintro e w2 ⟨rfl, hb2⟩
      have HB2 : Hid (Below w.heap.size w w2) := HB1.out.trans (hb2.mono HB1.out.size)
      clear hb2
      go_wp2_with fail
      go_ret
      exact ⟨rfl, HB2.out⟩
    | true =>
      obtain ⟨ha2, hd2⟩ := HS2.out rfl
      have HD2 := Lib.hid hd2
      clear hd2 HS2
      go_wp2_with fail
      refine (make_any l1 A1 c1 w.heap.size w1 ha1 hc1 hx1 HD1.out (H1.out.keep HB1.out)).mono ?_
      rintro e w3 ⟨y, ly, rfl, hok1, -, hmr1, hb3⟩
      have HB3 : Hid (Below w.heap.size w w3) := HB1.out.trans (hb3.mono HB1.out.size)
      have HO1 := Lib.hid hok1
      clear hok1 hmr1 hb3
      go_wp2_with fail
      refine (make_any l2 A2 c2 w.heap.size w3 ha2 hc2 hx2 HD2.out (H2.out.keep HB3.out)).mono ?_
      rintro e w4 ⟨z, lz, rfl, hok2, -, hmr2, hb4⟩
      have HB4 : Hid (Below w.heap.size w w4) := HB3.out.trans (hb4.mono HB3.out.size)
      have HO1' : Hid (Ok w4 w4.heap.size (.mk y ly)) := (HO1.out.keep hb4).up hb4.size
      have HO2 := Lib.hid hok2
      clear hok2 hmr2 hb4 HO1 HD1 HD2 H1 H2
      go_upto_region 5 with fail
      have hB5 : Below w4.heap.size w4 ((((w4.alloc (.cells #[vb y.kind, .slice y.na y.names.length y.nc, .slice y.ka ly.length y.kc, .slice y.da y.data.length y.dc, .bool y.run, .float .f64 y.stamp, vs y.target] 27)).alloc (.cells #[vb z.kind, .slice z.na z.names.length z.nc, .slice z.ka lz.length z.kc, .slice z.da z.data.length z.dc, .bool z.run, .float .f64 z.stamp, vs z.target] 27)).alloc (.cells #[.int .u8 2, .slice none 0 0, .slice none 0 0, .slice none 0 0, .bool false, .float .f64 p, .string ⟨#[]⟩] 27)).alloc (.cells #[.int .u8 2, .slice none 0 0, .slice none 0 0, .slice none 0 0, .bool false, .float .f64 q, .string ⟨#[]⟩] 27)) := ((((Below.refl _ _).alloc (Nat.le_refl _) _).alloc (by simp) _).alloc (by simp; omega) _).alloc (by simp; omega) _
      have g0 := (((Blk.new w4 27 #[vb y.kind, .slice y.na y.names.length y.nc, .slice y.ka ly.length y.kc, .slice y.da y.data.length y.dc, .bool y.run, .float .f64 y.stamp, vs y.target]).alloc (.cells #[vb z.kind, .slice z.na z.names.length z.nc, .slice z.ka lz.length z.kc, .slice z.da z.data.length z.dc, .bool z.run, .float .f64 z.stamp, vs z.target] 27)).alloc (.cells #[.int .u8 2, .slice none 0 0, .slice none 0 0, .slice none 0 0, .bool false, .float .f64 p, .string ⟨#[]⟩] 27)).alloc (.cells #[.int .u8 2, .slice none 0 0, .slice none 0 0, .slice none 0 0, .bool false, .float .f64 q, .string ⟨#[]⟩] 27)
      have g1 := ((Blk.new (w4.alloc (.cells #[vb y.kind, .slice y.na y.names.length y.nc, .slice y.ka ly.length y.kc, .slice y.da y.data.length y.dc, .bool y.run, .float .f64 y.stamp, vs y.target] 27)) 27 #[vb z.kind, .slice z.na z.names.length z.nc, .slice z.ka lz.length z.kc, .slice z.da z.data.length z.dc, .bool z.run, .float .f64 z.stamp, vs z.target]).alloc (.cells #[.int .u8 2, .slice none 0 0, .slice none 0 0, .slice none 0 0, .bool false, .float .f64 p, .string ⟨#[]⟩] 27)).alloc (.cells #[.int .u8 2, .slice none 0 0, .slice none 0 0, .slice none 0 0, .bool false, .float .f64 q, .string ⟨#[]⟩] 27)
      have g2 := (Blk.new ((w4.alloc (.cells #[vb y.kind, .slice y.na y.names.length y.nc, .slice y.ka ly.length y.kc, .slice y.da y.data.length y.dc, .bool y.run, .float .f64 y.stamp, vs y.target] 27)).alloc (.cells #[vb z.kind, .slice z.na z.names.length z.nc, .slice z.ka lz.length z.kc, .slice z.da z.data.length z.dc, .bool z.run, .float .f64 z.stamp, vs z.target] 27)) 27 #[.int .u8 2, .slice none 0 0, .slice none 0 0, .slice none 0 0, .bool false, .float .f64 p, .string ⟨#[]⟩]).alloc (.cells #[.int .u8 2, .slice none 0 0, .slice none 0 0, .slice none 0 0, .bool false, .float .f64 q, .string ⟨#[]⟩] 27)
      have g3 := Blk.new (((w4.alloc (.cells #[vb y.kind, .slice y.na y.names.length y.nc, .slice y.ka ly.length y.kc, .slice y.da y.data.length y.dc, .bool y.run, .float .f64 y.stamp, vs y.target] 27)).alloc (.cells #[vb z.kind, .slice z.na z.names.length z.nc, .slice z.ka lz.length z.kc, .slice z.da z.data.length z.dc, .bool z.run, .float .f64 z.stamp, vs z.target] 27)).alloc (.cells #[.int .u8 2, .slice none 0 0, .slice none 0 0, .slice none 0 0, .bool false, .float .f64 p, .string ⟨#[]⟩] 27)) 27 #[.int .u8 2, .slice none 0 0, .slice none 0 0, .slice none 0 0, .bool false, .float .f64 q, .string ⟨#[]⟩]
      simp only [World.size_alloc] at g1 g2 g3
      have hs5 : ((((w4.alloc (.cells #[vb y.kind, .slice y.na y.names.length y.nc, .slice y.ka ly.length y.kc, .slice y.da y.data.length y.dc, .bool y.run, .float .f64 y.stamp, vs y.target] 27)).alloc (.cells #[vb z.kind, .slice z.na z.names.length z.nc, .slice z.ka lz.length z.kc, .slice z.da z.data.length z.dc, .bool z.run, .float .f64 z.stamp, vs z.target] 27)).alloc (.cells #[.int .u8 2, .slice none 0 0, .slice none 0 0, .slice none 0 0, .bool false, .float .f64 p, .string ⟨#[]⟩] 27)).alloc (.cells #[.int .u8 2, .slice none 0 0, .slice none 0 0, .slice none 0 0, .bool false, .float .f64 q, .string ⟨#[]⟩] 27)).heap.size = w4.heap.size + 4 := by simp
      generalize ((((w4.alloc (.cells #[vb y.kind, .slice y.na y.names.length y.nc, .slice y.ka ly.length y.kc, .slice y.da y.data.length y.dc, .bool y.run, .float .f64 y.stamp, vs y.target] 27)).alloc (.cells #[vb z.kind, .slice z.na z.names.length z.nc, .slice z.ka lz.length z.kc, .slice z.da z.data.length z.dc, .bool z.run, .float .f64 z.stamp, vs z.target] 27)).alloc (.cells #[.int .u8 2, .slice none 0 0, .slice none 0 0, .slice none 0 0, .bool false, .float .f64 p, .string ⟨#[]⟩] 27)).alloc (.cells #[.int .u8 2, .slice none 0 0, .slice none 0 0, .slice none 0 0, .bool false, .float .f64 q, .string ⟨#[]⟩] 27)) = W5 at *
      have HG0 := Lib.hid g0; have HG1 := Lib.hid g1; have HG2 := Lib.hid g2; have HG3 := Lib.hid g3; have HB5 := Lib.hid hB5; have HS5 := Lib.hid hs5
      clear g0 g1 g2 g3 hB5 hs5
      have HCELL : Hid (∀ W, Below W5.heap.size W5 W → W.cell? ⟨w4.heap.size, 0, none⟩ = some (vb y.kind) ∧ W.cell? ⟨w4.heap.size, 1, none⟩ = some (.slice y.na y.names.length y.nc) ∧ W.cell? ⟨w4.heap.size, 2, none⟩ = some (.slice y.ka ly.length y.kc) ∧ W.cell? ⟨w4.heap.size, 3, none⟩ = some (.slice y.da y.data.length y.dc) ∧ W.cell? ⟨w4.heap.size, 4, none⟩ = some (.bool y.run) ∧ W.cell? ⟨w4.heap.size, 5, none⟩ = some (.float .f64 y.stamp) ∧ W.cell? ⟨w4.heap.size, 6, none⟩ = some (vs y.target) ∧ W.cell? ⟨(w4.heap.size + 1), 0, none⟩ = some (vb z.kind) ∧ W.cell? ⟨(w4.heap.size + 1), 1, none⟩ = some (.slice z.na z.names.length z.nc) ∧ W.cell? ⟨(w4.heap.size + 1), 2, none⟩ = some (.slice z.ka lz.length z.kc) ∧ W.cell? ⟨(w4.heap.size + 1), 3, none⟩ = some (.slice z.da z.data.length z.dc) ∧ W.cell? ⟨(w4.heap.size + 1), 4, none⟩ = some (.bool z.run) ∧ W.cell? ⟨(w4.heap.size + 1), 5, none⟩ = some (.float .f64 z.stamp) ∧ W.cell? ⟨(w4.heap.size + 1), 6, none⟩ = some (vs z.target) ∧ W.cell? ⟨(w4.heap.size + 1 + 1), 0, none⟩ = some (.int .u8 2) ∧ W.cell? ⟨(w4.heap.size + 1 + 1), 1, none⟩ = some (.slice none 0 0) ∧ W.cell? ⟨(w4.heap.size + 1 + 1), 2, none⟩ = some (.slice none 0 0) ∧ W.cell? ⟨(w4.heap.size + 1 + 1), 3, none⟩ = some (.slice none 0 0) ∧ W.cell? ⟨(w4.heap.size + 1 + 1), 4, none⟩ = some (.bool false) ∧ W.cell? ⟨(w4.heap.size + 1 + 1), 5, none⟩ = some (.float .f64 p) ∧ W.cell? ⟨(w4.heap.size + 1 + 1), 6, none⟩ = some (.string ⟨#[]⟩) ∧ W.cell? ⟨(w4.heap.size + 1 + 1 + 1), 0, none⟩ = some (.int .u8 2) ∧ W.cell? ⟨(w4.heap.size + 1 + 1 + 1), 1, none⟩ = some (.slice none 0 0) ∧ W.cell? ⟨(w4.heap.size + 1 + 1 + 1), 2, none⟩ = some (.slice none 0 0) ∧ W.cell? ⟨(w4.heap.size + 1 + 1 + 1), 3, none⟩ = some (.slice none 0 0) ∧ W.cell? ⟨(w4.heap.size + 1 + 1 + 1), 4, none⟩ = some (.bool false) ∧ W.cell? ⟨(w4.heap.size + 1 + 1 + 1), 5, none⟩ = some (.float .f64 q) ∧ W.cell? ⟨(w4.heap.size + 1 + 1 + 1), 6, none⟩ = some (.string ⟨#[]⟩)) := fun W hW => by
        have h1 := HG0.out.below hW (by have := HS5.out; omega)
        have h2 := HG1.out.below hW (by have := HS5.out; omega)
        have h3 := HG2.out.below hW (by have := HS5.out; omega)
        have h4 := HG3.out.below hW (by have := HS5.out; omega)
        exact ⟨h1.cell 0, h1.cell 1, h1.cell 2, h1.cell 3, h1.cell 4, h1.cell 5, h1.cell 6, h2.cell 0, h2.cell 1, h2.cell 2, h2.cell 3, h2.cell 4, h2.cell 5, h2.cell 6, h3.cell 0, h3.cell 1, h3.cell 2, h3.cell 3, h3.cell 4, h3.cell 5, h3.cell 6, h4.cell 0, h4.cell 1, h4.cell 2, h4.cell 3, h4.cell 4, h4.cell 5, h4.cell 6⟩
      have HNEXT : Hid (∀ W W', Below W5.heap.size W5 W → Below W.heap.size W W' → Below W5.heap.size W5 W') := fun W W' h h' => h.trans (h'.mono h.size)
      have HKP : Hid (∀ W t, Below W5.heap.size W5 W → Ok w4 w4.heap.size t → w4.heap.size ≤ W.heap.size ∧ Ok W w4.heap.size t) := fun W t hW ht => ⟨by have := hW.size; have := HS5.out; omega, (ht.keep HB5.out).keep (hW.mono (by have := HS5.out; omega))⟩
      have C1 : Hid (∀ W, Below W5.heap.size W5 W → Calls Try.prog 26 #[nv y ly.length, nv z lz.length] W fun e w' => e = .returned (.bool (same (.mk y ly) (.mk z lz))) ∧ Below W5.heap.size W5 w') := fun W hW => (same_of w4.heap.size (.mk y ly) (.mk z lz) W (HKP.out W _ hW HO1'.out).1 (HKP.out W _ hW HO1'.out).2 (HKP.out W _ hW HO2.out).2).mono fun e w' h => ⟨h.1, HNEXT.out _ _ hW h.2⟩
      have C2 : Hid (∀ W, Below W5.heap.size W5 W → Calls Try.prog 27 #[nv y ly.length, nv z lz.length] W fun e w' => e = .returned (.bool (same (.mk y ly) (.mk z lz))) ∧ Below W5.heap.size W5 w') := fun W hW => (refsame_of w4.heap.size (.mk y ly) (.mk z lz) W (HKP.out W _ hW HO1'.out).1 (HKP.out W _ hW HO1'.out).2 (HKP.out W _ hW HO2.out).2).mono fun e w' h => ⟨h.1, HNEXT.out _ _ hW h.2⟩
      obtain ⟨bc, hbc⟩ : ∃ bc, ((canonB p : Int) == (canonB q : Int)) = bc := ⟨_, rfl⟩
      have hbc' : (canonB p == canonB q) = bc := by rw [← hbc, nat_eq_int, Bool.eq_iff_iff]; simp
      have C3 : Hid (∀ W, Below W5.heap.size W5 W → Calls Try.prog 26 #[.agg #[.int .u8 2, .slice none 0 0, .slice none 0 0, .slice none 0 0, .bool false, .float .f64 p, .string ⟨#[]⟩], .agg #[.int .u8 2, .slice none 0 0, .slice none 0 0, .slice none 0 0, .bool false, .float .f64 q, .string ⟨#[]⟩]] W fun e w' => e = .returned (.bool bc) ∧ Below W5.heap.size W5 w') := fun W hW => by
        have := same_of w4.heap.size (.mk (fileHd none 0 [] false p) []) (.mk (fileHd none 0 [] false q) []) W (HKP.out W _ hW HO1'.out).1 (ok_stamp _ _ _ hp) (ok_stamp _ _ _ hq)
        rw [same_files] at this
        exact this.mono fun e w' h => ⟨by rw [h.1, ← hbc, nat_eq_int], HNEXT.out _ _ hW h.2⟩
      have C4 : Hid (∀ W, Below W5.heap.size W5 W → Calls Try.prog 33 #[.float .f64 p] W fun e w' => e = .returned (.int .u64 (canonB p)) ∧ Below W5.heap.size W5 w') := fun W hW => (refbits_any p W).mono fun e w' h => ⟨h.1, by rw [← h.2]; exact hW⟩
      have C5 : Hid (∀ W, Below W5.heap.size W5 W → Calls Try.prog 33 #[.float .f64 q] W fun e w' => e = .returned (.int .u64 (canonB q)) ∧ Below W5.heap.size W5 w') := fun W hW => (refbits_any q W).mono fun e w' h => ⟨h.1, by rw [← h.2]; exact hW⟩
      have HBW : Hid (Below w.heap.size w W5) := HB4.out.trans (HB5.out.mono HB4.out.size)
      clear HO1' HO2 HG0 HG1 HG2 HG3 HKP HNEXT
      generalize same (.mk y ly) (.mk z lz) = sb at *
      have H0 : Hid (Below W5.heap.size W5 W5.drew) := (Below.refl _ _).drew
      have k0 := HCELL.out _ H0.out
      go_region_held3 (fun W => W.cell? ⟨w4.heap.size, 0, none⟩ = some (vb y.kind) ∧ W.cell? ⟨w4.heap.size, 1, none⟩ = some (.slice y.na y.names.length y.nc) ∧ W.cell? ⟨w4.heap.size, 2, none⟩ = some (.slice y.ka ly.length y.kc) ∧ W.cell? ⟨w4.heap.size, 3, none⟩ = some (.slice y.da y.data.length y.dc) ∧ W.cell? ⟨w4.heap.size, 4, none⟩ = some (.bool y.run) ∧ W.cell? ⟨w4.heap.size, 5, none⟩ = some (.float .f64 y.stamp) ∧ W.cell? ⟨w4.heap.size, 6, none⟩ = some (vs y.target) ∧ W.cell? ⟨(w4.heap.size + 1), 0, none⟩ = some (vb z.kind) ∧ W.cell? ⟨(w4.heap.size + 1), 1, none⟩ = some (.slice z.na z.names.length z.nc) ∧ W.cell? ⟨(w4.heap.size + 1), 2, none⟩ = some (.slice z.ka lz.length z.kc) ∧ W.cell? ⟨(w4.heap.size + 1), 3, none⟩ = some (.slice z.da z.data.length z.dc) ∧ W.cell? ⟨(w4.heap.size + 1), 4, none⟩ = some (.bool z.run) ∧ W.cell? ⟨(w4.heap.size + 1), 5, none⟩ = some (.float .f64 z.stamp) ∧ W.cell? ⟨(w4.heap.size + 1), 6, none⟩ = some (vs z.target) ∧ W.cell? ⟨(w4.heap.size + 1 + 1), 0, none⟩ = some (.int .u8 2) ∧ W.cell? ⟨(w4.heap.size + 1 + 1), 1, none⟩ = some (.slice none 0 0) ∧ W.cell? ⟨(w4.heap.size + 1 + 1), 2, none⟩ = some (.slice none 0 0) ∧ W.cell? ⟨(w4.heap.size + 1 + 1), 3, none⟩ = some (.slice none 0 0) ∧ W.cell? ⟨(w4.heap.size + 1 + 1), 4, none⟩ = some (.bool false) ∧ W.cell? ⟨(w4.heap.size + 1 + 1), 5, none⟩ = some (.float .f64 p) ∧ W.cell? ⟨(w4.heap.size + 1 + 1), 6, none⟩ = some (.string ⟨#[]⟩) ∧ W.cell? ⟨(w4.heap.size + 1 + 1 + 1), 0, none⟩ = some (.int .u8 2) ∧ W.cell? ⟨(w4.heap.size + 1 + 1 + 1), 1, none⟩ = some (.slice none 0 0) ∧ W.cell? ⟨(w4.heap.size + 1 + 1 + 1), 2, none⟩ = some (.slice none 0 0) ∧ W.cell? ⟨(w4.heap.size + 1 + 1 + 1), 3, none⟩ = some (.slice none 0 0) ∧ W.cell? ⟨(w4.heap.size + 1 + 1 + 1), 4, none⟩ = some (.bool false) ∧ W.cell? ⟨(w4.heap.size + 1 + 1 + 1), 5, none⟩ = some (.float .f64 q) ∧ W.cell? ⟨(w4.heap.size + 1 + 1 + 1), 6, none⟩ = some (.string ⟨#[]⟩))
        (first | exact k0 | exact k1 | exact k2 | exact k3 | exact k4 | exact k5)
        (first
          | (go_at_call 26
             first
             | (with_reducible refine (C1.out _ H0.out).mono ?_
                rintro e x1 ⟨rfl, hb⟩
                have HH1 := Lib.hid hb; clear hb
                have k1 := HCELL.out _ HH1.out)
             | (with_reducible refine (C3.out _ HH2.out).mono ?_
                rintro e x3 ⟨rfl, hb⟩
                have HH3 := Lib.hid hb; clear hb
                have k3 := HCELL.out _ HH3.out))
          | (go_at_call 27
             refine (C2.out _ HH1.out).mono ?_
             rintro e x2 ⟨rfl, hb⟩
             have HH2 := Lib.hid hb; clear hb
             have k2 := HCELL.out _ HH2.out)
          | (go_at_call 33
             first
             | (with_reducible refine (C4.out _ HH3.out).mono ?_
                rintro e x4 ⟨rfl, hb⟩
                have HH4 := Lib.hid hb; clear hb
                have k4 := HCELL.out _ HH4.out)
             | (with_reducible refine (C5.out _ HH4.out).mono ?_
                rintro e x5 ⟨rfl, hb⟩
                have HH5 := Lib.hid hb; clear hb
                have k5 := HCELL.out _ HH5.out)))
      clear k0 k1 k2 k3 k4 k5
      go_wp2_with fail
      go_ret
      exact ⟨rfl, HBW.out.trans (HH5.out.mono HBW.out.size)⟩
end Go.Proofs.Ytlehgacbcacokaa

/- TreeMade: what each way of its switch makes of a tree. -/
namespace Go.Proofs.Ytlehgacbcacokaa
open Go.RowKit TreeMath RealMath

theorem made_right {t : T} (h : MadeR t) : rightB t = true := by
  unfold rightB
  rw [h.fits, decide_eq_true h.depth, decide_eq_true (by have := h.count; omega : count t ≤ 64)]; rfl
theorem fits_names {x : Hd} {ks : List T} (h : fitsB (.mk x ks) = true) : x.names.length ≤ ks.length := by
  rw [fitsB] at h
  split at h
  · simp only [Bool.and_eq_true, decide_eq_true_eq] at h; omega
  · split at h
    · simp only [Bool.and_eq_true, decide_eq_true_eq] at h; have := h.1.1.2; rw [this]; simp
    · split at h
      · simp only [Bool.and_eq_true, decide_eq_true_eq] at h; have := h.1.1.2; rw [this]; simp
      · simp at h
theorem all_self (t : T) : t ∈ all t := by cases t; rw [all]; simp
theorem kids_le {x : Hd} {ks : List T} : ks.length ≤ count (.mk x ks) := by rw [count_mk]; have := len_le_count ks; omega
mutual
theorem mem_count : ∀ (t k : T), k ∈ all t → count k ≤ count t
  | .mk x ks, k, h => by
    rw [all] at h
    rcases List.mem_cons.1 h with e | e
    · rw [e]; omega
    · rw [count_mk]; have := memL_count ks k e; omega
theorem memL_count : ∀ (ks : List T) (k : T), k ∈ allL ks → count k ≤ (allL ks).length
  | [], k, h => by rw [allL] at h; cases h
  | a :: l, k, h => by
    rw [allL] at h ⊢
    rw [List.length_append]
    rcases List.mem_append.1 h with e | e
    · have := mem_count a k e; unfold count at this ⊢; omega
    · have := memL_count l k e; omega
end
theorem made_few {t : T} (h : MadeR t) : Few t := fun k hk => by
  have h1 := List.all_eq_true.1 h.fits k hk
  have h2 := mem_count t k hk
  have h3 := h.count
  obtain ⟨x, ks⟩ := k
  have h4 := fits_names h1
  have h5 := kids_le (x := x) (ks := ks)
  show x.names.length ≤ _
  omega
/-- another head, the same kids -/
theorem few_head {x z : Hd} {ks : List T} (h : Few (.mk x ks)) (hz : z.names.length ≤ 100000) : Few (.mk z ks) := fun k hk => by
  rw [all] at hk
  rcases List.mem_cons.1 hk with e | e
  · rw [e]; exact hz
  · exact h k (by rw [all]; exact List.mem_cons_of_mem _ e)
theorem count_head (x z : Hd) (ks : List T) : count (.mk z ks) = count (.mk x ks) := by rw [count_mk, count_mk]
theorem conv_bytes (s : List By) (W : World) : ∃ W6 cap, (convert 9 24 (vs s)).run Try.prog W = .ok (.slice (some ⟨W.heap.size, 0, none⟩) s.length cap) W6 ∧ Below W.heap.size W W6 ∧ W6.heap.size = W.heap.size + 1 ∧ BytesAt W6 W.heap.size 0 s ∧ s.length ≤ cap := by
  have hr := run_bytes_of_string (P := Try.prog) W 9 24 5 ⟨s.toArray⟩ Try.underlying9 Try.underlying24 Try.underlying5
  have hsz : (⟨s.toArray⟩ : ByteArray).size = s.length := by simp [ByteArray.size]
  have hge := grownCap_ge W (⟨s.toArray⟩ : ByteArray).size 0 5
  rw [hsz] at hr hge
  refine ⟨_, _, hr, (Below.refl _ _).drew.alloc (Nat.le_refl _) _, by simp, ?_, hge⟩
  intro k hk
  have hb := bytesRow_at ⟨s.toArray⟩ (grownCap W s.length 0 5) k (by simpa using hk)
  generalize bytesRow ⟨s.toArray⟩ (grownCap W s.length 0 5) = C at *
  have hh : (W.drew.alloc (.cells C 5 (C.size, C.size + 1))).heap[W.heap.size]? = some (.cells C 5 (C.size, C.size + 1)) := by
    show (W.heap.push _)[W.heap.size]? = _
    simp
  rw [Nat.zero_add, cell_of_row _ _ k C 5 _ hh, hb]
  rfl
/-- what the last question wants -/
structure Ready (w : World) (g9 g10 : Nat) (y z : Hd) (ly lz : List T) (W : World) : Prop where
  b9 : Blk W g9 27 (cellsT (.mk y ly))
  b10 : Blk W g10 27 (cellsT (.mk z lz))
  oky : Ok W W.heap.size (.mk y ly)
  okz : Ok W W.heap.size (.mk z lz)
  cn : count (.mk z lz) ≤ 90000
  few : Few (.mk z lz)
  below : Below w.heap.size w W
/-- where the switch stands -/
structure Sw (w : World) (g9 g10 : Nat) (y : Hd) (ly : List T) (W : World) : Prop where
  b9 : Blk W g9 27 (cellsT (.mk y ly))
  b10 : Blk W g10 27 (cellsT (.mk y ly))
  ne : g9 < g10
  wg : w.heap.size ≤ g9
  ok : Ok W g9 (.mk y ly)
  made : MadeR (.mk y ly)
  below : Below w.heap.size w W
theorem Sw.keep {w W W' : World} {g9 g10 : Nat} {y : Hd} {ly : List T} (h : Sw w g9 g10 y ly W) (hb : Below W.heap.size W W') : Sw w g9 g10 y ly W' :=
  ⟨h.b9.below hb h.b9.lt, h.b10.below hb h.b10.lt, h.ne, h.wg, h.ok.keep (hb.mono (Nat.le_of_lt h.b9.lt)), h.made, h.below.trans (hb.mono h.below.size)⟩
theorem sw_set {w W : World} {g9 g10 : Nat} {y z : Hd} {ly : List T} (h : Sw w g9 g10 y ly W) (o : Nat) (v : Value) (hz : (cellsT (.mk y ly)).set o v = cellsT (.mk z ly)) (hka : z.ka = y.ka) (hkc : z.kc = y.kc)
    (hzo : Below g9 W (W.setCell ⟨g10, o, none⟩ v) → HdOk (W.setCell ⟨g10, o, none⟩ v) (W.setCell ⟨g10, o, none⟩ v).heap.size z) (hkn : z.names.length ≤ 100000) : Ready w g9 g10 y z ly ly (W.setCell ⟨g10, o, none⟩ v) := by
  have hb : Below g9 W (W.setCell ⟨g10, o, none⟩ v) := (Below.refl _ _).setCell (by exact Nat.le_of_lt h.ne) _
  have hsz : g9 ≤ (W.setCell ⟨g10, o, none⟩ v).heap.size := by rw [World.size_setCell]; exact Nat.le_of_lt h.b9.lt
  have hok : Ok (W.setCell ⟨g10, o, none⟩ v) (W.setCell ⟨g10, o, none⟩ v).heap.size (.mk y ly) := (h.ok.keep hb).up hsz
  refine ⟨h.b9.other (by have := h.ne; show g9 ≠ g10; omega) _, ?_, hok, ?_, ?_, ?_, h.below.setCell (by have := h.ne; have := h.wg; show _ ≤ g10; omega) _⟩
  · have := h.b10.set o v; rw [hz] at this; exact this
  · refine .mk z ly (hzo hb) hok.len (by rw [hkc]; exact hok.cap) (by rw [hka]; exact hok.at) (fun k hk => hok.kid hk)
  · rw [count_head y]; have := h.made.count; omega
  · exact few_head (made_few h.made) hkn
theorem Sw.head {w W W' : World} {g9 g10 : Nat} {y : Hd} {ly : List T} (h : Sw w g9 g10 y ly W) (hb : Below g9 W W') : HdOk W' W'.heap.size y := ((h.ok.keep hb).up (Nat.le_trans (Nat.le_of_lt h.b9.lt) hb.size)).hd
theorem Sw.names {w W : World} {g9 g10 : Nat} {y : Hd} {ly : List T} (h : Sw w g9 g10 y ly W) : y.names.length ≤ 100000 := made_few h.made (.mk y ly) (all_self _)
end Go.Proofs.Ytlehgacbcacokaa
