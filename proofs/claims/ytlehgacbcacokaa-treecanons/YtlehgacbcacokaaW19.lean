/- The contract of the reference's Make. -/
import Derived.Test.YtlehgacbcacokaaW18
namespace Go.Proofs.Ytlehgacbcacokaa
open Go.RowKit TreeMath RealMath

/-- a tree that may be -/
structure MadeR (t : T) : Prop where
  fits : (all t).all fitsB = true
  depth : depth t ≤ 8
  count : count t ≤ 40
theorem Mades.take {w : World} {B : Nat} {A : Option Addr} {l : List Md} (h : Mades w B A l) (n : Nat) : Mades w B A (l.take n) := by
  refine ⟨fun h0 => ?_, fun m hm => h.each m (List.mem_of_mem_take hm), fun m hm => h.low m (List.mem_of_mem_take hm), h.le⟩
  obtain ⟨b, o, e, hb, hc⟩ := h.at_ (by simp at h0; omega)
  exact ⟨b, o, e, hb, fun i hi => by rw [List.getElem_take]; exact hc i (by simp at hi; omega)⟩
/-- what Make comes to: which tree, but for where it lies -/
def MkPostL (l : List Md) (B : Nat) (w : World) (e : Ending) (w' : World) : Prop := ∃ y ly, e = .returned (nv y ly.length) ∧ Ok w' w'.heap.size (.mk y ly) ∧ InS (fun c => c < B ∨ w.heap.size ≤ c) (.mk y ly) ∧ (MadeR (.mk y ly) ∧ erase (.mk y ly) = makeT l) ∧ Below w.heap.size w w'
def MkPost (B : Nat) (w : World) (e : Ending) (w' : World) : Prop := ∃ y ly, e = .returned (nv y ly.length) ∧ Ok w' w'.heap.size (.mk y ly) ∧ InS (fun c => c < B ∨ w.heap.size ≤ c) (.mk y ly) ∧ MadeR (.mk y ly) ∧ Below w.heap.size w w'
/-- the call of kids, as Make has it -/
theorem kids_top (l : List Md) (A : Option Addr) (c B : Nat) (w : World) (h0 : 0 < l.length) (hl : l.length ≤ 40) (hdata : ∀ x ∈ l, x.data.length ≤ 200) (hm : Mades w B A l) :
    Calls Try.prog 55 #[.slice A l.length c, .int .i64 0, .int .i64 1] w (MkPostL l B w) := by
  have := kids_of l 7 A c B 0 1 w (by omega) (by omega) h0 hl hdata hm
  exact this.mono fun e w' ⟨t, h1, h2, h3, h4, h5⟩ => by
    obtain ⟨y, ly⟩ := t
    exact ⟨y, ly, h1, h2, h3, ⟨⟨h4.fits, by have := h4.depth; omega, by have := h4.count; have := cnt_le (parOf l) l.length 0; omega⟩, by rw [h4.eq]; unfold makeT; rw [if_neg (by omega), List.take_of_length_le (by omega)]⟩, h5⟩
set_option maxHeartbeats 4000000 in
theorem make_end (B : Nat) (w w1 : World) (y : Hd) (ly : List T) (hBw : B ≤ w.heap.size) (hblk : Blk w1 w.heap.size 27 [.int .u8 0, .slice none 0 0, .slice none 0 0, .slice none 0 0, .bool false, .float .f64 0, .string ⟨#[]⟩]) (hok : Ok w1 w1.heap.size (.mk y ly)) (hin : InS (fun c => c < B ∨ w.heap.size + 1 ≤ c) (.mk y ly)) (hb : Below w.heap.size w w1) :
    Blk (set7 w1 w.heap.size (vb y.kind) (.slice y.na y.names.length y.nc) (.slice y.ka ly.length y.kc) (.slice y.da y.data.length y.dc) (.bool y.run) (.float .f64 y.stamp) (vs y.target)) w.heap.size 27 (cellsT (.mk y ly)) ∧
    Ok (set7 w1 w.heap.size (vb y.kind) (.slice y.na y.names.length y.nc) (.slice y.ka ly.length y.kc) (.slice y.da y.data.length y.dc) (.bool y.run) (.float .f64 y.stamp) (vs y.target)) (set7 w1 w.heap.size (vb y.kind) (.slice y.na y.names.length y.nc) (.slice y.ka ly.length y.kc) (.slice y.da y.data.length y.dc) (.bool y.run) (.float .f64 y.stamp) (vs y.target)).heap.size (.mk y ly) ∧
    Below w.heap.size w (set7 w1 w.heap.size (vb y.kind) (.slice y.na y.names.length y.nc) (.slice y.ka ly.length y.kc) (.slice y.da y.data.length y.dc) (.bool y.run) (.float .f64 y.stamp) (vs y.target)) := by
  have key := set7_other w1 w.heap.size (vb y.kind) (.slice y.na y.names.length y.nc) (.slice y.ka ly.length y.kc) (.slice y.da y.data.length y.dc) (.bool y.run) (.float .f64 y.stamp) (vs y.target)
  have hsz := set7_size w1 w.heap.size (vb y.kind) (.slice y.na y.names.length y.nc) (.slice y.ka ly.length y.kc) (.slice y.da y.data.length y.dc) (.bool y.run) (.float .f64 y.stamp) (vs y.target)
  exact ⟨set7_blk hblk rfl _ _ _ _ _ _ _, hok.turn hin (fun c hc _ => key c (by rcases hc with e | e <;> omega)) (fun c _ hl => by rw [hsz]; exact hl), set7_below hb _ (Nat.le_refl _) _ _ _ _ _ _ _⟩
set_option maxHeartbeats 8000000 in
theorem make_of (l : List Md) (A : Option Addr) (c B : Nat) (w : World) (hl : l.length ≤ 60) (hcap : l.length ≤ c) (hcm : c ≤ maxLen) (hdata : ∀ x ∈ l, x.data.length ≤ 200) (hm : Mades w B A l) :
    Calls Try.prog 25 #[.slice A l.length c] w (MkPostL l B w) := by
  have hBw := hm.le
  unfold maxLen at hcm
  have HM := Lib.hid hm; have HD := Lib.hid hdata
  clear hm hdata
  have HB : Hid (∀ o, Below w.heap.size w (w.alloc o)) := fun o => (Below.refl _ _).alloc (Nat.le_refl _) _
  have HBX : Hid (Blk (w.alloc (.cells #[.int .u8 0, .slice none 0 0, .slice none 0 0, .slice none 0 0, .bool false, .float .f64 0, .string ⟨#[]⟩] 27)) w.heap.size 27 [.int .u8 0, .slice none 0 0, .slice none 0 0, .slice none 0 0, .bool false, .float .f64 0, .string ⟨#[]⟩]) := Blk.new w 27 _
  by_cases h0 : 0 < l.length
  · have e0 : ((l.length : Int) == 0) = false := by rw [beq_eq_false_iff_ne]; omega
    have e0' : (l.length == 0) = false := by rw [beq_eq_false_iff_ne]; omega
    by_cases h4 : 40 < l.length
    · have e4 : decide ((40 : Int) < l.length) = true := decide_eq_true (by omega)
      obtain ⟨b, o, rfl, -⟩ := HM.out.at_ h0
      have HK : Hid (Calls Try.prog 55 #[.slice (some ⟨b, o, none⟩) 40 c, .int .i64 0, .int .i64 1] (w.alloc (.cells #[.int .u8 0, .slice none 0 0, .slice none 0 0, .slice none 0 0, .bool false, .float .f64 0, .string ⟨#[]⟩] 27)) (MkPostL l B (w.alloc (.cells #[.int .u8 0, .slice none 0 0, .slice none 0 0, .slice none 0 0, .bool false, .float .f64 0, .string ⟨#[]⟩] 27)))) := by
        have := kids_top (l.take 40) (some ⟨b, o, none⟩) c B _ (by simp; omega) (by simp; omega) (fun x hx => HD.out x (List.mem_of_mem_take hx)) ((HM.out.keep ((HB.out (.cells #[.int .u8 0, .slice none 0 0, .slice none 0 0, .slice none 0 0, .bool false, .float .f64 0, .string ⟨#[]⟩] 27)).mono hBw)).take 40)
        rw [List.length_take, Nat.min_eq_left (by omega)] at this
        have em : makeT (l.take 40) = makeT l := by unfold makeT; rw [if_neg (by rw [List.length_take]; omega), if_neg (by omega), List.take_take]; rfl
        unfold MkPostL at this ⊢
        rw [em] at this; exact this
      go_enter Try.func25, Try.ntmps25
      go_wp2_with fail
      refine HK.out.mono ?_
      rintro e w1 ⟨y, ly, rfl, hok, hin, hmr, hb⟩
      rw [World.size_alloc] at hin
      have hB1 := (HB.out (.cells #[.int .u8 0, .slice none 0 0, .slice none 0 0, .slice none 0 0, .bool false, .float .f64 0, .string ⟨#[]⟩] 27)).trans (hb.mono (by simp))
      have hbx := HBX.out.below hb (by simp)
      have HE := Lib.hid (make_end B w w1 y ly hBw hbx hok hin hB1)
      have k0 := hbx.cell 0; have k1 := hbx.cell 1; have k2 := hbx.cell 2; have k3 := hbx.cell 3; have k4 := hbx.cell 4; have k5 := hbx.cell 5; have k6 := hbx.cell 6
      have f0 := hbx.frozen 0; have f1 := hbx.frozen 1; have f2 := hbx.frozen 2; have f3 := hbx.frozen 3; have f4 := hbx.frozen 4; have f5 := hbx.frozen 5; have f6 := hbx.frozen 6
      have hl6 := hbx.lt
      simp only [List.getElem?_cons_zero, List.getElem?_cons_succ] at k0 k1 k2 k3 k4 k5 k6
      have HIN := Lib.hid hin; have HMR := Lib.hid hmr
      clear hok hin hmr hb hB1 hbx HK HBX
      go_wp2_with fail
      change bodyPost _ _ _ _ _ (set7 w1 w.heap.size (vb y.kind) (.slice y.na y.names.length y.nc) (.slice y.ka ly.length y.kc) (.slice y.da y.data.length y.dc) (.bool y.run) (.float .f64 y.stamp) (vs y.target))
      obtain ⟨bk, hok9, be⟩ := HE.out
      clear k0 k1 k2 k3 k4 k5 k6 f0 f1 f2 f3 f4 f5 f6
      generalize (set7 w1 w.heap.size (vb y.kind) (.slice y.na y.names.length y.nc) (.slice y.ka ly.length y.kc) (.slice y.da y.data.length y.dc) (.bool y.run) (.float .f64 y.stamp) (vs y.target)) = W9 at *
      have e0 := bk.cell 0; have e1 := bk.cell 1; have e2 := bk.cell 2; have e3 := bk.cell 3; have e4 := bk.cell 4; have e5 := bk.cell 5; have e6 := bk.cell 6
      simp only [cellsT, cellsOf, List.getElem?_cons_zero, List.getElem?_cons_succ] at e0 e1 e2 e3 e4 e5 e6
      exact bodyPost_ret (v := nv y ly.length) (by simp [results, Try.results25, go_sem, e0, e1, e2, e3, e4, e5, e6]) rfl ⟨y, ly, rfl, hok9, HIN.out.mono (fun c hc => by rcases hc with e | e; exact .inl e; exact .inr (by omega)), HMR.out, be⟩
    · have e4 : decide ((40 : Int) < l.length) = false := decide_eq_false (by omega)
      have HK : Hid (Calls Try.prog 55 #[.slice A l.length c, .int .i64 0, .int .i64 1] (w.alloc (.cells #[.int .u8 0, .slice none 0 0, .slice none 0 0, .slice none 0 0, .bool false, .float .f64 0, .string ⟨#[]⟩] 27)) (MkPostL l B (w.alloc (.cells #[.int .u8 0, .slice none 0 0, .slice none 0 0, .slice none 0 0, .bool false, .float .f64 0, .string ⟨#[]⟩] 27)))) :=
        kids_top l A c B _ h0 (by omega) HD.out (HM.out.keep ((HB.out (.cells #[.int .u8 0, .slice none 0 0, .slice none 0 0, .slice none 0 0, .bool false, .float .f64 0, .string ⟨#[]⟩] 27)).mono hBw))
      go_enter Try.func25, Try.ntmps25
      go_wp2_with fail
      refine HK.out.mono ?_
      rintro e w1 ⟨y, ly, rfl, hok, hin, hmr, hb⟩
      rw [World.size_alloc] at hin
      have hB1 := (HB.out (.cells #[.int .u8 0, .slice none 0 0, .slice none 0 0, .slice none 0 0, .bool false, .float .f64 0, .string ⟨#[]⟩] 27)).trans (hb.mono (by simp))
      have hbx := HBX.out.below hb (by simp)
      have HE := Lib.hid (make_end B w w1 y ly hBw hbx hok hin hB1)
      have k0 := hbx.cell 0; have k1 := hbx.cell 1; have k2 := hbx.cell 2; have k3 := hbx.cell 3; have k4 := hbx.cell 4; have k5 := hbx.cell 5; have k6 := hbx.cell 6
      have f0 := hbx.frozen 0; have f1 := hbx.frozen 1; have f2 := hbx.frozen 2; have f3 := hbx.frozen 3; have f4 := hbx.frozen 4; have f5 := hbx.frozen 5; have f6 := hbx.frozen 6
      have hl6 := hbx.lt
      simp only [List.getElem?_cons_zero, List.getElem?_cons_succ] at k0 k1 k2 k3 k4 k5 k6
      have HIN := Lib.hid hin; have HMR := Lib.hid hmr
      clear hok hin hmr hb hB1 hbx HK HBX
      go_wp2_with fail
      change bodyPost _ _ _ _ _ (set7 w1 w.heap.size (vb y.kind) (.slice y.na y.names.length y.nc) (.slice y.ka ly.length y.kc) (.slice y.da y.data.length y.dc) (.bool y.run) (.float .f64 y.stamp) (vs y.target))
      obtain ⟨bk, hok9, be⟩ := HE.out
      clear k0 k1 k2 k3 k4 k5 k6 f0 f1 f2 f3 f4 f5 f6
      generalize (set7 w1 w.heap.size (vb y.kind) (.slice y.na y.names.length y.nc) (.slice y.ka ly.length y.kc) (.slice y.da y.data.length y.dc) (.bool y.run) (.float .f64 y.stamp) (vs y.target)) = W9 at *
      have e0 := bk.cell 0; have e1 := bk.cell 1; have e2 := bk.cell 2; have e3 := bk.cell 3; have e4 := bk.cell 4; have e5 := bk.cell 5; have e6 := bk.cell 6
      simp only [cellsT, cellsOf, List.getElem?_cons_zero, List.getElem?_cons_succ] at e0 e1 e2 e3 e4 e5 e6
      exact bodyPost_ret (v := nv y ly.length) (by simp [results, Try.results25, go_sem, e0, e1, e2, e3, e4, e5, e6]) rfl ⟨y, ly, rfl, hok9, HIN.out.mono (fun c hc => by rcases hc with e | e; exact .inl e; exact .inr (by omega)), HMR.out, be⟩
  · have hl0 : l = [] := List.eq_nil_of_length_eq_zero (by omega)
    subst hl0
    have e0 : (((([] : List Md).length : Nat) : Int) == 0) = true := rfl
    have HO : Hid (∀ W, Ok W W.heap.size (.mk (fileHd none 0 [] false 0) [])) := fun W => ok_file _ _ _ _ _ (fun h => absurd h (by simp)) (fun h => absurd h (by simp)) (fun _ => rfl) (by simp) (by simp) (by omega)
    go_enter Try.func25, Try.ntmps25
    go_wp2_with fail
    exact bodyPost_ret (v := nv (fileHd none 0 [] false 0) ([] : List T).length) (by simp [results, Try.results25, go_sem]; exact ⟨rfl, ⟨rfl, rfl, rfl⟩, ⟨rfl, rfl⟩, ⟨rfl, rfl, rfl⟩, rfl, rfl, rfl⟩) rfl ⟨fileHd none 0 [] false 0, [], rfl, HO.out _, inS_file _ _ _ _ _ _ (fun h => absurd h (by simp)), ⟨⟨by rw [all, allL, List.all_cons, fits_file]; rfl, by rw [TreeMath.depth, depthL]; omega, by rw [count_mk, allL]; simp⟩, rfl⟩, HB.out _⟩
theorem make_any (l : List Md) (A : Option Addr) (c B : Nat) (w : World) (hl : l.length ≤ 60) (hcap : l.length ≤ c) (hcm : c ≤ maxLen) (hdata : ∀ x ∈ l, x.data.length ≤ 200) (hm : Mades w B A l) :
    Calls Try.prog 25 #[.slice A l.length c] w (MkPost B w) := (make_of l A c B w hl hcap hcm hdata hm).mono fun _ _ ⟨y, ly, h1, h2, h3, h4, h5⟩ => ⟨y, ly, h1, h2, h3, h4.1, h5⟩
end Go.Proofs.Ytlehgacbcacokaa
