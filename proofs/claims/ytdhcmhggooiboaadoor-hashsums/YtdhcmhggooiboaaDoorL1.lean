/- The walk of the law HashSums. -/
import Derived.Test.YtdhcmhggooiboaaDoorW18
import Derived.Test.YtdhcmhggooiboaaDoorL4
import Derived.Deep.RegionHeld3
namespace Go.Proofs.YtdhcmhggooiboaaDoor
open Go.RowKit HashMath

theorem Tabs.drewN {w : World} (h : Tabs w) (q : Nat) : Tabs (w.drewN q) := ⟨h.start, h.rounds⟩
theorem Tabs.drew {w : World} (h : Tabs w) : Tabs w.drew := ⟨h.start, h.rounds⟩
theorem HasherIs.drewN {w : World} {t : Value} (h : HasherIs w t) (q : Nat) : HasherIs (w.drewN q) t := h
theorem HasherIs.drew {w : World} {t : Value} (h : HasherIs w t) : HasherIs w.drew t := h
/-- all that the calls of a law lean on, in one word -/
structure Ready (w : World) (t : Value) (A : Option Addr) (p : List By) (B : Nat) : Prop where
  tabs : Tabs w
  tool : HasherIs w t
  src : SrcIs w A p
  box : B < w.heap.size
theorem Ready.below {w w' : World} {t : Value} {A : Option Addr} {p : List By} {B : Nat} (h : Ready w t A p B) (hb : Below w.heap.size w w') : Ready w' t A p B :=
  ⟨h.tabs.below hb h.tabs.size, h.tool.below hb, h.src.below hb, Nat.lt_of_lt_of_le h.box hb.size⟩
theorem Ready.drewN {w : World} {t : Value} {A : Option Addr} {p : List By} {B : Nat} (h : Ready w t A p B) (q : Nat) : Ready (w.drewN q) t A p B := ⟨h.tabs.drewN q, h.tool, h.src, h.box⟩
theorem Ready.drew {w : World} {t : Value} {A : Option Addr} {p : List By} {B : Nat} (h : Ready w t A p B) : Ready w.drew t A p B := ⟨h.tabs.drew, h.tool, h.src, h.box⟩
/-- two sums that are alike, wherever they lie -/
theorem same_new {w : World} {g c : Nat} {tl : List Value} {A2 : Option Addr} {c2 : Nat} {l : List By} (h1 : Blk w g 5 (l.map vb ++ tl)) (h2 : SrcIs w A2 l) (hl : l.length ≤ 100000) :
    Calls Tryd.prog 10 #[.slice (some ⟨g, 0, none⟩) l.length c, .slice A2 l.length c2] w fun e w' => e = .returned (.bool true) ∧ ∃ q, w' = w.drewN q :=
  bytes_same (some ⟨g, 0, none⟩) A2 c c2 l hl w (fun _ => ⟨g, 0, rfl, h1.bytes_app⟩) h2

set_option maxHeartbeats 400000 in
theorem sumsLaw_long (A : Option Addr) (n cap : Nat) (w : World) (ht : Tabs w) (h : 300 < n) (hm : n ≤ maxLen) :
    Calls Tryd.prog 3 #[.slice A n cap] w fun e w' => e = .returned (.bool true) ∧ Below w.heap.size w w' := by
  unfold maxLen at hm
  have h1 : (decide ((300 : Int) < n)) = true := decide_eq_true (by omega)
  go_enter Tryd.func3, Tryd.ntmps3
  go_wp2_with fail
  refine (bare_any w ht).mono ?_
  rintro e w1 ⟨rfl, hb1⟩
  go_wp2_with fail
  refine (bare_any w1 (ht.below hb1 ht.size)).mono ?_
  rintro e w2 ⟨rfl, hb2⟩
  go_wp2
  go_ret
  exact ⟨rfl, hb1.trans (hb2.mono hb1.size)⟩

set_option maxHeartbeats 4000000 in
set_option maxRecDepth 100000 in
theorem sumsLaw_walk (A : Option Addr) (cap : Nat) (p : List By) (w : World) (ht : Tabs w) (hp : p.length ≤ 300) (hcap : p.length ≤ cap) (hN : A = none → cap = 0) (hA : SrcIs w A p) :
    Calls Tryd.prog 3 #[.slice A p.length cap] w fun e w' => e = .returned (.bool true) ∧ Below w.heap.size w w' := by
  have h1 : (decide ((300 : Int) < p.length)) = false := decide_eq_false (by omega)
  obtain ⟨hz26, hs26⟩ := zero_of_info info26
  have HZ := Lib.hid hs26; clear hs26
  have HA := Lib.hid hA; have HT := Lib.hid ht; have HN := Lib.hid hN
  clear hA ht hN
  go_enter Tryd.func3, Tryd.ntmps3
  go_wp2_with fail
  refine (bare_any w HT.out).mono ?_
  rintro e w1 ⟨rfl, hb1⟩
  have HB1 := Lib.hid hb1; clear hb1
  go_wp2_with fail
  refine (new_any w1).mono ?_
  rintro e w2 ⟨t, rfl, ht2, hb2⟩
  have HH2 := Lib.hid ht2
  obtain ⟨gh, ch, gk, ck, rfl, _, _⟩ := ht2
  have HB2 : Hid (Below w.heap.size w w2) := HB1.out.trans (hb2.mono HB1.out.size)
  clear hb2 HB1
  go_upto_region 4 with (refine wpList_store_blk (cs' := [.slice (some ⟨gh, 0, none⟩) 8 ch, .slice (some ⟨gk, 0, none⟩) 64 ck]) rfl (.tmp 3) (.tmp 12) rfl rfl rfl (Blk.new w2 26 #[.slice none 0 0, .slice none 0 0]) rfl HZ.out rfl ?_; intro w3 hset; have HS := Lib.hid hset; clear hset)
  have hb3 : Below w2.heap.size w2 w3 := HS.out.below _ _ ((Below.refl _ _).alloc (Nat.le_refl _) _) (Nat.le_refl _)
  have HB3 : Hid (Below w.heap.size w w3) := HB2.out.trans (hb3.mono HB2.out.size)
  have HRd : Hid (Ready w3 (.agg #[.slice (some ⟨gh, 0, none⟩) 8 ch, .slice (some ⟨gk, 0, none⟩) 64 ck]) A p w2.heap.size) :=
    ⟨HT.out.below HB3.out HT.out.size, HH2.out.below hb3, HA.out.below HB3.out, HS.out.blk.lt⟩
  have k0 : w3.cell? ⟨w2.heap.size, 0, none⟩ = some (.slice (some ⟨gh, 0, none⟩) 8 ch) := by rw [HS.out.blk.cell]; rfl
  have k1 : w3.cell? ⟨w2.heap.size, 1, none⟩ = some (.slice (some ⟨gk, 0, none⟩) 64 ck) := by rw [HS.out.blk.cell]; rfl
  clear HS hb3 HT HH2 HA HB2
  generalize w2.heap.size = Bt at *
  have HSL := Lib.hid (sum_length p); have HFL := Lib.hid (short_length p)
  replace HRd := Lib.hid HRd.out.drew
  replace HB3 : Hid (Below w.heap.size w w3.drew) := HB3.out.drew
  go_region_held3 (fun w' => w'.cell? ⟨Bt, 0, none⟩ = some (.slice (some ⟨gh, 0, none⟩) 8 ch) ∧ w'.cell? ⟨Bt, 1, none⟩ = some (.slice (some ⟨gk, 0, none⟩) 64 ck))
    (first
      | exact ⟨k0, k1⟩
      | (go_split_ands
         refine ⟨?_, ?_⟩
         · (rw [HbN.out.cell (p := ⟨Bt, 0, none⟩) HzN.out]; assumption)
         · (rw [HbN.out.cell (p := ⟨Bt, 1, none⟩) HzN.out]; assumption))
      | go_keep)
    (first
      | (go_at_call 11
         refine (sum_new A cap p (by omega) hcap _ HRd.out.tabs HRd.out.src).mono ?_
         rintro e x1 ⟨g1, c1, tl1, rfl, hg1, hblk1, hc1, hb1⟩
         have HbN := Lib.hid hb1
         have HzN := Lib.hid HRd.out.box
         have HX1 := Lib.hid hblk1
         have HR1 := Lib.hid (HRd.out.below hb1)
         have HB4 : Hid (Below w.heap.size w x1) := HB3.out.trans (hb1.mono HB3.out.size)
         clear hblk1 hb1)
      | (go_at_call 12
         refine (refSum_any A cap p (by omega) HN.out _ _ HR1.out.tool HR1.out.src).mono ?_
         rintro e x2 ⟨v2, rfl, ho2, hb2⟩
         obtain ⟨A2, c2, rfl, hs2, _, _, _⟩ := own_src (l := sum p) ho2 HSL.out
         have HbN := Lib.hid hb2
         have HzN := Lib.hid HR1.out.box
         have HX2 := Lib.hid (HX1.out.below hb2 HX1.out.lt)
         have HS2 := Lib.hid hs2
         have HR2 := Lib.hid (HR1.out.below hb2)
         have HB5 : Hid (Below w.heap.size w x2) := HB4.out.trans (hb2.mono HB4.out.size)
         clear ho2 hs2 hb2)
      | (go_at_call 13
         refine (short_any A cap p (by omega) hcap _ HR3.out.tabs HR3.out.src).mono ?_
         rintro e x4 ⟨g4, c4, tl4, rfl, hg4, hblk4, hc4, hb4⟩
         have HbN := Lib.hid hb4
         have HzN := Lib.hid HR3.out.box
         have HX4 := Lib.hid hblk4
         have HR4 := Lib.hid (HR3.out.below hb4)
         have HB7 : Hid (Below w.heap.size w x4) := HB6.out.trans (hb4.mono HB6.out.size)
         clear hblk4 hb4)
      | (go_at_call 14
         refine (refShort_any A cap p (by omega) HN.out _ _ HR4.out.tool HR4.out.src).mono ?_
         rintro e x5 ⟨v5, rfl, ho5, hb5⟩
         obtain ⟨A5, c5, rfl, hs5, _, _, _⟩ := own_src (l := short p) ho5 HFL.out
         have HbN := Lib.hid hb5
         have HzN := Lib.hid HR4.out.box
         have HX5 := Lib.hid (HX4.out.below hb5 HX4.out.lt)
         have HS5 := Lib.hid hs5
         have HB8 : Hid (Below w.heap.size w x5) := HB7.out.trans (hb5.mono HB7.out.size)
         clear ho5 hs5 hb5)
      | (go_at_call 10
         ((with_reducible refine (same_new HX5.out HS5.out (by rw [HFL.out]; omega)).mono ?_)
          rintro e x6 ⟨rfl, q2, rfl⟩))
      | (go_at_call 10
         ((with_reducible refine (same_new HX2.out HS2.out (by rw [HSL.out]; omega)).mono ?_)
          rintro e x3 ⟨rfl, q, rfl⟩
          have HR3 := Lib.hid (HR2.out.drewN q)
          have HB6 : Hid (Below w.heap.size w (x2.drewN q)) := below_drewN HB5.out q)))
  go_wp2
  go_ret
  exact ⟨rfl, below_drewN HB8.out q2⟩
theorem sums_all (A : Option Addr) (cap : Nat) (p : List By) (w : World) (ht : Tabs w) (hm : p.length ≤ maxLen) (hcap : p.length ≤ cap) (hN : A = none → cap = 0) (hA : SrcIs w A p) :
    Calls Tryd.prog 3 #[.slice A p.length cap] w fun e w' => e = .returned (.bool true) ∧ Below w.heap.size w w' := by
  by_cases h : 300 < p.length
  · exact sumsLaw_long A p.length cap w ht h hm
  · exact sumsLaw_walk A cap p w ht (by omega) hcap hN hA
end Go.Proofs.YtdhcmhggooiboaaDoor
