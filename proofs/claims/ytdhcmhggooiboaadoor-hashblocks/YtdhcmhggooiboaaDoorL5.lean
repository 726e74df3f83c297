/- The walk of the law HashBlocks. -/
import Derived.Test.YtdhcmhggooiboaaDoorL1
namespace Go.Proofs.YtdhcmhggooiboaaDoor
open Go.RowKit HashMath

set_option maxHeartbeats 400000 in
theorem blocksLaw_long (A : Option Addr) (n cap : Nat) (b : By) (w : World) (ht : Tabs w) (h : 200 < n) (hm : n ≤ maxLen) :
    Calls Tryd.prog 7 #[.slice A n cap, vb b] w fun e w' => e = .returned (.bool true) ∧ Below w.heap.size w w' := by
  unfold maxLen at hm
  have h1 : (decide ((200 : Int) < n)) = true := decide_eq_true (by omega)
  go_enter Tryd.func7, Tryd.ntmps7
  go_wp2_with fail
  refine (bare_any w ht).mono ?_
  rintro e w1 ⟨rfl, hb1⟩
  go_wp2_with fail
  refine (bare_any w1 (ht.below hb1 ht.size)).mono ?_
  rintro e w2 ⟨rfl, hb2⟩
  go_wp2
  go_ret
  exact ⟨rfl, hb1.trans (hb2.mono hb1.size)⟩
theorem Ready.swap {w : World} {t : Value} {A A' : Option Addr} {p p' : List By} {B : Nat} (h : Ready w t A p B) (h' : SrcIs w A' p') : Ready w t A' p' B := ⟨h.tabs, h.tool, h', h.box⟩

set_option maxHeartbeats 8000000 in
set_option maxRecDepth 100000 in
theorem blocksLaw_walk (A : Option Addr) (cap : Nat) (p : List By) (b : By) (w : World) (ht : Tabs w) (hp : p.length ≤ 200) (hcap : p.length ≤ cap) (hN : A = none → cap = 0) (hA : SrcIs w A p) :
    Calls Tryd.prog 7 #[.slice A p.length cap, vb b] w fun e w' => e = .returned (.bool true) ∧ Below w.heap.size w w' := by
  have h1 : (decide ((200 : Int) < p.length)) = false := decide_eq_false (by omega)
  obtain ⟨hz26, hs26⟩ := zero_of_info info26
  have HZ := Lib.hid hs26; clear hs26
  have HA := Lib.hid hA; have HT := Lib.hid ht; have HN := Lib.hid hN
  clear hA ht hN
  go_enter Tryd.func7, Tryd.ntmps7
  go_wp2_with fail
  refine (bare_any w HT.out).mono ?_
  rintro e w1 ⟨rfl, hb1⟩
  have HB1 := Lib.hid hb1; clear hb1
  go_wp2_with fail
  refine (new_any w1).mono ?_
  rintro e w2 ⟨t, rfl, ht2, hb2⟩
  have HH2 := Lib.hid ht2
  obtain ⟨gh, ch, gk, ck, rfl, _, _⟩ := ht2
  have HB2 : Hid (Below w.heap.size w w2) := HB1.out.trans (hb2.mono HB1.out.size)
  clear hb2 HB1
  go_upto_region 4 with (refine wpList_store_blk (cs' := [.slice (some ⟨gh, 0, none⟩) 8 ch, .slice (some ⟨gk, 0, none⟩) 64 ck]) rfl (.tmp 5) (.tmp 15) rfl rfl rfl (Blk.new w2 26 #[.slice none 0 0, .slice none 0 0]) rfl HZ.out rfl ?_; intro w3 hset; have HS := Lib.hid hset; clear hset)
  have hb3 : Below w2.heap.size w2 w3 := HS.out.below _ _ ((Below.refl _ _).alloc (Nat.le_refl _) _) (Nat.le_refl _)
  have HB3 : Hid (Below w.heap.size w w3) := HB2.out.trans (hb3.mono HB2.out.size)
  have HRd : Hid (Ready w3 (.agg #[.slice (some ⟨gh, 0, none⟩) 8 ch, .slice (some ⟨gk, 0, none⟩) 64 ck]) A p w2.heap.size) :=
    ⟨HT.out.below HB3.out HT.out.size, HH2.out.below hb3, HA.out.below HB3.out, HS.out.blk.lt⟩
  have k0' : w3.cell? ⟨w2.heap.size, 0, none⟩ = some (.slice (some ⟨gh, 0, none⟩) 8 ch) := by rw [HS.out.blk.cell]; rfl
  have k1' : w3.cell? ⟨w2.heap.size, 1, none⟩ = some (.slice (some ⟨gk, 0, none⟩) 64 ck) := by rw [HS.out.blk.cell]; rfl
  have HK0 := Lib.hid k0'; have HK1 := Lib.hid k1'
  clear HS hb3 HT HH2 HA HB2 k0' k1'
  generalize w2.heap.size = Bt at *
  obtain ⟨m, hmb, hm1, hm2, hmk⟩ : ∃ m : Nat, (1 : Int) + ub b % 130 = m ∧ 1 ≤ m ∧ m ≤ 130 ∧ ∀ w, (Instr.makeSlice 22 (.int .i64 m) (.int .i64 m)).run Tryd.prog w = .ok (.slice (some ⟨w.heap.size, 0, none⟩) m m) (w.alloc (.cells (List.replicate m (.int .u8 0)).toArray 5)) := by
    have h1 := ub_lo b
    have h2 := ub_hi b
    refine ⟨(1 + ub b % 130).toNat, by omega, by omega, by omega, ?_⟩
    exact run_mk _ _ (Nat.le_refl _) (by omega)
  have htm : (ub b).tmod 130 = ub b % 130 := Int.tmod_eq_emod_of_nonneg (ub_lo b)
  obtain ⟨z0, hzz⟩ : ∃ z, z = List.replicate m (Value.int .u8 0) := ⟨_, rfl⟩
  rw [← hzz] at hmk
  have HZ0 := Lib.hid hzz; clear hzz
  go_wp2_with fail
  have hb4 : Below w3.heap.size w3 (w3.alloc (.cells z0.toArray 5)) := (Below.refl _ _).alloc (Nat.le_refl _) _
  have hz4 : Blk (w3.alloc (.cells z0.toArray 5)) w3.heap.size 5 ((List.replicate m 0#8).map vb) := by
    have h1 := Blk.new w3 5 z0.toArray
    have h2 : (List.replicate m 0#8).map vb = z0 := by rw [HZ0.out, List.map_replicate]; rfl
    rw [h2]; exact h1
  have hj := join_any A (some ⟨w3.heap.size, 0, none⟩) cap m p (List.replicate m 0#8) (by rw [List.length_replicate]; omega) HN.out (fun h => by cases h) (w3.alloc (.cells z0.toArray 5)) (HRd.out.src.below hb4) (fun _ => ⟨w3.heap.size, 0, rfl, hz4.bytes⟩)
  rw [List.length_replicate] at hj
  refine hj.mono ?_
  rintro e w4 ⟨v6, rfl, ho6, hb6⟩
  obtain ⟨A6, c6, hv6, hs6, hn6, hc6, _⟩ := own_src (l := p ++ List.replicate m 0#8) (n := p.length + m) ho6 (by simp)
  subst hv6
  have hb5 : Below w3.heap.size w3 w4 := hb4.trans (hb6.mono hb4.size)
  have HQL : Hid ((p ++ List.replicate m 0#8).length ≤ 400) := by show _ ≤ _; rw [List.length_append, List.length_replicate]; omega
  have HS6 := Lib.hid hs6; have HN6 := Lib.hid hn6; have HC6 := Lib.hid hc6
  have HRp := Lib.hid ((HRd.out.below hb5).drew)
  have k0 : w4.cell? ⟨Bt, 0, none⟩ = some (.slice (some ⟨gh, 0, none⟩) 8 ch) := by rw [hb5.cell (p := ⟨Bt, 0, none⟩) HRd.out.box]; exact HK0.out
  have k1 : w4.cell? ⟨Bt, 1, none⟩ = some (.slice (some ⟨gk, 0, none⟩) 64 ck) := by rw [hb5.cell (p := ⟨Bt, 1, none⟩) HRd.out.box]; exact HK1.out
  have HB4 : Hid (Below w.heap.size w w4.drew) := (HB3.out.trans (hb5.mono HB3.out.size)).drew
  clear hb4 hz4 hj ho6 hb6 hs6 hn6 hc6 hb5 HRd HK0 HK1 HB3 hmk htm HZ0
  generalize p ++ List.replicate m 0#8 = ql at *
  have HRq := Lib.hid (HRp.out.swap (A' := A6) (p' := ql) HS6.out)
  have HSL := Lib.hid (sum_length ql); have HFL := Lib.hid (short_length ql); have HSP := Lib.hid (sum_length p)
  go_upto_region 5 with fail
  go_region_held3 (fun w' => w'.cell? ⟨Bt, 0, none⟩ = some (.slice (some ⟨gh, 0, none⟩) 8 ch) ∧ w'.cell? ⟨Bt, 1, none⟩ = some (.slice (some ⟨gk, 0, none⟩) 64 ck))
    (first
      | exact ⟨k0, k1⟩
      | (go_split_ands
         refine ⟨?_, ?_⟩
         · (rw [HbN.out.cell (p := ⟨Bt, 0, none⟩) HzN.out]; assumption)
         · (rw [HbN.out.cell (p := ⟨Bt, 1, none⟩) HzN.out]; assumption))
      | go_keep)
    (first
      | (go_at_call 11
         ((with_reducible refine (sum_new A6 c6 ql (by have := HQL.out; omega) HC6.out _ HRq.out.tabs HRq.out.src).mono ?_)
          rintro e x1 ⟨g1, c1, tl1, rfl, hg1, hblk1, hc1, hb1⟩
          have HbN := Lib.hid hb1
          have HzN := Lib.hid HRq.out.box
          have HX1 := Lib.hid hblk1
          have HR1 := Lib.hid (HRq.out.below hb1)
          have HP1 := Lib.hid (HRp.out.src.below hb1)
          have HB5 : Hid (Below w.heap.size w x1) := HB4.out.trans (hb1.mono HB4.out.size)
          clear hblk1 hb1))
      | (go_at_call 11
         ((with_reducible refine (sum_new A cap p (by omega) hcap _ HR6.out.tabs HP6.out).mono ?_)
          rintro e x7 ⟨g7, c7, tl7, rfl, hg7, hblk7, hc7, hb7⟩
          have HbN := Lib.hid hb7
          have HzN := Lib.hid HR6.out.box
          have HX7 := Lib.hid hblk7
          have HR7 := Lib.hid (HR6.out.below hb7)
          have HP7 := Lib.hid (HP6.out.below hb7)
          have HB11 : Hid (Below w.heap.size w x7) := HB10.out.trans (hb7.mono HB10.out.size)
          clear hblk7 hb7))
      | (go_at_call 12
         ((with_reducible refine (refSum_any A6 c6 ql (by have := HQL.out; omega) HN6.out _ _ HR1.out.tool HR1.out.src).mono ?_)
          rintro e x2 ⟨v2, rfl, ho2, hb2⟩
          obtain ⟨A2, c2, rfl, hs2, _, _, _⟩ := own_src (l := sum ql) ho2 HSL.out
          have HbN := Lib.hid hb2
          have HzN := Lib.hid HR1.out.box
          have HX2 := Lib.hid (HX1.out.below hb2 HX1.out.lt)
          have HS2 := Lib.hid hs2
          have HR2 := Lib.hid (HR1.out.below hb2)
          have HP2 := Lib.hid (HP1.out.below hb2)
          have HB6 : Hid (Below w.heap.size w x2) := HB5.out.trans (hb2.mono HB5.out.size)
          clear ho2 hs2 hb2))
      | (go_at_call 12
         ((with_reducible refine (refSum_any A cap p (by omega) HN.out _ _ HR7.out.tool HP7.out).mono ?_)
          rintro e x8 ⟨v8, rfl, ho8, hb8⟩
          obtain ⟨A8, c8, rfl, hs8, _, _, _⟩ := own_src (l := sum p) ho8 HSP.out
          have HbN := Lib.hid hb8
          have HzN := Lib.hid HR7.out.box
          have HX8 := Lib.hid (HX7.out.below hb8 HX7.out.lt)
          have HS8 := Lib.hid hs8
          have HB12 : Hid (Below w.heap.size w x8) := HB11.out.trans (hb8.mono HB11.out.size)
          clear ho8 hs8 hb8))
      | (go_at_call 13
         refine (short_any A6 c6 ql (by have := HQL.out; omega) HC6.out _ HR3.out.tabs HR3.out.src).mono ?_
         rintro e x4 ⟨g4, c4, tl4, rfl, hg4, hblk4, hc4, hb4⟩
         have HbN := Lib.hid hb4
         have HzN := Lib.hid HR3.out.box
         have HX4 := Lib.hid hblk4
         have HR4 := Lib.hid (HR3.out.below hb4)
         have HP4 := Lib.hid (HP3.out.below hb4)
         have HB8 : Hid (Below w.heap.size w x4) := HB7.out.trans (hb4.mono HB7.out.size)
         clear hblk4 hb4)
      | (go_at_call 14
         refine (refShort_any A6 c6 ql (by have := HQL.out; omega) HN6.out _ _ HR4.out.tool HR4.out.src).mono ?_
         rintro e x5 ⟨v5, rfl, ho5, hb5⟩
         obtain ⟨A5, c5, rfl, hs5, _, _, _⟩ := own_src (l := short ql) ho5 HFL.out
         have HbN := Lib.hid hb5
         have HzN := Lib.hid HR4.out.box
         have HX5 := Lib.hid (HX4.out.below hb5 HX4.out.lt)
         have HS5 := Lib.hid hs5
         have HR5 := Lib.hid (HR4.out.below hb5)
         have HP5 := Lib.hid (HP4.out.below hb5)
         have HB9 : Hid (Below w.heap.size w x5) := HB8.out.trans (hb5.mono HB8.out.size)
         clear ho5 hs5 hb5)
      | (go_at_call 10
         ((with_reducible refine (same_new HX8.out HS8.out (by rw [HSP.out]; omega)).mono ?_)
          rintro e x9 ⟨rfl, q3, rfl⟩))
      | (go_at_call 10
         ((with_reducible refine (same_new HX5.out HS5.out (by rw [HFL.out]; omega)).mono ?_)
          rintro e x6 ⟨rfl, q2, rfl⟩
          have HR6 := Lib.hid (HR5.out.drewN q2)
          have HP6 : Hid (SrcIs (x5.drewN q2) A p) := HP5.out
          have HB10 : Hid (Below w.heap.size w (x5.drewN q2)) := below_drewN HB9.out q2))
      | (go_at_call 10
         ((with_reducible refine (same_new HX2.out HS2.out (by rw [HSL.out]; omega)).mono ?_)
          rintro e x3 ⟨rfl, q, rfl⟩
          have HR3 := Lib.hid (HR2.out.drewN q)
          have HP3 : Hid (SrcIs (x2.drewN q) A p) := HP2.out
          have HB7 : Hid (Below w.heap.size w (x2.drewN q)) := below_drewN HB6.out q)))
  go_wp2
  go_ret
  exact ⟨rfl, below_drewN HB12.out q3⟩
theorem blocks_all (A : Option Addr) (cap : Nat) (p : List By) (b : By) (w : World) (ht : Tabs w) (hm : p.length ≤ maxLen) (hcap : p.length ≤ cap) (hN : A = none → cap = 0) (hA : SrcIs w A p) :
    Calls Tryd.prog 7 #[.slice A p.length cap, vb b] w fun e w' => e = .returned (.bool true) ∧ Below w.heap.size w w' := by
  by_cases h : 200 < p.length
  · exact blocksLaw_long A p.length cap b w ht h hm
  · exact blocksLaw_walk A cap p b w ht (by omega) hcap hN hA
end Go.Proofs.YtdhcmhggooiboaaDoor
