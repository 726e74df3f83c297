/- The walk of WireBack. -/
import Derived.Test.YtefifdejepafgaaW16
import Derived.Test.YtefifdejepafgaaW11
import Derived.Deep.RegionHeld3
namespace Go.Proofs.Ytefifdejepafgaa
open Go.RowKit BaseMath WireMath

/-- what is left behind i items -/
def restN (its : List It) (i : Nat) : List By := (its.drop i).flatMap itemB
theorem restN_step (its : List It) (i : Nat) (h : i < its.length) : restN its i = itemB its[i] ++ restN its (i + 1) := by
  unfold restN; rw [List.drop_eq_getElem_cons h, List.flatMap_cons]
theorem restN_all (its : List It) : layN its its.length = restN its 0 := by unfold layN restN; rw [List.take_length, List.drop_zero]
theorem restN_end (its : List It) : restN its its.length = [] := by unfold restN; rw [List.drop_length]; rfl
theorem restN_le (its : List It) (i : Nat) : (restN its i).length ≤ (restN its 0).length := by
  have e : restN its 0 = (its.take i).flatMap itemB ++ restN its i := by unfold restN; rw [← List.flatMap_append, List.take_append_drop, List.drop_zero]
  rw [e, List.length_append]; omega
structure BackRel (w : World) (g : Nat) (its : List It) (i : Nat) (wr : World) : Prop where
  rd : RdIs wr 82 g g ⟨restN its i, false⟩
  below : Below w.heap.size w wr
set_option maxHeartbeats 1000000 in
theorem back_short (A : Option Addr) (cap : Nat) (its : List It) (hm : its.length ≤ maxLen) (hsh : shortsB its = false) (w : World) (hA : ItemsIs w A its) :
    Calls Try.prog 9 #[.slice A its.length cap] w fun e w' => e = .returned (.bool true) ∧ Below w.heap.size w w' := by
  have HA := Lib.hid hA; have HSH := Lib.hid hsh; have HM := Lib.hid hm
  clear hA hsh hm
  go_enter Try.func9, Try.ntmps9
  go_wp2_with fail
  refine (lays_any w).mono ?_
  rintro e w1 ⟨rfl, hb1⟩
  have HA1 := Lib.hid (HA.out.below hb1)
  have HB1 := Lib.hid hb1; clear hb1
  go_wp2_with fail
  refine (short_any A cap its HM.out w1 HA1.out).mono ?_
  rintro e w2 ⟨rfl, rfl⟩
  rw [HSH.out]
  go_wp2_with fail
  refine (lays_any w1).mono ?_
  rintro e w2 ⟨rfl, hb2⟩
  have HB2 : Hid (Below w.heap.size w w2) := HB1.out.trans (hb2.mono HB1.out.size)
  clear hb2
  go_wp2_with fail
  go_ret
  exact ⟨rfl, HB2.out⟩
set_option maxHeartbeats 2000000 in
set_option maxRecDepth 100000 in
theorem back_items (A : Option Addr) (cap : Nat) (its : List It) (hm : its.length ≤ maxLen) (hsh : shortsB its = true) (w : World) (hA : ItemsIs w A its) :
    Calls Try.prog 9 #[.slice A its.length cap] w fun e w' => e = .returned (.bool true) ∧ Below w.heap.size w w' := by
  have hl30 : its.length ≤ 30 := by simp only [shortsB, Bool.and_eq_true, decide_eq_true_eq] at hsh; exact hsh.2
  have hall := layN_le its hsh its.length (Nat.le_refl _)
  rw [restN_all] at hall
  have HA := Lib.hid hA; have HSH := Lib.hid hsh; have HM := Lib.hid hm
  clear hA hsh hm
  go_enter Try.func9, Try.ntmps9
  go_wp2_with fail
  refine (lays_any w).mono ?_
  rintro e w1 ⟨rfl, hb1⟩
  have HA1 := Lib.hid (HA.out.below hb1)
  have HB1 := Lib.hid hb1; clear hb1
  go_wp2_with fail
  refine (short_any A cap its HM.out w1 HA1.out).mono ?_
  rintro e w2 ⟨rfl, rfl⟩
  rw [HSH.out]
  go_wp2_with fail
  refine (lay25_any A cap its HSH.out w1 HA1.out).mono ?_
  rintro e w2 ⟨A1, c1, A2, c2, rfl, hs1, hn1, hs2, hn2, hb2⟩
  rw [restN_all] at hs1 hs2 ⊢
  have HB2 : Hid (Below w.heap.size w w2) := HB1.out.trans (hb2.mono HB1.out.size)
  have HS1 := Lib.hid hs1; have HN1 := Lib.hid hn1; have HS2 := Lib.hid hs2
  clear hs1 hn1 hs2 hn2 hb2 HA1 HB1
  obtain ⟨all, HALL⟩ : ∃ all, Hid (restN its 0 = all) := ⟨_, rfl⟩
  rw [HALL.out] at HS1 HS2 hall ⊢
  go_wp2_with fail
  refine (bytes_same A1 A2 c1 c2 all (by omega) w2 HS1.out HS2.out).mono ?_
  rintro e w3 ⟨rfl, q, hw3⟩
  have HB3 : Hid (Below w.heap.size w w3) := by show Below _ _ _; rw [hw3]; exact below_drewN HB2.out q
  have HS3 : Hid (SrcIs w3 A1 all) := by show SrcIs _ _ _; rw [hw3]; exact HS1.out
  clear hw3 HB2 HS1 HS2
  go_wp2_with fail
  refine (reader_any A1 c1 all (by omega) HN1.out w3 HS3.out).mono ?_
  rintro e w4 ⟨g, rfl, hg, hr4, hb4⟩
  rw [← HALL.out] at hr4
  have HB4 : Hid (BackRel w g its 0 w4) := ⟨hr4, HB3.out.trans (hb4.mono HB3.out.size)⟩
  have hgw : w.heap.size ≤ g := Nat.le_trans HB3.out.size hg
  clear hr4 hb4 HB3 HS3
  go_wp2_with fail
  go_loopw [6] (fun vi wr => ∃ i : Nat, i ≤ its.length ∧ vi = .int .i64 i ∧ Hid (BackRel w g its i wr)) (fun vi _ => its.length - (intOf vi).toNat)
  case atStart => exact ⟨0, Nat.zero_le _, rfl, HB4.out⟩
  case round =>
    clear HB4
    obtain ⟨i, hi, rfl, HR⟩ := hrel
    rename World => W0
    have hrl := restN_le its i
    have HRL := Lib.hid (restN_le its (i + 1))
    rw [HALL.out] at hrl HRL
    by_cases hlt : i < its.length
    · obtain ⟨b, o, hAe, hc⟩ := (HA.out.below HR.out.below) (by omega)
      subst hAe
      obtain ⟨hat, hok⟩ := hc i hlt
      have c0 := hat 0 _ rfl
      have c1' := hat 1 _ rfl
      have c2' := hat 2 _ rfl
      have c3 := hat 3 _ rfl
      rw [Nat.add_zero] at c0
      have hshx : shortB its[i] = true := by
        have := HSH.out
        simp only [shortsB, Bool.and_eq_true, List.all_eq_true] at this
        exact this.1 _ (List.getElem_mem hlt)
      have HRS := Lib.hid (restN_step its i hlt)
      have HSRCW : Hid (0 < its[i].ll.length → ∀ a, its[i].la = some a → a.block < w.heap.size) := ((HA.out (by omega)).elim fun b' h => h.elim fun o' h => (h.2 i hlt).2.src.lt)
      clear hc hat
      generalize its[i] = x at *
      obtain ⟨hs1, hs2, hs3, hs4⟩ := short_parts hshx
      have hxn := hok.n
      go_upto_region 11 with fail
      clear c0 c1' c2' c3
      have hbal : Below W0.heap.size W0 (W0.alloc (.cells #[vb x.kind, .int .u64 (x.n : Nat), vs x.s, .slice x.la x.ll.length x.lc] 46)) := (Below.refl _ _).alloc (Nat.le_refl _) _
      have hgW : g < W0.heap.size := by obtain ⟨_, _, hb, _⟩ := HR.out.rd.ex; exact hb.lt
      have HRX : Hid (RdIs (W0.alloc (.cells #[vb x.kind, .int .u64 (x.n : Nat), vs x.s, .slice x.la x.ll.length x.lc] 46)) 82 g g ⟨itemB x ++ restN its (i + 1), false⟩) := by
        show RdIs _ _ _ _ _
        rw [← HRS.out]; exact HR.out.rd.below hbal hgW
      have HBW : Hid (Below w.heap.size w (W0.alloc (.cells #[vb x.kind, .int .u64 (x.n : Nat), vs x.s, .slice x.la x.ll.length x.lc] 46))) := HR.out.below.trans (hbal.mono HR.out.below.size)
      have HOK := Lib.hid (hok.below hbal)
      have HBX : Hid (Blk (W0.alloc (.cells #[vb x.kind, .int .u64 (x.n : Nat), vs x.s, .slice x.la x.ll.length x.lc] 46)) W0.heap.size 46 x.vals) := Blk.new W0 46 _
      have HBKS : Hid (0 < x.ll.length → ∀ a, x.la = some a → a.block < W0.heap.size ∧ a.block ≠ g) := fun h0 a ha => ⟨hok.src.lt h0 a ha, by have := HSRCW.out h0 a ha; omega⟩
      generalize W0.alloc (.cells #[vb x.kind, .int .u64 (x.n : Nat), vs x.s, .slice x.la x.ll.length x.lc] 46) = Wx at *
      clear hbal hok HR
      have hgx := HBX.out.lt
      have d0 := HBX.out.cell 0; have d1 := HBX.out.cell 1; have d2 := HBX.out.cell 2; have d3 := HBX.out.cell 3
      simp only [It.vals, List.getElem?_cons_zero, List.getElem?_cons_succ] at d0 d1 d2 d3
      have hd5 : (x.kind.toNat : Int) % 5 = 0 ∨ (x.kind.toNat : Int) % 5 = 1 ∨ (x.kind.toNat : Int) % 5 = 2 ∨ (x.kind.toNat : Int) % 5 = 3 ∨ (x.kind.toNat : Int) % 5 = 4 := by omega
      have hkb : x.kind.toNat < 256 := x.kind.toNat_lt
      have HRD : Hid (RdIs Wx.drew 82 g g ⟨itemB x ++ restN its (i + 1), false⟩) := ⟨HRX.out.ex, HRX.out.le⟩
      have HBD : Hid (Below w.heap.size w Wx.drew) := HBW.out.drew
      have hwsz := HBD.out.size
      have HXL : Hid ((itemB x ++ restN its (i + 1)).length ≤ 1000000) := by rw [← HRS.out]; exact Nat.le_trans hrl (by omega)
      clear HRX HBW
      rcases hd5 with hd | hd | hd | hd | hd
      · have HI : Hid (itemB x = [UInt8.ofNat x.n]) := by show _ = _; unfold itemB; rw [if_pos (by omega)]
        rw [HI.out] at HRD HXL
        obtain ⟨eb1, eb2⟩ := byte_back (UInt8.ofNat x.n) (restN its (i + 1)) false
        have HE1 := Lib.hid eb1; have HE2 := Lib.hid eb2
        clear eb1 eb2
        have hw8 : IntKind.u8.wrap (x.n : Int) = ((x.n % 256 : Nat) : Int) := by rw [IntKind.wrap_u8', Int.natCast_emod]; rfl
        have hw9 : (x.n : Int) % 256 = ((x.n % 256 : Nat) : Int) := by rw [Int.natCast_emod]; rfl
        rw [UInt8.toNat_ofNat'] at HE1
        rw [show (2 : Nat) ^ 8 = 256 from rfl] at HE1
        generalize x.n % 256 = xn at *
        go_upto_region 14 with fail
        have k0 : Wx.drew.cell? ⟨W0.heap.size, 1, none⟩ = some (.int .u64 (x.n : Nat)) := d1
        clear d0 d1 d2 d3
        go_region_held3 (fun w' => w'.cell? ⟨W0.heap.size, 1, none⟩ = some (.int .u64 (x.n : Nat)))
          (first | exact k0 | exact k1)
          (first
            | (go_at_call 27
               refine (byte_any g g _ HXL.out Wx.drew HRD.out).mono ?_
               rintro e w6 ⟨rfl, h1, o1⟩
               rw [HE1.out]
               rw [HE2.out] at h1
               have k1 : w6.cell? ⟨W0.heap.size, 1, none⟩ = some (.int .u64 (x.n : Nat)) := by
                 rw [World.cell?_of_block (w := Wx.drew) (a := ⟨W0.heap.size, 1, none⟩) (o1.other W0.heap.size hgx (by omega))]; exact k0
               have HN : Hid (BackRel w g its (i + 1) w6) := ⟨h1, HBD.out.trans (o1.below hgw hwsz)⟩
               clear h1 o1))
        clear k0 k1
        go_wp2_with fail
        refine (ok_any g g ⟨restN its (i + 1), false⟩ w6 HN.out.rd).mono ?_
        rintro e w7 ⟨rfl, rfl⟩
        go_wp2_with fail
        go_roundw
        case rel => exact ⟨i + 1, by omega, by go_num, HN.out⟩
        case measure => simp [intOf]; omega
      · have HI : Hid (itemB x = numB x.n) := by show _ = _; unfold itemB; rw [if_neg (by omega)]; rw [if_pos (by omega)]
        rw [HI.out] at HRD HXL
        obtain ⟨eb1, eb2⟩ := num_back x.n (restN its (i + 1)) false
        have HE1 := Lib.hid eb1; have HE2 := Lib.hid eb2
        clear eb1 eb2
        have hr1 : ((x.n : Int) % 65536).toNat = x.n % 65536 := by omega
        rw [hr1] at HE1
        have hw9 : (x.n : Int) % 65536 = ((x.n % 65536 : Nat) : Int) := by omega
        have hw10 : (x.n : Int).tmod 65536 = ((x.n % 65536 : Nat) : Int) := by rw [Int.tmod_eq_emod_of_nonneg (by omega)]; omega
        have hxb : x.n % 65536 < 65536 := Nat.mod_lt _ (by decide)
        generalize x.n % 65536 = xn at *
        have hw11 : IntKind.i64.wrap (xn : Int) = (xn : Nat) := IntWalk.i64_in _ (by omega)
        clear hr1
        go_upto_region 16 with fail
        have k0 : Wx.drew.cell? ⟨W0.heap.size, 1, none⟩ = some (.int .u64 (x.n : Nat)) := d1
        clear d0 d1 d2 d3
        go_region_held3 (fun w' => w'.cell? ⟨W0.heap.size, 1, none⟩ = some (.int .u64 (x.n : Nat)))
          (first | exact k0 | exact k1)
          (first
            | (go_at_call 28
               refine (num_any g g _ HXL.out Wx.drew HRD.out).mono ?_
               rintro e w6 ⟨rfl, h1, o1⟩
               rw [HE1.out]
               rw [HE2.out] at h1
               have k1 : w6.cell? ⟨W0.heap.size, 1, none⟩ = some (.int .u64 (x.n : Nat)) := by
                 rw [World.cell?_of_block (w := Wx.drew) (a := ⟨W0.heap.size, 1, none⟩) (o1.other W0.heap.size hgx (by omega))]; exact k0
               have HN : Hid (BackRel w g its (i + 1) w6) := ⟨h1, HBD.out.trans (o1.below hgw hwsz)⟩
               clear h1 o1))
        clear k0 k1
        go_wp2_with fail
        refine (ok_any g g ⟨restN its (i + 1), false⟩ w6 HN.out.rd).mono ?_
        rintro e w7 ⟨rfl, rfl⟩
        go_wp2_with fail
        go_roundw
        case rel => exact ⟨i + 1, by omega, by go_num, HN.out⟩
        case measure => simp [intOf]; omega
      · have HI : Hid (itemB x = wideB x.n) := by show _ = _; unfold itemB; rw [if_neg (by omega)]; rw [if_neg (by omega)]; rw [if_pos (by omega)]
        rw [HI.out] at HRD HXL
        obtain ⟨eb1, eb2⟩ := wide_back x.n (by omega) (restN its (i + 1)) false
        have HE1 := Lib.hid eb1; have HE2 := Lib.hid eb2
        clear eb1 eb2

        go_upto_region 18 with fail
        have k0 : Wx.drew.cell? ⟨W0.heap.size, 1, none⟩ = some (.int .u64 (x.n : Nat)) := d1
        clear d0 d1 d2 d3
        go_region_held3 (fun w' => w'.cell? ⟨W0.heap.size, 1, none⟩ = some (.int .u64 (x.n : Nat)))
          (first | exact k0 | exact k1)
          (first
            | (go_at_call 29
               refine (wide_any g g _ HXL.out Wx.drew HRD.out).mono ?_
               rintro e w6 ⟨rfl, h1, o1⟩
               rw [HE1.out]
               rw [HE2.out] at h1
               have k1 : w6.cell? ⟨W0.heap.size, 1, none⟩ = some (.int .u64 (x.n : Nat)) := by
                 rw [World.cell?_of_block (w := Wx.drew) (a := ⟨W0.heap.size, 1, none⟩) (o1.other W0.heap.size hgx (by omega))]; exact k0
               have HN : Hid (BackRel w g its (i + 1) w6) := ⟨h1, HBD.out.trans (o1.below hgw hwsz)⟩
               clear h1 o1))
        clear k0 k1
        go_wp2_with fail
        refine (ok_any g g ⟨restN its (i + 1), false⟩ w6 HN.out.rd).mono ?_
        rintro e w7 ⟨rfl, rfl⟩
        go_wp2_with fail
        go_roundw
        case rel => exact ⟨i + 1, by omega, by go_num, HN.out⟩
        case measure => simp [intOf]; omega
      · have HI : Hid (itemB x = textB x.s) := by show _ = _; unfold itemB; rw [if_neg (by omega)]; rw [if_neg (by omega)]; rw [if_neg (by omega)]; rw [if_pos (by omega)]
        rw [HI.out] at HRD HXL
        obtain ⟨eb1, eb2⟩ := text_back x.s (restN its (i + 1)) false (by omega)
        have HE1 := Lib.hid eb1; have HE2 := Lib.hid eb2
        clear eb1 eb2

        go_upto_region 20 with fail
        have k0 : Wx.drew.cell? ⟨W0.heap.size, 2, none⟩ = some (vs x.s) := d2
        clear d0 d1 d2 d3
        go_region_held3 (fun w' => w'.cell? ⟨W0.heap.size, 2, none⟩ = some (vs x.s))
          (first | exact k0 | exact k1)
          (first
            | (go_at_call 30
               refine (rtext_any g g _ HXL.out Wx.drew HRD.out).mono ?_
               rintro e w6 ⟨rfl, h1, o1⟩
               rw [HE1.out]
               rw [HE2.out] at h1
               have k1 : w6.cell? ⟨W0.heap.size, 2, none⟩ = some (vs x.s) := by
                 rw [World.cell?_of_block (w := Wx.drew) (a := ⟨W0.heap.size, 2, none⟩) (o1.other W0.heap.size hgx (by omega))]; exact k0
               have HN : Hid (BackRel w g its (i + 1) w6) := ⟨h1, HBD.out.trans (o1.below hgw hwsz)⟩
               clear h1 o1))
        clear k0 k1
        go_wp2_with fail
        refine (ok_any g g ⟨restN its (i + 1), false⟩ w6 HN.out.rd).mono ?_
        rintro e w7 ⟨rfl, rfl⟩
        go_wp2_with fail
        go_roundw
        case rel => exact ⟨i + 1, by omega, by go_num, HN.out⟩
        case measure => simp [intOf]; omega
      · have HI : Hid (itemB x = textsB x.ll) := by show _ = _; unfold itemB; rw [if_neg (by omega)]; rw [if_neg (by omega)]; rw [if_neg (by omega)]; rw [if_neg (by omega)]
        rw [HI.out] at HRD HXL
        have hbound : ∀ s ∈ x.ll, s.length < 65536 := by
          intro s hs
          simp only [smallB, List.all_eq_true, decide_eq_true_eq] at hs3
          have := hs3 s hs; omega
        obtain ⟨eb1, eb2⟩ := texts_back x.ll (restN its (i + 1)) 20 (by omega) (by omega) hbound
        have HE1 := Lib.hid eb1; have HE2 := Lib.hid eb2
        clear eb1 eb2 hbound
        go_upto_region 12 with fail
        have k0 : Wx.drew.cell? ⟨W0.heap.size, 3, none⟩ = some (.slice x.la x.ll.length x.lc) := d3
        clear d0 d1 d2 d3
        go_region_held3 (fun w' => w'.cell? ⟨W0.heap.size, 3, none⟩ = some (.slice x.la x.ll.length x.lc))
          (first | exact k0 | exact k1 | exact k2)
          (first
            | (go_at_call 32
               refine (rtexts_any g g 20 _ HXL.out (fun h => by cases h) Wx.drew HRD.out).mono ?_
               rintro e w6 ⟨v6, rfl, ho6, h1, o1⟩
               rw [HE1.out] at ho6
               rw [HE2.out] at h1
               have k1 : w6.cell? ⟨W0.heap.size, 3, none⟩ = some (.slice x.la x.ll.length x.lc) := by
                 rw [World.cell?_of_block (w := Wx.drew) (a := ⟨W0.heap.size, 3, none⟩) (o1.other W0.heap.size hgx (by omega))]; exact k0
               obtain ⟨A6, c6, rfl, hs6, -⟩ := own_strs ho6
               have HS6 := Lib.hid hs6
               have HS7 : Hid (StrsIs w6 x.la x.ll) := by
                 intro h0
                 obtain ⟨b', o', he, hcc⟩ := HOK.out.src h0
                 refine ⟨b', o', he, fun k hk => ?_⟩
                 have hb' := HBKS.out h0 _ he
                 rw [World.cell?_of_block (w := Wx.drew) (a := ⟨b', o' + k, none⟩) (o1.other b' (Nat.lt_trans hb'.1 hgx) hb'.2)]; exact hcc k hk
               have HN : Hid (BackRel w g its (i + 1) w6) := ⟨h1, HBD.out.trans (o1.below hgw hwsz)⟩
               clear h1 o1 ho6 hs6)
            | (go_at_call 31
               refine (texts_same A6 x.la c6 x.lc x.ll (by omega) _ HS6.out HS7.out).mono ?_
               rintro e w7 ⟨rfl, q, hw7⟩
               have k2 : w7.cell? ⟨W0.heap.size, 3, none⟩ = some (.slice x.la x.ll.length x.lc) := by rw [hw7]; exact k1
               have HN7 : Hid (BackRel w g its (i + 1) w7) := by show BackRel _ _ _ _ _; rw [hw7]; exact ⟨HN.out.rd.drewN q, below_drewN HN.out.below q⟩
               clear hw7))
        clear k0 k1 k2
        go_wp2_with fail
        refine (ok_any g g ⟨restN its (i + 1), false⟩ w7 HN7.out.rd).mono ?_
        rintro e w8 ⟨rfl, rfl⟩
        go_wp2_with fail
        go_roundw
        case rel => exact ⟨i + 1, by omega, by go_num, HN7.out⟩
        case measure => simp [intOf]; omega
    · obtain rfl : i = its.length := by omega
      have hr := HR.out.rd
      rw [restN_end] at hr
      have HRR := Lib.hid hr
      have HBB := Lib.hid HR.out.below
      clear hr HR
      go_wp2_with fail
      refine (end_any g g ⟨[], false⟩ W0 HRR.out).mono ?_
      rintro e w5 ⟨rfl, rfl⟩
      rw [show endR ⟨[], false⟩ = 0 from rfl]
      go_wp2_with fail
      refine (left_any g g ⟨[], false⟩ W0 HRR.out).mono ?_
      rintro e w5 ⟨rfl, rfl⟩
      go_wp2_with fail
      go_ret
      exact ⟨rfl, HBB.out⟩
theorem wback_all (A : Option Addr) (cap : Nat) (its : List It) (hm : its.length ≤ maxLen) (w : World) (hA : ItemsIs w A its) :
    Calls Try.prog 9 #[.slice A its.length cap] w fun e w' => e = .returned (.bool true) ∧ Below w.heap.size w w' := by
  cases h : shortsB its with
  | true => exact back_items A cap its hm h w hA
  | false => exact back_short A cap its hm h w hA
end Go.Proofs.Ytefifdejepafgaa
