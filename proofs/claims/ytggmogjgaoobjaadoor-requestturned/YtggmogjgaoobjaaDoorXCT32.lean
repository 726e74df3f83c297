/- The request of an Ask: all kinds; how long its bytes are. -/
import Derived.Test.YtggmogjgaoobjaaDoorXCT29
import Derived.Test.YtggmogjgaoobjaaDoorXCT30
import Derived.Test.YtggmogjgaoobjaaDoorXCT31
import Derived.Test.YtggmogjgaoobjaaDoorXCT28
import Derived.Laws.BitsAllLaws
namespace Go.Proofs.YtggmogjgaoobjaaDoor
open Go.RowKit RealMath BaseMath WireMath ReqMath PackMath
open TreeMath hiding By
theorem request_any (v : Value) (xk xn xf xp xm : By) (w : World) (h : WorldIs w v) :
    Calls Tryd.prog 14 #[v, .agg #[vb xk, vb xn, vb xf, vb xp, vb xm]] w (RqPost w) := by
  by_cases h0 : xk.toNat % 12 = 0
  · exact request_1 v xk xn xf xp xm w h h0
  by_cases h6 : xk.toNat % 12 = 6
  · exact request_7 v xk xn xf xp xm w h h6
  by_cases h10 : xk.toNat % 12 = 10 ∨ xk.toNat % 12 = 11
  · exact request_0 v xk xn xf xp xm w h h10
  · exact request_2 v xk xn xf xp xm w h ⟨h0, h6, fun e => h10 (.inl e), fun e => h10 (.inr e)⟩
theorem refs_len (l : List (List By)) (h : ∀ x ∈ l, x.length ≤ 100) : (l.flatMap textB).length ≤ 102 * l.length := by
  induction l with
  | nil => simp
  | cons x l ih =>
    have h1 := h x (by simp)
    have h2 := ih (fun y hy => h y (by simp [hy]))
    rw [List.flatMap_cons, List.length_append, textB_length, List.length_cons]; omega
theorem outs_len' (l : List OutV) (h : ∀ x ∈ l, x.name.length ≤ 100 ∧ x.arch.length ≤ 80000 ∧ (x.refs.length ≤ 16 ∧ ∀ y ∈ x.refs, y.length ≤ 100) ∧ x.needs.length < 4) : (l.flatMap outB).length ≤ 90000 * l.length := by
  induction l with
  | nil => simp
  | cons x l ih =>
    obtain ⟨h1, h2, ⟨h3, h4⟩, h5⟩ := h x (by simp)
    have h6 := ih (fun y hy => h y (by simp [hy]))
    have h7 := refs_len x.refs h4
    rw [List.flatMap_cons, List.length_append, List.length_cons, outB_length, itemB_length]; omega
theorem good_len {r : ReqV} (h : ReqGood r) : 0 < (encB r).length ∧ (encB r).length ≤ 400000 := by
  have h1 := h.path; have h2 := h.name; have h3 := h.arch; have h4 := h.refs; have h5 := h.outs
  have h6 := refs_len r.refs h4.2
  have h7 := outs_len' r.outs (fun x hx => by
    obtain ⟨i, hi, rfl⟩ := List.getElem_of_mem hx
    have := h5.2 i hi
    exact ⟨this.1, this.2.1, this.2.2.1, this.2.2.2.1⟩)
  unfold encB
  rw [List.length_append, List.length_singleton]
  refine ⟨by omega, ?_⟩
  unfold restB
  split
  · rw [textB_length]; omega
  · split
    · rw [itemB_length]; omega
    · split
      · unfold outsB; rw [List.length_append, List.length_singleton]; omega
      · simp
end Go.Proofs.YtggmogjgaoobjaaDoor

/- The walk of RequestTurned. -/
namespace Go.Proofs.YtggmogjgaoobjaaDoor
open Go.RowKit RealMath BaseMath WireMath ReqMath PackMath
open TreeMath hiding By

theorem u8_xor_by (x t : By) : bits .xor .u8 (x.toNat : Int) (t.toNat : Int) = ((x ^^^ t).toNat : Int) := by
  rw [u8_xor_nat _ _ x.toNat_lt t.toNat_lt, UInt8.toNat_xor]
theorem s25 {W : World} {b : Nat} {v0 v1 v2 v3 v4 : Value} (h : Blk W b 25 [v0, v1, v2, v3, v4]) : W.cell? ⟨b, 0, none⟩ = some v0 ∧ W.cell? ⟨b, 1, none⟩ = some v1 ∧ W.cell? ⟨b, 2, none⟩ = some v2 ∧ W.cell? ⟨b, 3, none⟩ = some v3 ∧ W.cell? ⟨b, 4, none⟩ = some v4 := by
  have c0 := h.cell 0; have c1 := h.cell 1; have c2 := h.cell 2; have c3 := h.cell 3; have c4 := h.cell 4
  exact ⟨c0, c1, c2, c3, c4⟩
set_option maxHeartbeats 8000000 in
set_option maxRecDepth 100000 in
theorem turned_walk (A : Option Addr) (c : Nat) (tt : List (List Md)) (xk xn xf xp xm : By) (a : Nat) (t cu : By) (B : Option Addr) (cb : Nat) (more : List By) (w : World) (ht : KTab w) (hl : tt.length ≤ maxLen) (h1 : TreesIs w w.heap.size A tt) (ha : a < 65536) (hml : more.length ≤ maxLen) (hNB : B = none → cb = 0) (hMO : SrcIs w B more) :
    Calls Tryd.prog 5 #[.slice A tt.length c, .agg #[vb xk, vb xn, vb xf, vb xp, vb xm], .int .u16 a, vb t, vb cu, .slice B more.length cb] w fun e w' => e = .returned (.bool true) ∧ Below w.heap.size w w' := by
  have H1 := Lib.hid h1; have HNB := Lib.hid hNB; have HMO := Lib.hid hMO; have HT := Lib.hid ht; have HL := Lib.hid hl
  unfold maxLen at hml
  clear h1 hNB hMO ht hl
  go_enter Tryd.func5, Tryd.ntmps5
  have hBX : Blk (w.alloc (.cells #[vb xk, vb xn, vb xf, vb xp, vb xm] 25)) w.heap.size 25 [vb xk, vb xn, vb xf, vb xp, vb xm] := Blk.new w 25 _
  have hB0 : Below w.heap.size w (w.alloc (.cells #[vb xk, vb xn, vb xf, vb xp, vb xm] 25)) := (Below.refl _ _).alloc (Nat.le_refl _) _
  have HS0 : Hid (w.heap.size < (w.alloc (.cells #[vb xk, vb xn, vb xf, vb xp, vb xm] 25)).heap.size) := by show _ < _; simp
  have HBX := Lib.hid hBX; have HB0 := Lib.hid hB0
  clear hBX hB0
  go_upto_region 1 with fail
  generalize w.alloc (.cells #[vb xk, vb xn, vb xf, vb xp, vb xm] 25) = w0 at *
  go_wp2_with fail
  refine (lone_any w0 (HT.out.belowS HB0.out)).mono ?_
  rintro e w1 ⟨rfl, hb1⟩
  have HB1 := Lib.hid (HB0.out.trans (hb1.mono HB0.out.size))
  have HBX1 := Lib.hid (HBX.out.below hb1 HS0.out)
  clear hb1 HBX HS0
  go_wp2_with fail
  refine (small11_any A c w.heap.size tt HL.out w1 (H1.out.keep HB1.out)).mono ?_
  rintro e w2 ⟨b, rfl, hsm, hb2⟩
  have HB2 := Lib.hid (HB1.out.trans (hb2.mono HB1.out.size))
  have HBX2 := Lib.hid (HBX1.out.below hb2 (Blk.lt HBX1.out))
  have HSM := Lib.hid hsm
  clear hb2 hsm HBX1 HB1
  cases b with
  | false =>
    go_wp2_with fail
    refine (lone_any w2 (HT.out.belowS HB2.out)).mono ?_
    rintro e w3 ⟨rfl, hb3⟩
    have HB3 := Lib.hid (HB2.out.trans (hb3.mono HB2.out.size))
    clear hb3
    go_wp2_with fail
    go_ret
    exact ⟨rfl, HB3.out⟩
  | true =>
    obtain ⟨ht3, hdd⟩ := HSM.out rfl
    have HDD := Lib.hid hdd
    clear hdd HSM
    by_cases h60 : 60 < more.length
    · have h60' : decide ((60 : Int) < more.length) = true := decide_eq_true (by omega)
      go_wp2_with fail
      refine (lone_any w2 (HT.out.belowS HB2.out)).mono ?_
      rintro e w3 ⟨rfl, hb3⟩
      have HB3 := Lib.hid (HB2.out.trans (hb3.mono HB2.out.size))
      clear hb3
      go_wp2_with fail
      go_ret
      exact ⟨rfl, HB3.out⟩
    have h60' : decide ((60 : Int) < more.length) = false := decide_eq_false (by omega)
    have HML : Hid (more.length ≤ 60) := by show _ ≤ _; omega
    clear h60
    go_upto_region 3 with fail
    clear h60'
    have HB3 : Hid (Below w.heap.size w w2.drew) := HB2.out.drew
    have HBX3 : Hid (Blk w2.drew w.heap.size 25 [vb xk, vb xn, vb xf, vb xp, vb xm]) := HBX2.out
    have HBG : Hid (Calls Tryd.prog 12 #[.slice A tt.length c] w2.drew fun e w' => (∃ v, e = .returned v ∧ WorldIs w' v) ∧ Below w2.drew.heap.size w2.drew w') := begin_any A c w.heap.size tt ht3 HDD.out w2.drew (H1.out.keep HB3.out)
    have k3 := s25 HBX3.out
    go_cut [13] from 28 to 61 (fun s13 wx => Hid (∃ (g c3 : Nat) (p : List By) (tl : List Value), s13 = .slice (some ⟨g, 0, none⟩) p.length c3 ∧ 0 < p.length ∧ p.length ≤ 400000 ∧ p.length ≤ c3 ∧ w.heap.size ≤ g ∧ Blk wx g 5 (p.map vb ++ tl) ∧ Below w.heap.size w wx))
    case first =>
      go_region_held3 (fun W => W.cell? ⟨w.heap.size, 0, none⟩ = some (vb xk) ∧ W.cell? ⟨w.heap.size, 1, none⟩ = some (vb xn) ∧ W.cell? ⟨w.heap.size, 2, none⟩ = some (vb xf) ∧ W.cell? ⟨w.heap.size, 3, none⟩ = some (vb xp) ∧ W.cell? ⟨w.heap.size, 4, none⟩ = some (vb xm))
        (first | with_reducible exact k3 | with_reducible exact k4 | with_reducible exact k5 | with_reducible exact k6 | with_reducible exact k7)
        (first
          | (go_at_call 12
             with_reducible refine HBG.out.mono ?_
             rintro e w4 ⟨⟨wv, rfl, hwi⟩, hb4⟩
             have HWI := Lib.hid hwi
             have HB4 : Hid (Below w.heap.size w w4) := HB3.out.trans (hb4.mono HB3.out.size)
             have HBX4 := Lib.hid (HBX3.out.below hb4 (Blk.lt HBX3.out))
             have k4 := s25 HBX4.out
             clear hwi hb4)
          | (go_at_call 14
             with_reducible refine (request_any _ xk xn xf xp xm w4 HWI.out).mono ?_
             rintro e w5 ⟨⟨rv, r, rfl, hri, hrg⟩, hb5⟩
             have HRI := Lib.hid hri; have HRG := Lib.hid hrg
             have HB5 : Hid (Below w.heap.size w w5) := HB4.out.trans (hb5.mono HB4.out.size)
             have HBX5 := Lib.hid (HBX4.out.below hb5 (Blk.lt HBX4.out))
             have k5 := s25 HBX5.out
             clear hri hrg hb5)
          | (go_at_call 17
             with_reducible refine (rencode_any r _ (by have := HRG.out.refs.1; omega) (fun y hy => by
               obtain ⟨i, hi, rfl⟩ := List.getElem_of_mem hy
               have := (HRG.out.outs.2 i hi).2.2.1.1
               omega) (good_len HRG.out).2 w5 HRI.out).mono ?_
             rintro e w6 ⟨v6, rfl, hr6⟩
             obtain ⟨A6, c6, rfl, hs6, hn6, hc6, -⟩ := hr6.src
             have HS6 := Lib.hid hs6; have HN6 := Lib.hid hn6
             have HB6 : Hid (Below w.heap.size w w6) := HB5.out.trans (hr6.below.mono HB5.out.size)
             have HBX6 := Lib.hid (HBX5.out.below hr6.below (Blk.lt HBX5.out))
             have k6 := s25 HBX6.out
             have HJ : Hid (Calls Tryd.prog 21 #[.slice A6 (encB r).length c6, .slice none 0 0] w6 fun e w' => ∃ v, e = .returned v ∧ RowRel w6 5 ((encB r ++ []).map vb) v w') := join_any A6 none c6 0 (encB r) [] (by have := (good_len HRG.out).2; simp; omega) HN6.out (fun _ => rfl) w6 HS6.out (fun h => absurd h (by simp))
             clear hr6 hs6 hn6 hc6)
          | (go_at_call 21
             with_reducible refine HJ.out.mono ?_
             rintro e w7 ⟨v7, rfl, hr7⟩
             have HR7 := Lib.hid hr7
             have HB7 : Hid (Below w.heap.size w w7) := HB6.out.trans (hr7.below.mono HB6.out.size)
             have HBX7 := Lib.hid (HBX6.out.below hr7.below (Blk.lt HBX6.out))
             have k7 := s25 HBX7.out
             clear hr7)
          | fail)
      go_wp2_with fail
      go_meet
      obtain ⟨hpos, hle⟩ := good_len HRG.out
      have hr := HR7.out
      rw [List.append_nil] at hr
      rcases hr.own.2 with ⟨_, hz⟩ | ⟨g, cap, cur, hv, hg, hc, hn, _, hs, htk⟩
      · rw [List.length_map] at hz; omega
      · rw [Nat.mul_one, List.length_map] at htk
        rw [List.length_map] at hv hn
        refine ⟨g, cap, encB r, cur.toList.drop (encB r).length, hv, hpos, hle, hn, by have := HB6.out.size; omega, ?_, HB7.out⟩
        unfold Blk; rw [← htk, List.take_append_drop]; exact hc
    obtain ⟨g, c3, p, tl, rfl, hpos, hple, hpc, hgw, hblk, hbc⟩ := hcut.out
    rename World => w4
    have HPL := Lib.hid hple
    obtain ⟨i, hi⟩ : ∃ i, i = a % p.length := ⟨_, rfl⟩
    have hi1 : (a : Int) % (p.length : Int) = (i : Nat) := by rw [hi]; exact (Int.natCast_emod _ _).symm
    have hi3 : (a : Int).tmod (p.length : Int) = (i : Nat) := by rw [Int.tmod_eq_emod_of_nonneg (by omega)]; exact hi1
    have hi2 : i < p.length := by rw [hi]; exact Nat.mod_lt _ hpos
    clear hi
    have c0 : w4.cell? ⟨g, i, none⟩ = some (vb p[i]) := by have := Blk.bytes hblk i hi2; rwa [Nat.zero_add] at this
    have f0 := hblk.frozen i
    have hset := hblk.set i (vb (p[i] ^^^ t))
    rw [List.set_append_left _ _ (by simpa using hi2), ← List.map_set] at hset
    have HX5 := Lib.hid hset
    have hxx := u8_xor_by p[i] t
    have HB5 : Hid (Below w.heap.size w (w4.setCell ⟨g, i, none⟩ (vb (p[i] ^^^ t)))) := hbc.setCell hgw _
    generalize hq : p.set i (p[i] ^^^ t) = q at *
    have HQL : Hid (q.length = p.length) := by show _ = _; rw [← hq]; simp
    clear hq hset hblk hcut hbc HBG HB3 HBX3 k3 HBX2 HB2 HDD ht3 H1 HL HB0
    generalize p[i] ^^^ t = yv at *
    generalize p[i] = xv at *
    go_upto_region 5 with fail
    generalize hW : w4.setCell ⟨g, i, none⟩ (vb yv) = W5 at *
    clear hW c0 f0 hxx hi1 hi3
    obtain ⟨m, hm0⟩ : ∃ m, m = cu.toNat % p.length := ⟨_, rfl⟩
    have hm1 : (cu.toNat : Int) % (p.length : Int) = (m : Nat) := by rw [hm0]; exact (Int.natCast_emod _ _).symm
    have hm3 : (cu.toNat : Int).tmod (p.length : Int) = (m : Nat) := by rw [Int.tmod_eq_emod_of_nonneg (by omega)]; exact hm1
    have hm2 : m < p.length := by rw [hm0]; exact Nat.mod_lt _ hpos
    clear hm0
    have hcul := cu.toNat_lt
    have hkey : ∃ n : Nat, 0 < n ∧ n ≤ p.length ∧ (((cu.toNat : Int) % 2 == 1) = true ∧ (p.length : Int) - (m : Int) = (n : Int) ∨ ((cu.toNat : Int) % 2 == 1) = false ∧ n = p.length) := by
      by_cases hev : cu.toNat % 2 = 1
      · exact ⟨p.length - m, by omega, by omega, .inl ⟨by rw [beq_iff_eq]; omega, by omega⟩⟩
      · exact ⟨p.length, hpos, Nat.le_refl _, .inr ⟨by rw [beq_eq_false_iff_ne]; omega, rfl⟩⟩
    obtain ⟨n, hn0, hnl, hkey⟩ := hkey
    have HJ : Hid (Calls Tryd.prog 21 #[.slice (some ⟨g, 0, none⟩) n c3, .slice B more.length cb] W5 fun e w' => ∃ v, e = .returned v ∧ RowRel W5 5 ((q.take n ++ more).map vb) v w') := by
      have := join_any (some ⟨g, 0, none⟩) B c3 cb (q.take n) more (by have := HML.out; have := HPL.out; have := HQL.out; rw [List.length_take]; omega) (fun h => by cases h) HNB.out W5 (bytes_src ((Blk.bytes HX5.out).take n)) (HMO.out.below HB5.out)
      rw [List.length_take, Nat.min_eq_left (by have := HQL.out; omega)] at this; exact this
    generalize hp6 : q.take n ++ more = p6 at *
    have HP6L : Hid (p6.length ≤ 500000) := by
      have := HML.out; have := HPL.out; have := HQL.out
      show _ ≤ _
      rw [← hp6, List.length_append, List.length_take]; omega
    clear hp6
    rcases hkey with ⟨hk1, hk2⟩ | ⟨hk1, rfl⟩
    all_goals
      go_upto_region 8 with fail
      clear hk1 hm1 hm3
      go_wp2_with fail
      refine HJ.out.mono ?_
      rintro e w6 ⟨u, rfl, hu⟩
      obtain ⟨A6, c6, rfl, hA6, hN6, hc6, -⟩ := hu.src
      have HB6 := Lib.hid (HB5.out.trans (hu.below.mono HB5.out.size))
      have HD : Hid (Calls Tryd.prog 20 #[.slice A6 p6.length c6] w6 fun e w' => e = .returned (.bool true) ∧ Below w6.heap.size w6 w') := decodes_any A6 c6 p6 HP6L.out hN6 hc6 w6 (HT.out.belowS HB6.out) hA6
      clear hu hA6 hN6 hc6 HJ
      go_wp2_with fail
      refine HD.out.mono ?_
      rintro e w7 ⟨rfl, hb7⟩
      have HB7 := Lib.hid (HB6.out.trans (hb7.mono HB6.out.size))
      clear hb7
      go_wp2_with fail
      go_ret
      exact ⟨rfl, HB7.out⟩
end Go.Proofs.YtggmogjgaoobjaaDoor
