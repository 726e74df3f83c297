/- Paths of numbers, spots told twice, and the walk of ScanTwice: texts put together. -/
import Derived.Test.YthmenbccofhjfaaSX
import Derived.Deep.QuietTactic
/- A path of a number; spots as mathematics, more; bytes that are alike. -/
namespace Go.Proofs.Ythmenbccofhjfaa
open Go.RowKit BaseMath WireMath NameMath

def sixth (n : By) : By := UInt8.ofNat (n.toNat % 6)
theorem sixth_nat (n : By) : (sixth n).toNat = n.toNat % 6 := by
  unfold sixth; rw [UInt8.toNat_ofNat_of_lt' (by show _ < 256; have := Nat.mod_lt n.toNat (y := 6) (by decide); omega)]
set_option maxHeartbeats 1000000 in
set_option maxRecDepth 100000 in
theorem path_any (n : By) (w : World) : Calls Try.prog 11 #[vb n] w fun e w' => e = .returned (vs (pathN (sixth n))) ∧ Below w.heap.size w w' := by
  have hrem : (n.toNat : Int) % 6 = ((sixth n).toNat : Int) := by rw [sixth_nat, Int.natCast_emod]; rfl
  have htm : (n.toNat : Int).tmod 6 = ((sixth n).toNat : Int) := by rw [Int.tmod_eq_emod_of_nonneg (by omega)]; exact hrem
  generalize sixth n = m at *
  go_enter Try.func11, Try.ntmps11
  go_wp2_with fail
  refine (Hs.new_any w).mono ?_
  rintro e w1 ⟨t, rfl, hh, hb1⟩
  have HH := Lib.hid (hh.below ((Below.refl w1.heap.size w1).alloc (Nat.le_refl _) (.cells #[vb m] 5)))
  have HS := Lib.hid (one_src w1 m)
  have HB2 : Hid (Below w.heap.size w (w1.alloc (.cells #[vb m] 5))) := hb1.alloc hb1.size _
  clear hh hb1
  go_wp2_with fail
  have HM := Lib.hid (make_one t w1.heap.size m _ HH.out HS.out)
  generalize w1.alloc (.cells #[vb m] 5) = w2 at *
  refine HM.out.mono ?_
  rintro e w3 ⟨rfl, hb3⟩
  have HB3 : Hid (Below w.heap.size w w3) := HB2.out.trans (hb3.mono HB2.out.size)
  clear hb3 HB2 HM HH HS
  go_wp2_with fail
  go_ret
  exact ⟨rfl, HB3.out⟩
set_option maxHeartbeats 1000000 in
set_option maxRecDepth 100000 in
theorem bytes_same (A B : Option Addr) (ca cb : Nat) (l : List By) (hl : l.length ≤ 100000) (w : World) (hA : SrcIs w A l) (hB : SrcIs w B l) :
    Calls Try.prog 21 #[.slice A l.length ca, .slice B l.length cb] w fun e w' => e = .returned (.bool true) ∧ ∃ q, w' = w.drewN q := by
  have HA := Lib.hid hA; have HB := Lib.hid hB
  clear hA hB
  go_enter Try.func21, Try.ntmps21
  go_wp2_with fail
  go_loopw [5] (fun vi wr => ∃ k : Nat, k ≤ l.length ∧ vi = .int .i64 k ∧ Hid (∃ q, wr = w.drewN q)) (fun vi _ => l.length - (intOf vi).toNat)
  case atStart => exact ⟨0, Nat.zero_le _, rfl, 0, rfl⟩
  case round =>
    obtain ⟨k, hk, rfl, HR⟩ := hrel
    rename World => W0
    by_cases hlt : k < l.length
    · obtain ⟨a, oa, rfl, ha⟩ := HA.out (by omega)
      obtain ⟨b, ob, rfl, hb⟩ := HB.out (by omega)
      obtain ⟨q, rfl⟩ := HR.out
      have c1 : w.cell? ⟨a, oa + k, none⟩ = some (vb (l.getD k 0)) := ha.getD k hlt
      have c2 : w.cell? ⟨b, ob + k, none⟩ = some (vb (l.getD k 0)) := hb.getD k hlt
      generalize l.getD k 0 = x at *
      clear ha hb HA HB HR
      go_wp2_with fail
      go_quiet (fail)
      go_wp2_with fail
      go_roundw
      case rel => exact ⟨k + 1, by omega, by go_num, _, rfl⟩
      case measure => simp [intOf]; omega
    · obtain rfl : k = l.length := by omega
      go_wp2
      go_ret
      exact ⟨rfl, HR.out⟩
theorem mem_spots {p t : List By} {i k : Nat} : k ∈ spotsTo p t i ↔ k < i ∧ spotF p t k = true := by
  unfold spotsTo; rw [List.mem_filter, List.mem_range]
theorem spots_lt (p t : List By) (i : Nat) : (spotsTo p t i).Pairwise (· < ·) := by
  unfold spotsTo; exact List.pairwise_lt_range.filter _
theorem spot_fits {p t : List By} {k : Nat} (h : spotF p t k = true) (h0 : 0 < t.length) : k + t.length ≤ p.length ∧ (p.drop k).take t.length = t := by
  unfold spotF preB at h
  have h := of_decide_eq_true h
  have h2 := congrArg List.length h
  rw [List.length_take, List.length_drop] at h2
  exact ⟨by omega, h⟩
theorem spot_at (a t c : List By) : spotF (a ++ t ++ c) t a.length = true := by
  unfold spotF preB
  rw [decide_eq_true_eq, List.append_assoc, List.drop_left', List.take_left'] <;> rfl
theorem two_mem {l : List Nat} {a b : Nat} (ha : a ∈ l) (hb : b ∈ l) (h : a ≠ b) : 2 ≤ l.length := by
  match l, ha, hb with
  | [], ha, _ => simp at ha
  | [x], ha, hb => simp at ha hb; omega
  | _ :: _ :: _, _, _ => simp
theorem spots_twice (a m t : List By) (h0 : 0 < t.length) : 2 ≤ (spotsTo (((a ++ t) ++ m) ++ t) t (((a ++ t) ++ m) ++ t).length).length := by
  have h1 : a.length ∈ spotsTo (((a ++ t) ++ m) ++ t) t (((a ++ t) ++ m) ++ t).length := by
    rw [mem_spots]
    refine ⟨by simp only [List.length_append]; omega, ?_⟩
    have := spot_at a t (m ++ t)
    simpa using this
  have h2 : ((a ++ t) ++ m).length ∈ spotsTo (((a ++ t) ++ m) ++ t) t (((a ++ t) ++ m) ++ t).length := by
    rw [mem_spots]
    refine ⟨by simp only [List.length_append]; omega, ?_⟩
    have := spot_at ((a ++ t) ++ m) t []
    simpa using this
  exact two_mem h1 h2 (by simp only [List.length_append]; omega)
end Go.Proofs.Ythmenbccofhjfaa

/- The walk of ScanTwice. -/
namespace Go.Proofs.Ythmenbccofhjfaa
open Go.RowKit BaseMath WireMath NameMath

theorem join_n (A B : Option Addr) (ca cb n m : Nat) (a b : List By) (ha : a.length = n) (hb : b.length = m) (hl : n + m ≤ 1000000) (hNA : A = none → ca = 0) (hNB : B = none → cb = 0) (w : World) (hA : SrcIs w A a) (hB : SrcIs w B b) :
    Calls Try.prog 18 #[.slice A n ca, .slice B m cb] w fun e w' => ∃ A' c', e = .returned (.slice A' (a ++ b).length c') ∧ SrcIs w' A' (a ++ b) ∧ (A' = none → c' = 0) ∧ (a ++ b).length ≤ c' ∧ Below w.heap.size w w' := by
  subst ha hb
  refine (join_any A B ca cb a b hl hNA hNB w hA hB).mono fun e w' h => ?_
  obtain ⟨v, rfl, hr⟩ := h
  obtain ⟨A', c', rfl, hs, hn, hl2, -⟩ := hr.src
  exact ⟨A', c', rfl, hs, hn, hl2, hr.below⟩
set_option maxHeartbeats 1000000 in
set_option maxRecDepth 100000 in
theorem twice_walk (A B : Option Addr) (ca cb : Nat) (a m : List By) (n : By) (w : World) (hm1 : a.length ≤ maxLen) (hm2 : m.length ≤ maxLen) (hN1 : A = none → ca = 0) (hN2 : B = none → cb = 0) (hA : SrcIs w A a) (hB : SrcIs w B m) :
    Calls Try.prog 7 #[.slice A a.length ca, .slice B m.length cb, vb n] w fun e w' => e = .returned (.bool true) ∧ Below w.heap.size w w' := by
  unfold maxLen at hm1 hm2
  have HA := Lib.hid hA; have HBm := Lib.hid hB; have HN1 := Lib.hid hN1; have HN2 := Lib.hid hN2; clear hA hB hN1 hN2
  by_cases h1 : a.length ≤ 60
  · have h1' : ¬ (60 : Int) < a.length := by omega
    by_cases h2 : m.length ≤ 60
    · have h2' : ¬ (60 : Int) < m.length := by omega
      go_enter Try.func7, Try.ntmps7
      go_wp2_with fail
      refine (found_once w w (Below.refl _ _)).mono ?_
      rintro e w1 ⟨rfl, hb1⟩
      have HB1 := Lib.hid hb1; clear hb1
      go_wp2_with fail
      refine (path_any n w1).mono ?_
      rintro e w2 ⟨rfl, hb2⟩
      have HB2 : Hid (Below w.heap.size w w2) := HB1.out.trans (hb2.mono HB1.out.size)
      have HPB := Lib.hid (pathN_is (sixth n))
      have HXL := Lib.hid (pathN_length (sixth n))
      generalize pathN (sixth n) = x at *
      clear hb2 HB1
      have hxl : (32 : Int) ≤ x.length := by have := HXL.out; omega
      have HTL := Lib.hid (path_take32 HPB.out)
      go_upto_region 4 with fail
      obtain ⟨c3, w3, hcv, hc3, hs3, hb3⟩ := str_cap (x.take 32) w2
      rw [← ext_take, HTL.out] at hcv
      have HB3 : Hid (Below w.heap.size w w3) := HB2.out.trans (hb3.mono HB2.out.size)
      have HS3 := Lib.hid hs3
      have hsp : ∀ q, spotsB q x = spotsTo q (x.take 32) q.length := fun q => by unfold spotsB; rw [HPB.out]; rfl
      have HSP := Lib.hid hsp
      clear hs3 hb3 HB2 hsp
      generalize x.take 32 = t at *
      generalize w2.heap.size = gs at *
      have HEQ : Hid (∀ q, q = ((a ++ t) ++ m) ++ t → 2 ≤ (spotsTo q t q.length).length) := fun q hq => by rw [hq]; exact spots_twice a m t (by rw [HTL.out]; decide)
      go_wp2_with fail
      refine (join_n A (some ⟨gs, 0, none⟩) ca c3 a.length 32 a t rfl HTL.out (by omega) HN1.out (fun h => by cases h) w3 (HA.out.below HB3.out) HS3.out).mono ?_
      rintro e w4 ⟨A4, c4, rfl, hs4, hn4, -, hb4⟩
      have HB4 : Hid (Below w.heap.size w w4) := HB3.out.trans (hb4.mono HB3.out.size)
      have HS4 := Lib.hid hs4; have HN4 := Lib.hid hn4; have HST4 := Lib.hid (HS3.out.below hb4)
      have hq1 : (a ++ t).length ≤ 92 := by have := HTL.out; rw [List.length_append]; omega
      clear hs4 hn4 hb4 HB3 HS3 hcv
      generalize a ++ t = q1 at *
      go_wp2_with fail
      refine (join_n A4 B c4 cb q1.length m.length q1 m rfl rfl (by omega) HN4.out HN2.out w4 HS4.out (HBm.out.below HB4.out)).mono ?_
      rintro e w5 ⟨A5, c5, rfl, hs5, hn5, -, hb5⟩
      have HB5 : Hid (Below w.heap.size w w5) := HB4.out.trans (hb5.mono HB4.out.size)
      have HS5 := Lib.hid hs5; have HN5 := Lib.hid hn5; have HST5 := Lib.hid (HST4.out.below hb5)
      have hq2 : (q1 ++ m).length ≤ 152 := by rw [List.length_append]; omega
      clear hs5 hn5 hb5 HB4 HS4 HN4 HST4
      generalize q1 ++ m = q2 at *
      go_wp2_with fail
      refine (join_n A5 (some ⟨gs, 0, none⟩) c5 c3 q2.length 32 q2 t rfl HTL.out (by omega) HN5.out (fun h => by cases h) w5 HS5.out HST5.out).mono ?_
      rintro e w6 ⟨A6, c6, rfl, hs6, -, hl6, hb6⟩
      have HB6 : Hid (Below w.heap.size w w6) := HB5.out.trans (hb6.mono HB5.out.size)
      have HS6 := Lib.hid hs6; have HST6 := Lib.hid (HST5.out.below hb6)
      have hq3 : (q2 ++ t).length ≤ 184 := by have := HTL.out; rw [List.length_append]; omega
      have HTW := Lib.hid (HEQ.out (q2 ++ t) rfl)
      clear hs6 hb6 HB5 HS5 HN5 HST5 HEQ
      generalize q2 ++ t = q at *
      go_wp2_with fail
      refine (spots_any A6 c6 q (by omega) hl6 x w6 HS6.out).mono ?_
      rintro e w7 ⟨v7, rfl, hr7⟩
      rw [HSP.out] at hr7
      have HR8 := Lib.hid (fun W hA => rspots_any A6 c6 q (by omega) hl6 x W hA)
      rw [HSP.out] at HR8
      obtain ⟨A7, c7, rfl, hi7⟩ := row_ints hr7
      have HB7 : Hid (Below w.heap.size w w7) := HB6.out.trans (hr7.below.mono HB6.out.size)
      have HI7 := Lib.hid hi7; have HS7 := Lib.hid (HS6.out.below hr7.below); have HST7 := Lib.hid (HST6.out.below hr7.below)
      have HMEM : Hid (∀ i (h : i < (spotsTo q t q.length).length), (spotsTo q t q.length)[i] + 32 ≤ q.length ∧ (q.drop (spotsTo q t q.length)[i]).take 32 = t) := fun i h => by
        have hm := (mem_spots.1 (List.getElem_mem h)).2
        have := spot_fits hm (by rw [HTL.out]; decide)
        rwa [HTL.out] at this
      have HLT := Lib.hid (List.pairwise_iff_getElem.1 (spots_lt q t q.length))
      have hll : (spotsTo q t q.length).length ≤ 184 := Nat.le_trans (spotsTo_len q t q.length) hq3
      generalize spotsTo q t q.length = l at *
      clear hr7 hi7 HB6 HS6 HST6
      have h2l : 2 ≤ l.length := HTW.out
      go_wp2_with fail
      go_loopw [11] (fun vi wr => ∃ i : Nat, i ≤ l.length ∧ vi = .int .i64 i ∧ Hid (∃ q, wr = w7.drewN q)) (fun vi _ => l.length - (intOf vi).toNat)
      case atStart => exact ⟨0, Nat.zero_le _, rfl, 0, rfl⟩
      case round =>
        obtain ⟨i, hi, rfl, HR⟩ := hrel
        rename World => W0
        obtain ⟨qd, rfl⟩ := HR.out
        by_cases hlt : i < l.length
        · obtain ⟨b7, o7, hA7, hc7⟩ := HI7.out (by omega)
          subst hA7
          obtain ⟨b6, o6, hA6, hc6⟩ := HS7.out (by have := (HMEM.out i hlt).1; omega)
          subst hA6
          have hx := HMEM.out i hlt
          have k1 : (w7.drewN qd).cell? ⟨b7, o7 + i, none⟩ = some (vn l[i]) := hc7 i hlt
          have HQ : Hid (∀ k, Calls Try.prog 21 #[.slice (some ⟨b6, o6 + l[i], none⟩) 32 (c6 - l[i]), .slice (some ⟨gs, 0, none⟩) 32 c3] ((w7.drewN qd).drewN k) fun e w' => e = .returned (.bool true) ∧ ∃ m, w' = (w7.drewN qd).drewN m) := fun k => by
            have h := bytes_same (some ⟨b6, o6 + l[i], none⟩) (some ⟨gs, 0, none⟩) (c6 - l[i]) c3 t (by rw [HTL.out]; decide) ((w7.drewN qd).drewN k) (by rw [← hx.2]; exact bytes_src ((hc6.drop _).take 32)) (HST7.out)
            rw [HTL.out] at h
            exact Calls.quiet_of h
          have HN : Hid (∀ k, ∃ q, (w7.drewN qd).drewN k = w7.drewN q) := fun k => ⟨qd + k, World.drewN_drewN _ _ _⟩
          have hxq := hx.1
          have hlast : 0 < i → l[i - 1]'(by omega) < l[i] := fun h0 => HLT.out (i - 1) i (by omega) hlt (by omega)
          have k2 : 0 < i → (w7.drewN qd).cell? ⟨b7, o7 + (i - 1), none⟩ = some (vn (l[i - 1]'(by omega))) := fun h0 => hc7 (i - 1) (by omega)
          generalize w7.drewN qd = W0 at *
          clear hx hc7 hc6 HR
          by_cases h0 : 0 < i
          · have k2 := k2 h0
            have hlast := hlast h0
            generalize l[i - 1]'(by omega) = y at *
            generalize l[i] = x at *
            have h0' : (0 : Int) < i := by omega
            have e1 : ¬ (x : Int) < 0 := by omega
            have e2 : IntKind.i64.wrap ((q.length : Int) - 32) = (q.length : Int) - 32 := IntWalk.i64_in _ (by omega)
            have e3 : ¬ ((q.length : Int) - 32 < x) := by omega
            have e4 : IntKind.i64.wrap ((x : Int) + 32) = (x : Int) + 32 := IntWalk.i64_in _ (by omega)
            have e5 : ((x : Int) + 32).toNat = x + 32 := by omega
            have e6 : IntKind.i64.wrap ((i : Int) - 1) = (i : Int) - 1 := IntWalk.i64_in _ (by omega)
            have e7 : ((i : Int) - 1).toNat = i - 1 := by omega
            have e8 : ¬ (x : Int) ≤ y := by omega
            have e9 : (0 : Int) ≤ (i : Int) - 1 := by omega
            have e10 : (i : Int) - 1 < l.length := by omega
            have e11 : x + 32 - x = 32 := by omega
            have e16 : (1 : Int) ≤ i := by omega
            have e17 : (i : Int) < l.length + 1 := by omega
            have e18 : i - 1 < l.length := by omega
            have e19 : 1 ≤ i := by omega
            have e12 : ¬ c6 = x := by omega
            have e13 : (x : Int) + 32 ≤ c6 := by omega
            have e14 : (0 : Int) ≤ (x : Int) + 32 := by omega
            have e15 : (x : Int) ≤ (x : Int) + 32 := by omega
            go_wp2_with fail
            have b1 : decide ((x : Int) < 0) = false := decide_eq_false (by omega)
            have b3 : decide ((q.length : Int) - 32 < (x : Int)) = false := decide_eq_false (by omega)
            have b4 : decide ((0 : Int) < i) = true := decide_eq_true (by omega)
            have b5 : decide (x ≤ y) = false := decide_eq_false (by omega)
            have b6 : decide ((x : Int) ≤ y) = false := decide_eq_false (by omega)
            go_big_quiet ((go_at_call 21; with_reducible exact HQ.out _))
            go_wp2_with fail
            go_roundw
            case rel => exact ⟨i + 1, by omega, by go_num, HN.out _⟩
            case measure => simp [intOf]; omega
          · clear k2 hlast
            generalize l[i] = x at *
            have g1 : decide (0 < i) = false := decide_eq_false h0
            have g2 : decide ((0 : Int) < i) = false := decide_eq_false (by omega)
            have hi0 : i ≤ 0 := by omega
            have HI0 := Lib.hid hi0
            clear h0 hi0
            have e1 : ¬ (x : Int) < 0 := by omega
            have e2 : IntKind.i64.wrap ((q.length : Int) - 32) = (q.length : Int) - 32 := IntWalk.i64_in _ (by omega)
            have e3 : ¬ ((q.length : Int) - 32 < x) := by omega
            have e4 : IntKind.i64.wrap ((x : Int) + 32) = (x : Int) + 32 := IntWalk.i64_in _ (by omega)
            have e5 : ((x : Int) + 32).toNat = x + 32 := by omega
            have e11 : x + 32 - x = 32 := by omega
            have e12 : ¬ c6 = x := by omega
            have e13 : (x : Int) + 32 ≤ c6 := by omega
            have e14 : (0 : Int) ≤ (x : Int) + 32 := by omega
            have e15 : (x : Int) ≤ (x : Int) + 32 := by omega
            go_wp2_with fail
            have b1 : decide ((x : Int) < 0) = false := decide_eq_false (by omega)
            have b3 : decide ((q.length : Int) - 32 < (x : Int)) = false := decide_eq_false (by omega)
            go_big_quiet ((go_at_call 21; with_reducible exact HQ.out _))
            have hi1 : i ≤ 0 := HI0.out
            clear g1 g2 b1 b3
            go_wp2_with fail
            go_roundw
            case rel => exact ⟨i + 1, by omega, by go_num, HN.out _⟩
            case measure => simp [intOf]; omega
        · obtain rfl : i = l.length := by omega
          have HB8 : Hid (Below w.heap.size w (w7.drewN qd)) := below_drewN HB7.out qd
          have HI8 : Hid (IntsIs (w7.drewN qd) A7 l) := HI7.out
          have HS8 : Hid (SrcIs (w7.drewN qd) A6 q) := HS7.out
          generalize w7.drewN qd = w8 at *
          have h2l' : (2 : Int) ≤ l.length := by omega
          clear HR
          go_wp2_with fail
          refine (HR8.out w8 HS8.out).mono ?_
          rintro e w9 ⟨v9, rfl, hr9⟩
          obtain ⟨A9, c9, rfl, hi9⟩ := row_ints hr9
          have HB9 : Hid (Below w.heap.size w w9) := HB8.out.trans (hr9.below.mono HB8.out.size)
          have HI9 := Lib.hid hi9; have HI89 := Lib.hid (HI8.out.below hr9.below)
          clear hr9 hi9 HB8 HI8 HS8
          go_wp2_with fail
          refine (ints_same A7 A9 c7 c9 l (by omega) w9 HI89.out HI9.out).mono ?_
          rintro e w10 ⟨rfl, q10, rfl⟩
          go_wp2_with fail
          go_ret
          exact ⟨rfl, below_drewN HB9.out q10⟩
    · have h2' : (60 : Int) < m.length := by omega
      go_enter Try.func7, Try.ntmps7
      go_wp2_with fail
      refine (found_once w w (Below.refl _ _)).mono ?_
      rintro e w1 ⟨rfl, hb1⟩
      have HB1 := Lib.hid hb1; clear hb1
      go_wp2_with fail
      refine (found_once w w1 HB1.out).mono ?_
      rintro e w2 ⟨rfl, hb2⟩
      have HB2 := Lib.hid hb2; clear hb2
      go_wp2_with fail
      go_ret
      exact ⟨rfl, HB2.out⟩
  · have h1' : (60 : Int) < a.length := by omega
    go_enter Try.func7, Try.ntmps7
    go_wp2_with fail
    refine (found_once w w (Below.refl _ _)).mono ?_
    rintro e w1 ⟨rfl, hb1⟩
    have HB1 := Lib.hid hb1; clear hb1
    go_wp2_with fail
    refine (found_once w w1 HB1.out).mono ?_
    rintro e w2 ⟨rfl, hb2⟩
    have HB2 := Lib.hid hb2; clear hb2
    go_wp2_with fail
    go_ret
    exact ⟨rfl, HB2.out⟩
end Go.Proofs.Ythmenbccofhjfaa
