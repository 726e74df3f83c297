import Derived.Test.YthocaimiofehkaaSX
import Derived.Deep.QuietTactic
import Derived.Test.YthocaimiofehkaaNMath
import Derived.Sort.LotA
import Derived.Lib.SlicesCompact
import Derived.Lib.IndexMore
import Derived.Shelf.Small.Bits
import Derived.Shelf.Small.Strs
import Derived.Shelf.Strconv.Itoa0
import Derived.Shelf.Strings.Search1
import Derived.Shelf.Sort.Plain
import Derived.Shelf.Slices.CompactS
import Derived.Shelf.Slices.Cells
import Derived.Shelf.Slices.In.SortNone
import Derived.Shelf.Bytes.SlIndexSmall
import Derived.Shelf.Bytes.SlIndexAt
import Derived.Shelf.Bytes.SlSearch0
import Derived.Shelf.Bytes.SlSearch1
import Derived.Shelf.Bytes.SlSearch2
import Derived.Shelf.Bytes.SlIndexWhole
import Derived.Shelf.LaysM
import Derived.Shelf.Bytes.SlSmallAll
import Derived.Shelf.Bytes.Small
import Derived.Shelf.Bytes.IndexByte
import Derived.Test.YthocaimiofehkaaProg
import Derived.Lib.RowBridge
import Derived.Test.YthocaimiofehkaaW14
import Derived.Test.YthocaimiofehkaaN6
import Derived.Maps.AppendAt
import Derived.Test.YthocaimiofehkaaN3b
import Derived.Deep.RegionHeld
import Derived.Deep.DrawnRows
/- Paths of numbers, spots told twice, and the walk of ScanTwice: texts put together. -/
/- A path of a number; spots as mathematics, more; bytes that are alike. -/
namespace Go.Proofs.Ythocaimiofehkaa
open Go.RowKit BaseMath WireMath NameMath

def sixth (n : By) : By := UInt8.ofNat (n.toNat % 6)
theorem sixth_nat (n : By) : (sixth n).toNat = n.toNat % 6 := by
  unfold sixth; rw [UInt8.toNat_ofNat_of_lt' (by show _ < 256; have := Nat.mod_lt n.toNat (y := 6) (by decide); omega)]
set_option maxHeartbeats 1000000 in
set_option maxRecDepth 100000 in
theorem path_any (n : By) (w : World) : Calls Try.prog 11 #[vb n] w fun e w' => e = .returned (vs (pathN (sixth n))) ∧ Below w.heap.size w w' := by
  have hrem : (n.toNat : Int) % 6 = ((sixth n).toNat : Int) := by rw [sixth_nat, Int.natCast_emod]; rfl
  have htm : (n.toNat : Int).tmod 6 = ((sixth n).toNat : Int) := by rw [Int.tmod_eq_emod_of_nonneg (by omega)]; exact hrem
  generalize sixth n = m at *
  go_enter Try.func11, Try.ntmps11
  go_wp2_with fail
  refine (Hs.new_any w).mono ?_
  rintro e w1 ⟨t, rfl, hh, hb1⟩
  have HH := Lib.hid (hh.below ((Below.refl w1.heap.size w1).alloc (Nat.le_refl _) (.cells #[vb m] 5)))
  have HS := Lib.hid (one_src w1 m)
  have HB2 : Hid (Below w.heap.size w (w1.alloc (.cells #[vb m] 5))) := hb1.alloc hb1.size _
  clear hh hb1
  go_wp2_with fail
  have HM := Lib.hid (make_one t w1.heap.size m _ HH.out HS.out)
  generalize w1.alloc (.cells #[vb m] 5) = w2 at *
  refine HM.out.mono ?_
  rintro e w3 ⟨rfl, hb3⟩
  have HB3 : Hid (Below w.heap.size w w3) := HB2.out.trans (hb3.mono HB2.out.size)
  clear hb3 HB2 HM HH HS
  go_wp2_with fail
  go_ret
  exact ⟨rfl, HB3.out⟩
set_option maxHeartbeats 1000000 in
set_option maxRecDepth 100000 in
theorem bytes_same (A B : Option Addr) (ca cb : Nat) (l : List By) (hl : l.length ≤ 100000) (w : World) (hA : SrcIs w A l) (hB : SrcIs w B l) :
    Calls Try.prog 21 #[.slice A l.length ca, .slice B l.length cb] w fun e w' => e = .returned (.bool true) ∧ ∃ q, w' = w.drewN q := by
  have HA := Lib.hid hA; have HB := Lib.hid hB
  clear hA hB
  go_enter Try.func21, Try.ntmps21
  go_wp2_with fail
  go_loopw [5] (fun vi wr => ∃ k : Nat, k ≤ l.length ∧ vi = .int .i64 k ∧ Hid (∃ q, wr = w.drewN q)) (fun vi _ => l.length - (intOf vi).toNat)
  case atStart => exact ⟨0, Nat.zero_le _, rfl, 0, rfl⟩
  case round =>
    obtain ⟨k, hk, rfl, HR⟩ := hrel
    rename World => W0
    by_cases hlt : k < l.length
    · obtain ⟨a, oa, rfl, ha⟩ := HA.out (by omega)
      obtain ⟨b, ob, rfl, hb⟩ := HB.out (by omega)
      obtain ⟨q, rfl⟩ := HR.out
      have c1 : w.cell? ⟨a, oa + k, none⟩ = some (vb (l.getD k 0)) := ha.getD k hlt
      have c2 : w.cell? ⟨b, ob + k, none⟩ = some (vb (l.getD k 0)) := hb.getD k hlt
      generalize l.getD k 0 = x at *
      clear ha hb HA HB HR
      go_wp2_with fail
      go_quiet (fail)
      go_wp2_with fail
      go_roundw
      case rel => exact ⟨k + 1, by omega, by go_num, _, rfl⟩
      case measure => simp [intOf]; omega
    · obtain rfl : k = l.length := by omega
      go_wp2
      go_ret
      exact ⟨rfl, HR.out⟩
theorem mem_spots {p t : List By} {i k : Nat} : k ∈ spotsTo p t i ↔ k < i ∧ spotF p t k = true := by
  unfold spotsTo; rw [List.mem_filter, List.mem_range]
theorem spots_lt (p t : List By) (i : Nat) : (spotsTo p t i).Pairwise (· < ·) := by
  unfold spotsTo; exact List.pairwise_lt_range.filter _
theorem spot_fits {p t : List By} {k : Nat} (h : spotF p t k = true) (h0 : 0 < t.length) : k + t.length ≤ p.length ∧ (p.drop k).take t.length = t := by
  unfold spotF preB at h
  have h := of_decide_eq_true h
  have h2 := congrArg List.length h
  rw [List.length_take, List.length_drop] at h2
  exact ⟨by omega, h⟩
theorem spot_at (a t c : List By) : spotF (a ++ t ++ c) t a.length = true := by
  unfold spotF preB
  rw [decide_eq_true_eq, List.append_assoc, List.drop_left', List.take_left'] <;> rfl
theorem two_mem {l : List Nat} {a b : Nat} (ha : a ∈ l) (hb : b ∈ l) (h : a ≠ b) : 2 ≤ l.length := by
  match l, ha, hb with
  | [], ha, _ => simp at ha
  | [x], ha, hb => simp at ha hb; omega
  | _ :: _ :: _, _, _ => simp
theorem spots_twice (a m t : List By) (h0 : 0 < t.length) : 2 ≤ (spotsTo (((a ++ t) ++ m) ++ t) t (((a ++ t) ++ m) ++ t).length).length := by
  have h1 : a.length ∈ spotsTo (((a ++ t) ++ m) ++ t) t (((a ++ t) ++ m) ++ t).length := by
    rw [mem_spots]
    refine ⟨by simp only [List.length_append]; omega, ?_⟩
    have := spot_at a t (m ++ t)
    simpa using this
  have h2 : ((a ++ t) ++ m).length ∈ spotsTo (((a ++ t) ++ m) ++ t) t (((a ++ t) ++ m) ++ t).length := by
    rw [mem_spots]
    refine ⟨by simp only [List.length_append]; omega, ?_⟩
    have := spot_at ((a ++ t) ++ m) t []
    simpa using this
  exact two_mem h1 h2 (by simp only [List.length_append]; omega)
end Go.Proofs.Ythocaimiofehkaa

/- The walk of ScanTwice. -/
namespace Go.Proofs.Ythocaimiofehkaa
open Go.RowKit BaseMath WireMath NameMath

theorem join_n (A B : Option Addr) (ca cb n m : Nat) (a b : List By) (ha : a.length = n) (hb : b.length = m) (hl : n + m ≤ 1000000) (hNA : A = none → ca = 0) (hNB : B = none → cb = 0) (w : World) (hA : SrcIs w A a) (hB : SrcIs w B b) :
    Calls Try.prog 18 #[.slice A n ca, .slice B m cb] w fun e w' => ∃ A' c', e = .returned (.slice A' (a ++ b).length c') ∧ SrcIs w' A' (a ++ b) ∧ (A' = none → c' = 0) ∧ (a ++ b).length ≤ c' ∧ Below w.heap.size w w' := by
  subst ha hb
  refine (join_any A B ca cb a b hl hNA hNB w hA hB).mono fun e w' h => ?_
  obtain ⟨v, rfl, hr⟩ := h
  obtain ⟨A', c', rfl, hs, hn, hl2, -⟩ := hr.src
  exact ⟨A', c', rfl, hs, hn, hl2, hr.below⟩
set_option maxHeartbeats 1000000 in
set_option maxRecDepth 100000 in
theorem twice_walk (A B : Option Addr) (ca cb : Nat) (a m : List By) (n : By) (w : World) (hm1 : a.length ≤ maxLen) (hm2 : m.length ≤ maxLen) (hN1 : A = none → ca = 0) (hN2 : B = none → cb = 0) (hA : SrcIs w A a) (hB : SrcIs w B m) :
    Calls Try.prog 7 #[.slice A a.length ca, .slice B m.length cb, vb n] w fun e w' => e = .returned (.bool true) ∧ Below w.heap.size w w' := by
  unfold maxLen at hm1 hm2
  have HA := Lib.hid hA; have HBm := Lib.hid hB; have HN1 := Lib.hid hN1; have HN2 := Lib.hid hN2; clear hA hB hN1 hN2
  by_cases h1 : a.length ≤ 60
  · have h1' : ¬ (60 : Int) < a.length := by omega
    by_cases h2 : m.length ≤ 60
    · have h2' : ¬ (60 : Int) < m.length := by omega
      go_enter Try.func7, Try.ntmps7
      go_wp2_with fail
      refine (found_once w w (Below.refl _ _)).mono ?_
      rintro e w1 ⟨rfl, hb1⟩
      have HB1 := Lib.hid hb1; clear hb1
      go_wp2_with fail
      refine (path_any n w1).mono ?_
      rintro e w2 ⟨rfl, hb2⟩
      have HB2 : Hid (Below w.heap.size w w2) := HB1.out.trans (hb2.mono HB1.out.size)
      have HPB := Lib.hid (pathN_is (sixth n))
      have HXL := Lib.hid (pathN_length (sixth n))
      generalize pathN (sixth n) = x at *
      clear hb2 HB1
      have hxl : (32 : Int) ≤ x.length := by have := HXL.out; omega
      have HTL := Lib.hid (path_take32 HPB.out)
      go_upto_region 4 with fail
      obtain ⟨c3, w3, hcv, hc3, hs3, hb3⟩ := str_cap (x.take 32) w2
      rw [← ext_take, HTL.out] at hcv
      have HB3 : Hid (Below w.heap.size w w3) := HB2.out.trans (hb3.mono HB2.out.size)
      have HS3 := Lib.hid hs3
      have hsp : ∀ q, spotsB q x = spotsTo q (x.take 32) q.length := fun q => by unfold spotsB; rw [HPB.out]; rfl
      have HSP := Lib.hid hsp
      clear hs3 hb3 HB2 hsp
      generalize x.take 32 = t at *
      generalize w2.heap.size = gs at *
      have HEQ : Hid (∀ q, q = ((a ++ t) ++ m) ++ t → 2 ≤ (spotsTo q t q.length).length) := fun q hq => by rw [hq]; exact spots_twice a m t (by rw [HTL.out]; decide)
      go_wp2_with fail
      refine (join_n A (some ⟨gs, 0, none⟩) ca c3 a.length 32 a t rfl HTL.out (by omega) HN1.out (fun h => by cases h) w3 (HA.out.below HB3.out) HS3.out).mono ?_
      rintro e w4 ⟨A4, c4, rfl, hs4, hn4, -, hb4⟩
      have HB4 : Hid (Below w.heap.size w w4) := HB3.out.trans (hb4.mono HB3.out.size)
      have HS4 := Lib.hid hs4; have HN4 := Lib.hid hn4; have HST4 := Lib.hid (HS3.out.below hb4)
      have hq1 : (a ++ t).length ≤ 92 := by have := HTL.out; rw [List.length_append]; omega
      clear hs4 hn4 hb4 HB3 HS3 hcv
      generalize a ++ t = q1 at *
      go_wp2_with fail
      refine (join_n A4 B c4 cb q1.length m.length q1 m rfl rfl (by omega) HN4.out HN2.out w4 HS4.out (HBm.out.below HB4.out)).mono ?_
      rintro e w5 ⟨A5, c5, rfl, hs5, hn5, -, hb5⟩
      have HB5 : Hid (Below w.heap.size w w5) := HB4.out.trans (hb5.mono HB4.out.size)
      have HS5 := Lib.hid hs5; have HN5 := Lib.hid hn5; have HST5 := Lib.hid (HST4.out.below hb5)
      have hq2 : (q1 ++ m).length ≤ 152 := by rw [List.length_append]; omega
      clear hs5 hn5 hb5 HB4 HS4 HN4 HST4
      generalize q1 ++ m = q2 at *
      go_wp2_with fail
      refine (join_n A5 (some ⟨gs, 0, none⟩) c5 c3 q2.length 32 q2 t rfl HTL.out (by omega) HN5.out (fun h => by cases h) w5 HS5.out HST5.out).mono ?_
      rintro e w6 ⟨A6, c6, rfl, hs6, -, hl6, hb6⟩
      have HB6 : Hid (Below w.heap.size w w6) := HB5.out.trans (hb6.mono HB5.out.size)
      have HS6 := Lib.hid hs6; have HST6 := Lib.hid (HST5.out.below hb6)
      have hq3 : (q2 ++ t).length ≤ 184 := by have := HTL.out; rw [List.length_append]; omega
      have HTW := Lib.hid (HEQ.out (q2 ++ t) rfl)
      clear hs6 hb6 HB5 HS5 HN5 HST5 HEQ
      generalize q2 ++ t = q at *
      go_wp2_with fail
      refine (spots_any A6 c6 q (by omega) hl6 x w6 HS6.out).mono ?_
      rintro e w7 ⟨v7, rfl, hr7⟩
      rw [HSP.out] at hr7
      have HR8 := Lib.hid (fun W hA => rspots_any A6 c6 q (by omega) hl6 x W hA)
      rw [HSP.out] at HR8
      obtain ⟨A7, c7, rfl, hi7⟩ := row_ints hr7
      have HB7 : Hid (Below w.heap.size w w7) := HB6.out.trans (hr7.below.mono HB6.out.size)
      have HI7 := Lib.hid hi7; have HS7 := Lib.hid (HS6.out.below hr7.below); have HST7 := Lib.hid (HST6.out.below hr7.below)
      have HMEM : Hid (∀ i (h : i < (spotsTo q t q.length).length), (spotsTo q t q.length)[i] + 32 ≤ q.length ∧ (q.drop (spotsTo q t q.length)[i]).take 32 = t) := fun i h => by
        have hm := (mem_spots.1 (List.getElem_mem h)).2
        have := spot_fits hm (by rw [HTL.out]; decide)
        rwa [HTL.out] at this
      have HLT := Lib.hid (List.pairwise_iff_getElem.1 (spots_lt q t q.length))
      have hll : (spotsTo q t q.length).length ≤ 184 := Nat.le_trans (spotsTo_len q t q.length) hq3
      generalize spotsTo q t q.length = l at *
      clear hr7 hi7 HB6 HS6 HST6
      have h2l : 2 ≤ l.length := HTW.out
      go_wp2_with fail
      go_loopw [11] (fun vi wr => ∃ i : Nat, i ≤ l.length ∧ vi = .int .i64 i ∧ Hid (∃ q, wr = w7.drewN q)) (fun vi _ => l.length - (intOf vi).toNat)
      case atStart => exact ⟨0, Nat.zero_le _, rfl, 0, rfl⟩
      case round =>
        obtain ⟨i, hi, rfl, HR⟩ := hrel
        rename World => W0
        obtain ⟨qd, rfl⟩ := HR.out
        by_cases hlt : i < l.length
        · obtain ⟨b7, o7, hA7, hc7⟩ := HI7.out (by omega)
          subst hA7
          obtain ⟨b6, o6, hA6, hc6⟩ := HS7.out (by have := (HMEM.out i hlt).1; omega)
          subst hA6
          have hx := HMEM.out i hlt
          have k1 : (w7.drewN qd).cell? ⟨b7, o7 + i, none⟩ = some (vn l[i]) := hc7 i hlt
          have HQ : Hid (∀ k, Calls Try.prog 21 #[.slice (some ⟨b6, o6 + l[i], none⟩) 32 (c6 - l[i]), .slice (some ⟨gs, 0, none⟩) 32 c3] ((w7.drewN qd).drewN k) fun e w' => e = .returned (.bool true) ∧ ∃ m, w' = (w7.drewN qd).drewN m) := fun k => by
            have h := bytes_same (some ⟨b6, o6 + l[i], none⟩) (some ⟨gs, 0, none⟩) (c6 - l[i]) c3 t (by rw [HTL.out]; decide) ((w7.drewN qd).drewN k) (by rw [← hx.2]; exact bytes_src ((hc6.drop _).take 32)) (HST7.out)
            rw [HTL.out] at h
            exact Calls.quiet_of h
          have HN : Hid (∀ k, ∃ q, (w7.drewN qd).drewN k = w7.drewN q) := fun k => ⟨qd + k, World.drewN_drewN _ _ _⟩
          have hxq := hx.1
          have hlast : 0 < i → l[i - 1]'(by omega) < l[i] := fun h0 => HLT.out (i - 1) i (by omega) hlt (by omega)
          have k2 : 0 < i → (w7.drewN qd).cell? ⟨b7, o7 + (i - 1), none⟩ = some (vn (l[i - 1]'(by omega))) := fun h0 => hc7 (i - 1) (by omega)
          generalize w7.drewN qd = W0 at *
          clear hx hc7 hc6 HR
          by_cases h0 : 0 < i
          · have k2 := k2 h0
            have hlast := hlast h0
            generalize l[i - 1]'(by omega) = y at *
            generalize l[i] = x at *
            have h0' : (0 : Int) < i := by omega
            have e1 : ¬ (x : Int) < 0 := by omega
            have e2 : IntKind.i64.wrap ((q.length : Int) - 32) = (q.length : Int) - 32 := IntWalk.i64_in _ (by omega)
            have e3 : ¬ ((q.length : Int) - 32 < x) := by omega
            have e4 : IntKind.i64.wrap ((x : Int) + 32) = (x : Int) + 32 := IntWalk.i64_in _ (by omega)
            have e5 : ((x : Int) + 32).toNat = x + 32 := by omega
            have e6 : IntKind.i64.wrap ((i : Int) - 1) = (i : Int) - 1 := IntWalk.i64_in _ (by omega)
            have e7 : ((i : Int) - 1).toNat = i - 1 := by omega
            have e8 : ¬ (x : Int) ≤ y := by omega
            have e9 : (0 : Int) ≤ (i : Int) - 1 := by omega
            have e10 : (i : Int) - 1 < l.length := by omega
            have e11 : x + 32 - x = 32 := by omega
            have e16 : (1 : Int) ≤ i := by omega
            have e17 : (i : Int) < l.length + 1 := by omega
            have e18 : i - 1 < l.length := by omega
            have e19 : 1 ≤ i := by omega
            have e12 : ¬ c6 = x := by omega
            have e13 : (x : Int) + 32 ≤ c6 := by omega
            have e14 : (0 : Int) ≤ (x : Int) + 32 := by omega
            have e15 : (x : Int) ≤ (x : Int) + 32 := by omega
            go_wp2_with fail
            have b1 : decide ((x : Int) < 0) = false := decide_eq_false (by omega)
            have b3 : decide ((q.length : Int) - 32 < (x : Int)) = false := decide_eq_false (by omega)
            have b4 : decide ((0 : Int) < i) = true := decide_eq_true (by omega)
            have b5 : decide (x ≤ y) = false := decide_eq_false (by omega)
            have b6 : decide ((x : Int) ≤ y) = false := decide_eq_false (by omega)
            go_big_quiet ((go_at_call 21; with_reducible exact HQ.out _))
            go_wp2_with fail
            go_roundw
            case rel => exact ⟨i + 1, by omega, by go_num, HN.out _⟩
            case measure => simp [intOf]; omega
          · clear k2 hlast
            generalize l[i] = x at *
            have g1 : decide (0 < i) = false := decide_eq_false h0
            have g2 : decide ((0 : Int) < i) = false := decide_eq_false (by omega)
            have hi0 : i ≤ 0 := by omega
            have HI0 := Lib.hid hi0
            clear h0 hi0
            have e1 : ¬ (x : Int) < 0 := by omega
            have e2 : IntKind.i64.wrap ((q.length : Int) - 32) = (q.length : Int) - 32 := IntWalk.i64_in _ (by omega)
            have e3 : ¬ ((q.length : Int) - 32 < x) := by omega
            have e4 : IntKind.i64.wrap ((x : Int) + 32) = (x : Int) + 32 := IntWalk.i64_in _ (by omega)
            have e5 : ((x : Int) + 32).toNat = x + 32 := by omega
            have e11 : x + 32 - x = 32 := by omega
            have e12 : ¬ c6 = x := by omega
            have e13 : (x : Int) + 32 ≤ c6 := by omega
            have e14 : (0 : Int) ≤ (x : Int) + 32 := by omega
            have e15 : (x : Int) ≤ (x : Int) + 32 := by omega
            go_wp2_with fail
            have b1 : decide ((x : Int) < 0) = false := decide_eq_false (by omega)
            have b3 : decide ((q.length : Int) - 32 < (x : Int)) = false := decide_eq_false (by omega)
            go_big_quiet ((go_at_call 21; with_reducible exact HQ.out _))
            have hi1 : i ≤ 0 := HI0.out
            clear g1 g2 b1 b3
            go_wp2_with fail
            go_roundw
            case rel => exact ⟨i + 1, by omega, by go_num, HN.out _⟩
            case measure => simp [intOf]; omega
        · obtain rfl : i = l.length := by omega
          have HB8 : Hid (Below w.heap.size w (w7.drewN qd)) := below_drewN HB7.out qd
          have HI8 : Hid (IntsIs (w7.drewN qd) A7 l) := HI7.out
          have HS8 : Hid (SrcIs (w7.drewN qd) A6 q) := HS7.out
          generalize w7.drewN qd = w8 at *
          have h2l' : (2 : Int) ≤ l.length := by omega
          clear HR
          go_wp2_with fail
          refine (HR8.out w8 HS8.out).mono ?_
          rintro e w9 ⟨v9, rfl, hr9⟩
          obtain ⟨A9, c9, rfl, hi9⟩ := row_ints hr9
          have HB9 : Hid (Below w.heap.size w w9) := HB8.out.trans (hr9.below.mono HB8.out.size)
          have HI9 := Lib.hid hi9; have HI89 := Lib.hid (HI8.out.below hr9.below)
          clear hr9 hi9 HB8 HI8 HS8
          go_wp2_with fail
          refine (ints_same A7 A9 c7 c9 l (by omega) w9 HI89.out HI9.out).mono ?_
          rintro e w10 ⟨rfl, q10, rfl⟩
          go_wp2_with fail
          go_ret
          exact ⟨rfl, below_drewN HB9.out q10⟩
    · have h2' : (60 : Int) < m.length := by omega
      go_enter Try.func7, Try.ntmps7
      go_wp2_with fail
      refine (found_once w w (Below.refl _ _)).mono ?_
      rintro e w1 ⟨rfl, hb1⟩
      have HB1 := Lib.hid hb1; clear hb1
      go_wp2_with fail
      refine (found_once w w1 HB1.out).mono ?_
      rintro e w2 ⟨rfl, hb2⟩
      have HB2 := Lib.hid hb2; clear hb2
      go_wp2_with fail
      go_ret
      exact ⟨rfl, HB2.out⟩
  · have h1' : (60 : Int) < a.length := by omega
    go_enter Try.func7, Try.ntmps7
    go_wp2_with fail
    refine (found_once w w (Below.refl _ _)).mono ?_
    rintro e w1 ⟨rfl, hb1⟩
    have HB1 := Lib.hid hb1; clear hb1
    go_wp2_with fail
    refine (found_once w w1 HB1.out).mono ?_
    rintro e w2 ⟨rfl, hb2⟩
    have HB2 := Lib.hid hb2; clear hb2
    go_wp2_with fail
    go_ret
    exact ⟨rfl, HB2.out⟩
end Go.Proofs.Ythocaimiofehkaa

/- Texts sorted and compacted are those that rise; where an instance stands: as mathematics. No program is named. -/
namespace ScanMath
open Go BaseMath NameMath Go.Lib

theorem bl_lt : ∀ a b : List By, Op.bytesLess a b = decide (a < b)
  | [], [] => by simp [Op.bytesLess]
  | [], _ :: _ => by simp [Op.bytesLess]
  | _ :: _, [] => by simp [Op.bytesLess]
  | x :: a, y :: b => by
    have ih := bl_lt a b
    unfold Op.bytesLess
    rw [ih]
    by_cases h1 : x < y
    · simp [h1, List.cons_lt_cons_iff]
    · by_cases h2 : x = y
      · subst h2; simp
      · simp [h1, h2, List.cons_lt_cons_iff]
theorem le_bl (a b : List By) : decide (a ≤ b) = !(Op.bytesLess b a) := by
  rw [bl_lt]
  by_cases h : b < a
  · have : ¬ a ≤ b := List.not_le.2 h
    simp [h, this]
  · have : a ≤ b := List.not_lt.1 h
    simp [h, this]
/-- a ≤ b -/
def leB (a b : List By) : Prop := Op.bytesLess b a = false
theorem le_lt {a b c : List By} (h : leB a b) (h2 : Op.bytesLess b c = true) : Op.bytesLess a c = true := by
  by_cases e : b = a
  · subst e; exact h2
  · have : Op.bytesLess a b = true := bl_total b a (by rw [h, Bool.false_or, beq_eq_false_iff_ne]; exact e)
    exact bl_trans this h2
theorem le_ne {a b : List By} (h : leB a b) (hne : b ≠ a) : Op.bytesLess a b = true :=
  bl_total b a (by rw [h, Bool.false_or, beq_eq_false_iff_ne]; exact hne)
def Sorted (d : Array (List By)) : Prop := ∀ i j, i ≤ j → j < d.size → leB d[i]! d[j]!
theorem compact_upto (d : Array (List By)) (hs : Sorted d) : ∀ m, m ≤ d.size → Rises (compactUpTo d m) ∧ ∀ q, q ∈ compactUpTo d m ↔ ∃ j, j < m ∧ d[j]! = q
  | 0, _ => ⟨by simp [compactUpTo, Rises], fun q => by simp [compactUpTo]⟩
  | m + 1, hm => by
    obtain ⟨h1, h2⟩ := compact_upto d hs m (by omega)
    rw [compactUpTo_succ]
    cases hk : keeps d m with
    | true =>
      refine ⟨?_, fun q => ?_⟩
      · rw [if_pos rfl]
        refine List.pairwise_append.2 ⟨h1, by simp, fun p hp q hq => ?_⟩
        obtain ⟨j, hj, rfl⟩ := (h2 p).1 hp
        obtain rfl : q = d[m]! := by simpa using hq
        have hne : d[m]! ≠ d[m - 1]! := by
          have : m = 0 ∨ d[m]! ≠ d[m - 1]! := by simpa [keeps] using hk
          rcases this with h | h
          · omega
          · exact h
        exact le_lt (hs j (m - 1) (by omega) (by omega)) (le_ne (hs (m - 1) m (by omega) (by omega)) hne)
      · rw [if_pos rfl, List.mem_append, h2, List.mem_singleton]
        constructor
        · rintro (⟨j, hj, rfl⟩ | rfl)
          · exact ⟨j, by omega, rfl⟩
          · exact ⟨m, by omega, rfl⟩
        · rintro ⟨j, hj, rfl⟩
          by_cases e : j = m
          · subst e; exact .inr rfl
          · exact .inl ⟨j, by omega, rfl⟩
    | false =>
      rw [if_neg (by simp), List.append_nil]
      refine ⟨h1, fun q => ?_⟩
      rw [h2]
      have hk' : ¬ (m = 0 ∨ d[m]! ≠ d[m - 1]!) := by simpa [keeps] using hk
      have hm0 : m ≠ 0 := fun e => hk' (.inl e)
      have he : d[m]! = d[m - 1]! := Decidable.byContradiction fun e => hk' (.inr e)
      constructor
      · rintro ⟨j, hj, rfl⟩; exact ⟨j, by omega, rfl⟩
      · rintro ⟨j, hj, rfl⟩
        by_cases e : j = m
        · subst e; exact ⟨j - 1, by omega, he.symm⟩
        · exact ⟨j, by omega, rfl⟩
theorem sorted_merge (l : List (List By)) : Sorted (l.mergeSort fun x y => decide (x ≤ y)).toArray := by
  have hp := List.pairwise_mergeSort (le := fun x y : List By => decide (x ≤ y)) (fun a b c h1 h2 => by simp only [decide_eq_true_eq] at h1 h2 ⊢; exact List.le_trans h1 h2)
    (fun a b => by simp only [Bool.or_eq_true, decide_eq_true_eq]; exact List.le_total a b) l
  intro i j hij hj
  have hj' : j < (l.mergeSort fun x y => decide (x ≤ y)).length := by simpa using hj
  by_cases e : i = j
  · subst e; exact bl_irrefl _
  · have := List.pairwise_iff_getElem.1 hp i j (by omega) hj' (by omega)
    rw [le_bl] at this
    have h3 : ∀ k (hk : k < (l.mergeSort fun x y => decide (x ≤ y)).length), (l.mergeSort fun x y => decide (x ≤ y)).toArray[k]! = (l.mergeSort fun x y => decide (x ≤ y))[k] := fun k hk => by
      rw [getElem!_pos _ k (by simpa using hk)]; simp
    unfold leB
    rw [h3 i (by omega), h3 j hj']
    simpa using this
/-- SORTED AND COMPACTED IS WHAT RISES -/
theorem compact_sort (l : List (List By)) : compact (l.mergeSort fun x y => decide (x ≤ y)) = rise l := by
  have h := compact_upto _ (sorted_merge l) (l.mergeSort fun x y => decide (x ≤ y)).length (by simp)
  refine rises_ext h.1 (rise_rises l) fun q => ?_
  rw [mem_rise]
  refine (h.2 q).trans ?_
  rw [← List.mem_mergeSort (le := fun x y : List By => decide (x ≤ y)) (l := l)]
  constructor
  · rintro ⟨j, hj, rfl⟩
    rw [getElem!_pos _ j (by simpa using hj)]
    simp
  · intro hq
    obtain ⟨j, hj, rfl⟩ := List.getElem_of_mem hq
    exact ⟨j, hj, by rw [getElem!_pos _ j (by simpa using hj)]; simp⟩
end ScanMath

/- The library's contracts for slices.Sort, slices.Compact and bytes.Contains (and what they lean on), laid at this translation by the shelf's own tool (plain mode). -/
namespace Go.Proofs
open Go.Shelf
def Try.lays128_ren : Go.Shelf.Ren := ⟨fun | 128 => 63 | n => n, fun | 51 => 68 | 3 => 3 | 4 => 4 | 46 => 65 | 5 => 5 | 9 => 9 | n => n, fun | n => n⟩
theorem Try.lays128 : Go.Proofs.Lays.n128 Try.prog Try.lays128_ren := {
  mixed := by kernel_rfl
  f128 := Try.func63.trans (congrArg some (by kernel_rfl))
  t3 := Try.underlying3
  a3 := Try.isAgg3
  z3 := Try.sizeOf3
  v3 := Try.zeroValue3
  t4 := Try.underlying4
  a4 := Try.isAgg4
  z4 := Try.sizeOf4
  v4 := Try.zeroValue4
  t5 := Try.underlying5
  a5 := Try.isAgg5
  z5 := Try.sizeOf5
  v5 := Try.zeroValue5
  t9 := Try.underlying9
  a9 := Try.isAgg9
  z9 := Try.sizeOf9
  v9 := Try.zeroValue9
  t46 := Try.underlying65
  a46 := Try.isAgg65
  z46 := Try.sizeOf65
  v46 := Try.zeroValue65
  t51 := Try.underlying68
  a51 := Try.isAgg68
  z51 := Try.sizeOf68
  v51 := Try.zeroValue68 }
theorem Try.bits_Len32 (x : Int) (w : World) (h0 : 0 ≤ x) (h1 : x ≤ 4294967295) :
    Calls Try.prog 63 #[.int .u32 x] w fun e w' => e = .returned (.int .i64 (Lib.bitLen x.toNat)) ∧ w' = w := Any.bits_Len32 Try.lays128 x w h0 h1
def Try.lays125_ren : Go.Shelf.Ren := ⟨fun | 125 => 44 | 128 => 63 | 129 => 64 | n => n, fun | 46 => 65 | 3 => 3 | 51 => 68 | 53 => 67 | 4 => 4 | 5 => 5 | 9 => 9 | n => n, fun | n => n⟩
theorem Try.lays125 : Go.Proofs.Lays.n125 Try.prog Try.lays125_ren := {
  mixed := by kernel_rfl
  f125 := Try.func44.trans (congrArg some (by kernel_rfl))
  f128 := Try.func63.trans (congrArg some (by kernel_rfl))
  f129 := Try.func64.trans (congrArg some (by kernel_rfl))
  t3 := Try.underlying3
  a3 := Try.isAgg3
  z3 := Try.sizeOf3
  v3 := Try.zeroValue3
  t4 := Try.underlying4
  a4 := Try.isAgg4
  z4 := Try.sizeOf4
  v4 := Try.zeroValue4
  t5 := Try.underlying5
  a5 := Try.isAgg5
  z5 := Try.sizeOf5
  v5 := Try.zeroValue5
  t9 := Try.underlying9
  a9 := Try.isAgg9
  z9 := Try.sizeOf9
  v9 := Try.zeroValue9
  t46 := Try.underlying65
  a46 := Try.isAgg65
  z46 := Try.sizeOf65
  v46 := Try.zeroValue65
  t51 := Try.underlying68
  a51 := Try.isAgg68
  z51 := Try.sizeOf68
  v51 := Try.zeroValue68
  t53 := Try.underlying67
  a53 := Try.isAgg67
  z53 := Try.sizeOf67
  v53 := Try.zeroValue67 }
theorem Try.bits_Len (x : Int) (w : World) (h0 : 0 ≤ x) (h1 : x ≤ 18446744073709551615) :
    Calls Try.prog 44 #[.int .u64 x] w fun e w' => e = .returned (.int .i64 (Lib.bitLen x.toNat)) ∧ w' = w := Any.bits_Len Try.lays125 x w h0 h1
def Try.lays137_ren : Go.Shelf.Ren := ⟨fun | 137 => 51 | 217 => 67 | 266 => 79 | n => n, fun | 9 => 9 | 5 => 5 | 3 => 3 | n => n, fun | n => n⟩
theorem Try.lays137 : Go.Proofs.Lays.n137 Try.prog Try.lays137_ren := {
  mixed := by kernel_rfl
  f137 := Try.func51.trans (congrArg some (by kernel_rfl))
  f217 := Try.func67.trans (congrArg some (by kernel_rfl))
  f266 := Try.func79.trans (congrArg some (by kernel_rfl))
  t3 := Try.underlying3
  a3 := Try.isAgg3
  z3 := Try.sizeOf3
  v3 := Try.zeroValue3
  t5 := Try.underlying5
  a5 := Try.isAgg5
  z5 := Try.sizeOf5
  v5 := Try.zeroValue5
  t9 := Try.underlying9
  a9 := Try.isAgg9
  z9 := Try.sizeOf9
  v9 := Try.zeroValue9 }
open Go.RowKit in
theorem Try.strings_IndexByte (s : ByteArray) (c : Int) (w : World) :
    Calls Try.prog 51 #[.string s, .int .u8 c] w fun e w' => e = .returned (.int .i64 (Lib.indexByte s.data.toList c.toNat.toUInt8)) ∧ w' = w := Any.strings_IndexByte Try.lays137 s c w
def Try.lays129_ren : Go.Shelf.Ren := ⟨fun | 129 => 64 | n => n, fun | 53 => 67 | 3 => 3 | 4 => 4 | 46 => 65 | 5 => 5 | 9 => 9 | n => n, fun | n => n⟩
theorem Try.lays129 : Go.Proofs.Lays.n129 Try.prog Try.lays129_ren := {
  mixed := by kernel_rfl
  f129 := Try.func64.trans (congrArg some (by kernel_rfl))
  t3 := Try.underlying3
  a3 := Try.isAgg3
  z3 := Try.sizeOf3
  v3 := Try.zeroValue3
  t4 := Try.underlying4
  a4 := Try.isAgg4
  z4 := Try.sizeOf4
  v4 := Try.zeroValue4
  t5 := Try.underlying5
  a5 := Try.isAgg5
  z5 := Try.sizeOf5
  v5 := Try.zeroValue5
  t9 := Try.underlying9
  a9 := Try.isAgg9
  z9 := Try.sizeOf9
  v9 := Try.zeroValue9
  t46 := Try.underlying65
  a46 := Try.isAgg65
  z46 := Try.sizeOf65
  v46 := Try.zeroValue65
  t53 := Try.underlying67
  a53 := Try.isAgg67
  z53 := Try.sizeOf67
  v53 := Try.zeroValue67 }
theorem Try.bits_Len64 (x : Int) (w : World) (h0 : 0 ≤ x) (h1 : x ≤ 18446744073709551615) :
    Calls Try.prog 64 #[.int .u64 x] w fun e w' => e = .returned (.int .i64 (Lib.bitLen x.toNat)) ∧ w' = w := Any.bits_Len64 Try.lays129 x w h0 h1
def Try.lays217_ren : Go.Shelf.Ren := ⟨fun | 217 => 67 | 266 => 79 | n => n, fun | 9 => 9 | 5 => 5 | 3 => 3 | n => n, fun | n => n⟩
theorem Try.lays217 : Go.Proofs.Lays.n217 Try.prog Try.lays217_ren := {
  mixed := by kernel_rfl
  f217 := Try.func67.trans (congrArg some (by kernel_rfl))
  f266 := Try.func79.trans (congrArg some (by kernel_rfl))
  t3 := Try.underlying3
  a3 := Try.isAgg3
  z3 := Try.sizeOf3
  v3 := Try.zeroValue3
  t5 := Try.underlying5
  a5 := Try.isAgg5
  z5 := Try.sizeOf5
  v5 := Try.zeroValue5
  t9 := Try.underlying9
  a9 := Try.isAgg9
  z9 := Try.sizeOf9
  v9 := Try.zeroValue9 }
open Go.RowKit Go.Lib in
theorem Try.stringslite_IndexByte (s : ByteArray) (c : Int) (w : World) :
    Calls Try.prog 67 #[.string s, .int .u8 c] w fun e w' => e = .returned (.int .i64 (Lib.indexByte s.data.toList c.toNat.toUInt8)) ∧ w' = w := Any.stringslite_IndexByte Try.lays217 s c w
def Try.lays224_ren : Go.Shelf.Ren := ⟨fun | 224 => 70 | n => n, fun | 3 => 3 | n => n, fun | n => n⟩
theorem Try.lays224 : Go.Proofs.Lays.n224 Try.prog Try.lays224_ren := {
  mixed := by kernel_rfl
  f224 := Try.func70.trans (congrArg some (by kernel_rfl))
  t3 := Try.underlying3
  a3 := Try.isAgg3
  z3 := Try.sizeOf3
  v3 := Try.zeroValue3 }
open Go.RowKit Go.Lib in
theorem Try.bytealg_Cutover (n : Int) (h0 : 0 ≤ n) (h1 : n < 4611686018427387904) (w : World) :
    Calls Try.prog 70 #[.int .i64 n] w fun e w' => e = .returned (.int .i64 ((n + 16) / 8)) ∧ w' = w := Any.bytealg_Cutover Try.lays224 n h0 h1 w
def Try.lays190_ren : Go.Shelf.Ren := ⟨fun | 190 => 28 | 125 => 44 | 258 => 43 | 128 => 63 | 129 => 64 | 302 => 54 | 303 => 55 | 304 => 56 | 305 => 57 | 306 => 58 | 307 => 59 | 308 => 60 | 309 => 61 | 310 => 62 | 333 => 72 | 329 => 73 | 330 => 74 | 334 => 75 | 335 => 76 | 336 => 77 | 344 => 82 | n => n, fun | 31 => 23 | 9 => 9 | 3 => 3 | 46 => 65 | 0 => 0 | 51 => 68 | 53 => 67 | 4 => 4 | 183 => 80 | 182 => 79 | 131 => 85 | 5 => 5 | 218 => 91 | 222 => 95 | 228 => 101 | 229 => 102 | n => n, fun | n => n⟩
theorem Try.lays190 : Go.Proofs.Lays.n190 Try.prog Try.lays190_ren := {
  mixed := by kernel_rfl
  f125 := Try.func44.trans (congrArg some (by kernel_rfl))
  f128 := Try.func63.trans (congrArg some (by kernel_rfl))
  f129 := Try.func64.trans (congrArg some (by kernel_rfl))
  f190 := Try.func28.trans (congrArg some (by kernel_rfl))
  f258 := Try.func43.trans (congrArg some (by kernel_rfl))
  f302 := Try.func54.trans (congrArg some (by kernel_rfl))
  f303 := Try.func55.trans (congrArg some (by kernel_rfl))
  f304 := Try.func56.trans (congrArg some (by kernel_rfl))
  f305 := Try.func57.trans (congrArg some (by kernel_rfl))
  f306 := Try.func58.trans (congrArg some (by kernel_rfl))
  f307 := Try.func59.trans (congrArg some (by kernel_rfl))
  f308 := Try.func60.trans (congrArg some (by kernel_rfl))
  f309 := Try.func61.trans (congrArg some (by kernel_rfl))
  f310 := Try.func62.trans (congrArg some (by kernel_rfl))
  f329 := Try.func73.trans (congrArg some (by kernel_rfl))
  f330 := Try.func74.trans (congrArg some (by kernel_rfl))
  f333 := Try.func72.trans (congrArg some (by kernel_rfl))
  f334 := Try.func75.trans (congrArg some (by kernel_rfl))
  f335 := Try.func76.trans (congrArg some (by kernel_rfl))
  f336 := Try.func77.trans (congrArg some (by kernel_rfl))
  f344 := Try.func82.trans (congrArg some (by kernel_rfl))
  t0 := Try.underlying0
  a0 := Try.isAgg0
  z0 := Try.sizeOf0
  v0 := Try.zeroValue0
  t3 := Try.underlying3
  a3 := Try.isAgg3
  z3 := Try.sizeOf3
  v3 := Try.zeroValue3
  t4 := Try.underlying4
  a4 := Try.isAgg4
  z4 := Try.sizeOf4
  v4 := Try.zeroValue4
  t5 := Try.underlying5
  a5 := Try.isAgg5
  z5 := Try.sizeOf5
  v5 := Try.zeroValue5
  t9 := Try.underlying9
  a9 := Try.isAgg9
  z9 := Try.sizeOf9
  v9 := Try.zeroValue9
  t31 := Try.underlying23
  a31 := Try.isAgg23
  z31 := Try.sizeOf23
  v31 := Try.zeroValue23
  t46 := Try.underlying65
  a46 := Try.isAgg65
  z46 := Try.sizeOf65
  v46 := Try.zeroValue65
  t51 := Try.underlying68
  a51 := Try.isAgg68
  z51 := Try.sizeOf68
  v51 := Try.zeroValue68
  t53 := Try.underlying67
  a53 := Try.isAgg67
  z53 := Try.sizeOf67
  v53 := Try.zeroValue67
  t131 := Try.underlying85
  a131 := Try.isAgg85
  z131 := Try.sizeOf85
  v131 := Try.zeroValue85
  t182 := Try.underlying79
  a182 := Try.isAgg79
  z182 := Try.sizeOf79
  v182 := Try.zeroValue79
  t183 := Try.underlying80
  a183 := Try.isAgg80
  z183 := Try.sizeOf80
  v183 := Try.zeroValue80
  t218 := Try.underlying91
  a218 := Try.isAgg91
  z218 := Try.sizeOf91
  v218 := Try.zeroValue91
  t222 := Try.underlying95
  a222 := Try.isAgg95
  z222 := Try.sizeOf95
  v222 := Try.zeroValue95
  t228 := Try.underlying101
  a228 := Try.isAgg101
  z228 := Try.sizeOf101
  v228 := Try.zeroValue101
  t229 := Try.underlying102
  a229 := Try.isAgg102
  z229 := Try.sizeOf102
  v229 := Try.zeroValue102 }
open Go.Sort Go.RowKit in
theorem Try.slices_Sort_string (blk off cap : Nat) (ss : List (List UInt8)) (w : World) (hH : Holds encStr w blk off ss.toArray) (hblk : blk < w.heap.size) (hsz : ss.length < 4611686018427387904) :
    Calls Try.prog 28 #[.slice (some ⟨blk, off, none⟩) ss.length cap] w fun e w' =>
      e = .returned (.tuple #[]) ∧ ∃ n os, w' = grow (putRow encStr (Sort.ahead w n) blk off (ss.mergeSort fun x y => decide (x ≤ y)).toArray) os := Any.slices_Sort_string Try.lays190 blk off cap ss w hH hblk hsz
def Try.lays194_ren : Go.Shelf.Ren := ⟨fun | 194 => 29 | n => n, fun | 31 => 23 | 9 => 9 | 3 => 3 | 4 => 4 | 0 => 0 | n => n, fun | n => n⟩
theorem Try.lays194 : Go.Proofs.Lays.n194 Try.prog Try.lays194_ren := {
  mixed := by kernel_rfl
  f194 := Try.func29.trans (congrArg some (by kernel_rfl))
  t0 := Try.underlying0
  a0 := Try.isAgg0
  z0 := Try.sizeOf0
  v0 := Try.zeroValue0
  t3 := Try.underlying3
  a3 := Try.isAgg3
  z3 := Try.sizeOf3
  v3 := Try.zeroValue3
  t4 := Try.underlying4
  a4 := Try.isAgg4
  z4 := Try.sizeOf4
  v4 := Try.zeroValue4
  t9 := Try.underlying9
  a9 := Try.isAgg9
  z9 := Try.sizeOf9
  v9 := Try.zeroValue9
  t31 := Try.underlying23
  a31 := Try.isAgg23
  z31 := Try.sizeOf23
  v31 := Try.zeroValue23 }
open Go.RowKit Go.Lib Go.Sort in
theorem Try.slices_Compact_string_arr (blk off cap : Nat) (d : Array (List UInt8)) (w : World) (hH : Holds encStr w blk off d) (hsz : d.size ≤ 9223372036854775807) (hcap : d.size ≤ cap) :
    Calls Try.prog 29 #[.slice (some ⟨blk, off, none⟩) d.size cap] w fun e w' => e = .returned (.slice (some ⟨blk, off, none⟩) (compactUpTo d d.size).length cap) ∧ ∃ q, w' = putRow encStr (Sort.ahead w q) blk off (compactUpTo d d.size ++ List.replicate (d.size - (compactUpTo d d.size).length) []).toArray := Any.slices_Compact_string_arr Try.lays194 blk off cap d w hH hsz hcap
open Go.RowKit Go.Lib Go.Sort in
theorem Try.slices_Compact_string (blk off cap : Nat) (zs : List (List UInt8)) (w : World) (hH : Holds encStr w blk off zs.toArray) (hsz : zs.length ≤ 9223372036854775807) (hcap : zs.length ≤ cap) :
    Calls Try.prog 29 #[.slice (some ⟨blk, off, none⟩) zs.length cap] w fun e w' => e = .returned (.slice (some ⟨blk, off, none⟩) (Lib.compact zs).length cap) ∧ ∃ q, w' = putRow encStr (Sort.ahead w q) blk off (Lib.compact zs ++ List.replicate (zs.length - (Lib.compact zs).length) []).toArray := Any.slices_Compact_string Try.lays194 blk off cap zs w hH hsz hcap
open Go.RowKit Go.Lib Go.Sort in
theorem Try.slices_Compact_string_empty (a : Option Addr) (cap : Nat) (w : World) :
    Calls Try.prog 29 #[.slice a 0 cap] w fun e w' => e = .returned (.slice a 0 cap) ∧ w' = w := Any.slices_Compact_string_empty Try.lays194 a cap w
open Go.RowKit Go.Lib Go.Sort in
theorem Try.slices_Compact_string_cells (b off n c : Nat) (Sx : Nat → ByteArray) (w : World) (hbig : n ≤ 9223372036854775807) (hcap : n ≤ c) (hc : ∀ i, i < n → w.cell? ⟨b, off + i, none⟩ = some (.string (Sx i))) (hf : ∀ j, j < n → w.frozen? ⟨b, off + j, none⟩ = false) :
    Calls Try.prog 29 #[.slice (some ⟨b, off, none⟩) n c] w fun e w' => e = .returned (.slice (some ⟨b, off, none⟩) (Lib.compact (Lib.strsOf Sx n)).length c) ∧ ∃ q, w' = (w.drewN q).setCells b off ((Lib.compact (Lib.strsOf Sx n) ++ List.replicate (n - (Lib.compact (Lib.strsOf Sx n)).length) []).map encStr) := Any.slices_Compact_string_cells Try.lays194 b off n c Sx w hbig hcap hc hf
open Go.RowKit Go.Sort in
theorem Try.slices_Sort_string_none (p : Option Addr) (cap : Nat) (w : World) :
    Calls Try.prog 28 #[.slice p 0 cap] w fun e w' => e = .returned (.tuple #[]) ∧ w' = w := Any.slices_Sort_string_none Try.lays190 p cap w
def Try.lays185_ren : Go.Shelf.Ren := ⟨fun | 185 => 53 | 187 => 68 | 115 => 40 | 253 => 69 | 224 => 70 | 254 => 71 | 255 => 80 | 291 => 81 | n => n, fun | 37 => 26 | 3 => 3 | 4 => 4 | 0 => 0 | 5 => 5 | 46 => 65 | 9 => 9 | 146 => 99 | 51 => 68 | n => n, fun | 1 => 0 | n => n⟩
theorem Try.lays185 : Go.Proofs.Lays.n185 Try.prog Try.lays185_ren := {
  mixed := by kernel_rfl
  f115 := Try.func40.trans (congrArg some (by kernel_rfl))
  f185 := Try.func53.trans (congrArg some (by kernel_rfl))
  f187 := Try.func68.trans (congrArg some (by kernel_rfl))
  f224 := Try.func70.trans (congrArg some (by kernel_rfl))
  f253 := Try.func69.trans (congrArg some (by kernel_rfl))
  f254 := Try.func71.trans (congrArg some (by kernel_rfl))
  f255 := Try.func80.trans (congrArg some (by kernel_rfl))
  f291 := Try.func81.trans (congrArg some (by kernel_rfl))
  t0 := Try.underlying0
  a0 := Try.isAgg0
  z0 := Try.sizeOf0
  v0 := Try.zeroValue0
  t3 := Try.underlying3
  a3 := Try.isAgg3
  z3 := Try.sizeOf3
  v3 := Try.zeroValue3
  t4 := Try.underlying4
  a4 := Try.isAgg4
  z4 := Try.sizeOf4
  v4 := Try.zeroValue4
  t5 := Try.underlying5
  a5 := Try.isAgg5
  z5 := Try.sizeOf5
  v5 := Try.zeroValue5
  t9 := Try.underlying9
  a9 := Try.isAgg9
  z9 := Try.sizeOf9
  v9 := Try.zeroValue9
  t37 := Try.underlying26
  a37 := Try.isAgg26
  z37 := Try.sizeOf26
  v37 := Try.zeroValue26
  t46 := Try.underlying65
  a46 := Try.isAgg65
  z46 := Try.sizeOf65
  v46 := Try.zeroValue65
  t51 := Try.underlying68
  a51 := Try.isAgg68
  z51 := Try.sizeOf68
  v51 := Try.zeroValue68
  t146 := Try.underlying99
  a146 := Try.isAgg99
  z146 := Try.sizeOf99
  v146 := Try.zeroValue99
  g1 := by kernel_rfl }
open Go.RowKit Go.Lib in
theorem Try.bytes_Index_one (b o n c b2 o2 d : Nat) (xs : List Int) (cv : Int) (w : World) (hx : xs.length = n) (hc : ∀ i, i < n → w.cell? ⟨b, o + i, none⟩ = some (.int .u8 (xs.getD i 0))) (hc2 : w.cell? ⟨b2, o2, none⟩ = some (.int .u8 cv)) :
    Calls Try.prog 53 #[.slice (some ⟨b, o, none⟩) n c, .slice (some ⟨b2, o2, none⟩) 1 d] w fun e w' => e = .returned (.int .i64 (Lib.indexByte (Lib.bytesOf xs) cv.toNat.toUInt8)) ∧ w' = w := Any.bytes_Index_one Try.lays185 b o n c b2 o2 d xs cv w hx hc hc2
open Go.RowKit Go.Lib in
theorem Try.bytes_Index_one_nil (b2 o2 d : Nat) (cv : Int) (w : World) (hc2 : w.cell? ⟨b2, o2, none⟩ = some (.int .u8 cv)) :
    Calls Try.prog 53 #[.slice none 0 0, .slice (some ⟨b2, o2, none⟩) 1 d] w fun e w' => e = .returned (.int .i64 (-1)) ∧ w' = w := Any.bytes_Index_one_nil Try.lays185 b2 o2 d cv w hc2
open Go.RowKit Go.Lib in
theorem Try.bytes_Index_none (p q : Option Addr) (n c d : Nat) (w : World) :
    Calls Try.prog 53 #[.slice p n c, .slice q 0 d] w fun e w' => e = .returned (.int .i64 0) ∧ w' = w := Any.bytes_Index_none Try.lays185 p q n c d w
open Go.RowKit Go.Lib in
theorem Try.bytes_Index_longer (p q : Option Addr) (n c m d : Nat) (w : World) (h2 : 2 ≤ m) (hnm : n < m) (hm : m ≤ 9223372036854775807) :
    Calls Try.prog 53 #[.slice p n c, .slice q m d] w fun e w' => e = .returned (.int .i64 (-1)) ∧ w' = w := Any.bytes_Index_longer Try.lays185 p q n c m d w h2 hnm hm
open Go.RowKit Go.Lib in
theorem Try.bytes_Index_same (b o c b2 o2 d n : Nat) (xs ys : List Int) (w : World) (h2 : 2 ≤ n) (hm : n ≤ 9223372036854775807) (hx : xs.length = n) (hy : ys.length = n) (hc : ∀ i, i < n → w.cell? ⟨b, o + i, none⟩ = some (.int .u8 (xs.getD i 0))) (hc2 : ∀ i, i < n → w.cell? ⟨b2, o2 + i, none⟩ = some (.int .u8 (ys.getD i 0))) :
    Calls Try.prog 53 #[.slice (some ⟨b, o, none⟩) n c, .slice (some ⟨b2, o2, none⟩) n d] w fun e w' => e = .returned (.int .i64 (if Lib.bytesOf ys == Lib.bytesOf xs then 0 else -1)) ∧ w' = w := Any.bytes_Index_same Try.lays185 b o c b2 o2 d n xs ys w h2 hm hx hy hc hc2
def Try.lays186_ren : Go.Shelf.Ren := ⟨fun | 186 => 42 | 185 => 53 | 187 => 68 | 115 => 40 | 253 => 69 | 224 => 70 | 254 => 71 | 255 => 80 | 291 => 81 | n => n, fun | 37 => 26 | 4 => 4 | 3 => 3 | 0 => 0 | 5 => 5 | 46 => 65 | 9 => 9 | 146 => 99 | 51 => 68 | n => n, fun | 1 => 0 | n => n⟩
theorem Try.lays186 : Go.Proofs.Lays.n186 Try.prog Try.lays186_ren := {
  mixed := by kernel_rfl
  f115 := Try.func40.trans (congrArg some (by kernel_rfl))
  f185 := Try.func53.trans (congrArg some (by kernel_rfl))
  f186 := Try.func42.trans (congrArg some (by kernel_rfl))
  f187 := Try.func68.trans (congrArg some (by kernel_rfl))
  f224 := Try.func70.trans (congrArg some (by kernel_rfl))
  f253 := Try.func69.trans (congrArg some (by kernel_rfl))
  f254 := Try.func71.trans (congrArg some (by kernel_rfl))
  f255 := Try.func80.trans (congrArg some (by kernel_rfl))
  f291 := Try.func81.trans (congrArg some (by kernel_rfl))
  t0 := Try.underlying0
  a0 := Try.isAgg0
  z0 := Try.sizeOf0
  v0 := Try.zeroValue0
  t3 := Try.underlying3
  a3 := Try.isAgg3
  z3 := Try.sizeOf3
  v3 := Try.zeroValue3
  t4 := Try.underlying4
  a4 := Try.isAgg4
  z4 := Try.sizeOf4
  v4 := Try.zeroValue4
  t5 := Try.underlying5
  a5 := Try.isAgg5
  z5 := Try.sizeOf5
  v5 := Try.zeroValue5
  t9 := Try.underlying9
  a9 := Try.isAgg9
  z9 := Try.sizeOf9
  v9 := Try.zeroValue9
  t37 := Try.underlying26
  a37 := Try.isAgg26
  z37 := Try.sizeOf26
  v37 := Try.zeroValue26
  t46 := Try.underlying65
  a46 := Try.isAgg65
  z46 := Try.sizeOf65
  v46 := Try.zeroValue65
  t51 := Try.underlying68
  a51 := Try.isAgg68
  z51 := Try.sizeOf68
  v51 := Try.zeroValue68
  t146 := Try.underlying99
  a146 := Try.isAgg99
  z146 := Try.sizeOf99
  v146 := Try.zeroValue99
  g1 := by kernel_rfl }
open Go.RowKit Go.Lib in
theorem Try.bytes_Contains_one (b o n c b2 o2 d : Nat) (xs : List Int) (cv : Int) (w : World) (hx : xs.length = n) (hc : ∀ i, i < n → w.cell? ⟨b, o + i, none⟩ = some (.int .u8 (xs.getD i 0))) (hc2 : w.cell? ⟨b2, o2, none⟩ = some (.int .u8 cv)) :
    Calls Try.prog 42 #[.slice (some ⟨b, o, none⟩) n c, .slice (some ⟨b2, o2, none⟩) 1 d] w fun e w' => e = .returned (.bool (!(Lib.indexByte (Lib.bytesOf xs) cv.toNat.toUInt8 == -1))) ∧ w' = w := Any.bytes_Contains_one Try.lays186 b o n c b2 o2 d xs cv w hx hc hc2
open Go.RowKit Go.Lib in
theorem Try.bytes_Contains_one_nil (b2 o2 d : Nat) (cv : Int) (w : World) (hc2 : w.cell? ⟨b2, o2, none⟩ = some (.int .u8 cv)) :
    Calls Try.prog 42 #[.slice none 0 0, .slice (some ⟨b2, o2, none⟩) 1 d] w fun e w' => e = .returned (.bool false) ∧ w' = w := Any.bytes_Contains_one_nil Try.lays186 b2 o2 d cv w hc2
open Go.RowKit Go.Lib in
theorem Try.bytes_Contains_none (p q : Option Addr) (n c d : Nat) (w : World) :
    Calls Try.prog 42 #[.slice p n c, .slice q 0 d] w fun e w' => e = .returned (.bool true) ∧ w' = w := Any.bytes_Contains_none Try.lays186 p q n c d w
open Go.RowKit Go.Lib in
theorem Try.bytes_Contains_longer (p q : Option Addr) (n c m d : Nat) (w : World) (h2 : 2 ≤ m) (hnm : n < m) (hm : m ≤ 9223372036854775807) :
    Calls Try.prog 42 #[.slice p n c, .slice q m d] w fun e w' => e = .returned (.bool false) ∧ w' = w := Any.bytes_Contains_longer Try.lays186 p q n c m d w h2 hnm hm
open Go.RowKit Go.Lib in
theorem Try.bytes_Contains_same (b o c b2 o2 d n : Nat) (xs ys : List Int) (w : World) (h2 : 2 ≤ n) (hm : n ≤ 9223372036854775807) (hx : xs.length = n) (hy : ys.length = n) (hc : ∀ i, i < n → w.cell? ⟨b, o + i, none⟩ = some (.int .u8 (xs.getD i 0))) (hc2 : ∀ i, i < n → w.cell? ⟨b2, o2 + i, none⟩ = some (.int .u8 (ys.getD i 0))) :
    Calls Try.prog 42 #[.slice (some ⟨b, o, none⟩) n c, .slice (some ⟨b2, o2, none⟩) n d] w fun e w' => e = .returned (.bool (Lib.bytesOf ys == Lib.bytesOf xs)) ∧ w' = w := Any.bytes_Contains_same Try.lays186 b o c b2 o2 d n xs ys w h2 hm hx hy hc hc2
def Try.lays187_ren : Go.Shelf.Ren := ⟨fun | 187 => 68 | 255 => 80 | n => n, fun | 37 => 26 | 5 => 5 | 3 => 3 | n => n, fun | n => n⟩
theorem Try.lays187 : Go.Proofs.Lays.n187 Try.prog Try.lays187_ren := {
  mixed := by kernel_rfl
  f187 := Try.func68.trans (congrArg some (by kernel_rfl))
  f255 := Try.func80.trans (congrArg some (by kernel_rfl))
  t3 := Try.underlying3
  a3 := Try.isAgg3
  z3 := Try.sizeOf3
  v3 := Try.zeroValue3
  t5 := Try.underlying5
  a5 := Try.isAgg5
  z5 := Try.sizeOf5
  v5 := Try.zeroValue5
  t37 := Try.underlying26
  a37 := Try.isAgg26
  z37 := Try.sizeOf26
  v37 := Try.zeroValue26 }
open Go.RowKit Go.Lib in
theorem Try.bytes_IndexByte_at (a : Addr) (n c : Nat) (xs : List Int) (cv : Int) (w : World) (hx : xs.length = n) (hc : ∀ i, i < n → w.cell? (a.add i) = some (.int .u8 (xs.getD i 0))) :
    Calls Try.prog 68 #[.slice (some a) n c, .int .u8 cv] w fun e w' => e = .returned (.int .i64 (Lib.indexByte (Lib.bytesOf xs) cv.toNat.toUInt8)) ∧ w' = w := Any.bytes_IndexByte_at Try.lays187 a n c xs cv w hx hc
open Go.RowKit Go.Lib in
theorem Try.bytes_Index_one_at (a : Addr) (n c b2 o2 d : Nat) (xs : List Int) (cv : Int) (w : World) (hx : xs.length = n) (hc : ∀ i, i < n → w.cell? (a.add i) = some (.int .u8 (xs.getD i 0))) (hc2 : w.cell? ⟨b2, o2, none⟩ = some (.int .u8 cv)) :
    Calls Try.prog 53 #[.slice (some a) n c, .slice (some ⟨b2, o2, none⟩) 1 d] w fun e w' => e = .returned (.int .i64 (Lib.indexByte (Lib.bytesOf xs) cv.toNat.toUInt8)) ∧ w' = w := Any.bytes_Index_one_at Try.lays185 a n c b2 o2 d xs cv w hx hc hc2
open Go.RowKit Go.Lib in
theorem Try.bytes_Contains_one_at (a : Addr) (n c b2 o2 d : Nat) (xs : List Int) (cv : Int) (w : World) (hx : xs.length = n) (hc : ∀ i, i < n → w.cell? (a.add i) = some (.int .u8 (xs.getD i 0))) (hc2 : w.cell? ⟨b2, o2, none⟩ = some (.int .u8 cv)) :
    Calls Try.prog 42 #[.slice (some a) n c, .slice (some ⟨b2, o2, none⟩) 1 d] w fun e w' => e = .returned (.bool (!(Lib.indexByte (Lib.bytesOf xs) cv.toNat.toUInt8 == -1))) ∧ w' = w := Any.bytes_Contains_one_at Try.lays186 a n c b2 o2 d xs cv w hx hc hc2
open Go.Proofs Go.RowKit Go.Lib in
theorem Try.bytes_IndexByte_bytes (b o cap : Nat) (t : ByteArray) (cv : Int) (w : World) (hc : Lib.Bytes w b o t) :
    Calls Try.prog 68 #[.slice (some ⟨b, o, none⟩) t.size cap, .int .u8 cv] w fun e w' => e = .returned (.int .i64 (Lib.indexByte t.data.toList cv.toNat.toUInt8)) ∧ w' = w := Any.bytes_IndexByte_bytes Try.lays187 b o cap t cv w hc
def Try.lays115_ren : Go.Shelf.Ren := ⟨fun | 115 => 40 | n => n, fun | 37 => 26 | 4 => 4 | 9 => 9 | 5 => 5 | n => n, fun | n => n⟩
theorem Try.lays115 : Go.Proofs.Lays.n115 Try.prog Try.lays115_ren := {
  mixed := by kernel_rfl
  f115 := Try.func40.trans (congrArg some (by kernel_rfl))
  t4 := Try.underlying4
  a4 := Try.isAgg4
  z4 := Try.sizeOf4
  v4 := Try.zeroValue4
  t9 := Try.underlying9
  a9 := Try.isAgg9
  z9 := Try.sizeOf9
  v9 := Try.zeroValue9
  t37 := Try.underlying26
  a37 := Try.isAgg26
  z37 := Try.sizeOf26
  v37 := Try.zeroValue26 }
open Go.Proofs Go.RowKit Go.Lib in
theorem Try.bytes_Equal_strs (v1 v2 : Value) (t1 t2 : ByteArray) (w : World) (h1 : (convert 26 9 v1).run Try.prog w = .ok (.string t1) w) (h2 : (convert 26 9 v2).run Try.prog w = .ok (.string t2) w) :
    Calls Try.prog 40 #[v1, v2] w fun e w' => e = .returned (.bool (t1.toList == t2.toList)) ∧ w' = w := Any.bytes_Equal_strs Try.lays115 v1 v2 t1 t2 w h1 h2
def Try.lays291_ren : Go.Shelf.Ren := ⟨fun | 291 => 81 | n => n, fun | 37 => 26 | 51 => 68 | 3 => 3 | 4 => 4 | 0 => 0 | 5 => 5 | 46 => 65 | n => n, fun | n => n⟩
theorem Try.lays291 : Go.Proofs.Lays.n291 Try.prog Try.lays291_ren := {
  mixed := by kernel_rfl
  f291 := Try.func81.trans (congrArg some (by kernel_rfl))
  t0 := Try.underlying0
  a0 := Try.isAgg0
  z0 := Try.sizeOf0
  v0 := Try.zeroValue0
  t3 := Try.underlying3
  a3 := Try.isAgg3
  z3 := Try.sizeOf3
  v3 := Try.zeroValue3
  t4 := Try.underlying4
  a4 := Try.isAgg4
  z4 := Try.sizeOf4
  v4 := Try.zeroValue4
  t5 := Try.underlying5
  a5 := Try.isAgg5
  z5 := Try.sizeOf5
  v5 := Try.zeroValue5
  t37 := Try.underlying26
  a37 := Try.isAgg26
  z37 := Try.sizeOf26
  v37 := Try.zeroValue26
  t46 := Try.underlying65
  a46 := Try.isAgg65
  z46 := Try.sizeOf65
  v46 := Try.zeroValue65
  t51 := Try.underlying68
  a51 := Try.isAgg68
  z51 := Try.sizeOf68
  v51 := Try.zeroValue68 }
open Go.RowKit Go.Lib in
theorem Try.bytealg_hashStr_bytes (b o c : Nat) (sep : ByteArray) (hs : sep.size < 4294967281) (w : World) (hc : Lib.Bytes w b o sep) :
    Calls Try.prog 81 #[.slice (some ⟨b, o, none⟩) sep.size c] w fun e w' => e = .returned (.tuple #[.int .u32 (RK.H sep.data.toList % 4294967296), .int .u32 (16777619 ^ sep.size % 4294967296)]) ∧ w' = w := Any.bytealg_hashStr_bytes Try.lays291 b o c sep hs w hc
def Try.lays254_ren : Go.Shelf.Ren := ⟨fun | 254 => 71 | 291 => 81 | n => n, fun | 37 => 26 | 3 => 3 | 146 => 99 | 51 => 68 | 4 => 4 | 0 => 0 | 5 => 5 | 9 => 9 | 46 => 65 | n => n, fun | n => n⟩
theorem Try.lays254 : Go.Proofs.Lays.n254 Try.prog Try.lays254_ren := {
  mixed := by kernel_rfl
  f254 := Try.func71.trans (congrArg some (by kernel_rfl))
  f291 := Try.func81.trans (congrArg some (by kernel_rfl))
  t0 := Try.underlying0
  a0 := Try.isAgg0
  z0 := Try.sizeOf0
  v0 := Try.zeroValue0
  t3 := Try.underlying3
  a3 := Try.isAgg3
  z3 := Try.sizeOf3
  v3 := Try.zeroValue3
  t4 := Try.underlying4
  a4 := Try.isAgg4
  z4 := Try.sizeOf4
  v4 := Try.zeroValue4
  t5 := Try.underlying5
  a5 := Try.isAgg5
  z5 := Try.sizeOf5
  v5 := Try.zeroValue5
  t9 := Try.underlying9
  a9 := Try.isAgg9
  z9 := Try.sizeOf9
  v9 := Try.zeroValue9
  t37 := Try.underlying26
  a37 := Try.isAgg26
  z37 := Try.sizeOf26
  v37 := Try.zeroValue26
  t46 := Try.underlying65
  a46 := Try.isAgg65
  z46 := Try.sizeOf65
  v46 := Try.zeroValue65
  t51 := Try.underlying68
  a51 := Try.isAgg68
  z51 := Try.sizeOf68
  v51 := Try.zeroValue68
  t146 := Try.underlying99
  a146 := Try.isAgg99
  z146 := Try.sizeOf99
  v146 := Try.zeroValue99 }
open Go.RowKit Go.Lib in
theorem Try.bytealg_IndexRabinKarp_bytes (b1 o1 c1 b2 o2 c2 : Nat) (s sep : ByteArray) (h1 : 1 ≤ sep.size) (h2 : sep.size ≤ s.size) (hs : s.size < 4294967281) (w : World) (hc1 : Lib.Bytes w b1 o1 s) (hc2 : Lib.Bytes w b2 o2 sep) (hcap : s.size ≤ c1) :
    Calls Try.prog 71 #[.slice (some ⟨b1, o1, none⟩) s.size c1, .slice (some ⟨b2, o2, none⟩) sep.size c2] w fun e w' => e = .returned (.int .i64 (Lib.index s.data.toList sep.data.toList)) ∧ ∃ q, w' = w.drewN q := Any.bytealg_IndexRabinKarp_bytes Try.lays254 b1 o1 c1 b2 o2 c2 s sep h1 h2 hs w hc1 hc2 hcap
open Go.RowKit Go.Lib in
theorem Try.bytes_Index_search (b1 o1 c1 b2 o2 c2 : Nat) (s sub : ByteArray) (m : Int) (w : World) (hs : s.size < 4294967281) (hm : w.cell? ⟨0, 0, none⟩ = some (.int .i64 m)) (hc1 : Lib.Bytes w b1 o1 s) (hc2 : Lib.Bytes w b2 o2 sub) (hcap : s.size ≤ c1) (hn2 : 2 ≤ sub.size) (hls : sub.size < s.size) :
    Calls Try.prog 53 #[.slice (some ⟨b1, o1, none⟩) s.size c1, .slice (some ⟨b2, o2, none⟩) sub.size c2] w fun e w' => e = .returned (.int .i64 (Lib.index s.data.toList sub.data.toList)) ∧ ∃ q, w' = w.drewN q := Any.bytes_Index_search Try.lays185 b1 o1 c1 b2 o2 c2 s sub m w hs hm hc1 hc2 hcap hn2 hls
open Go.Proofs Go.RowKit Go.Lib in
theorem Try.bytes_Index_at (a1 a2 : Addr) (n c1 k c2 : Nat) (xs ys : List Int) (m : Int) (w : World) (hx : xs.length = n) (hy : ys.length = k) (hr1 : ∀ x ∈ xs, 0 ≤ x ∧ x < 256) (hr2 : ∀ y ∈ ys, 0 ≤ y ∧ y < 256) (hc1 : ∀ i, i < n → w.cell? (a1.add i) = some (.int .u8 (xs.getD i 0))) (hc2 : ∀ i, i < k → w.cell? (a2.add i) = some (.int .u8 (ys.getD i 0))) (hcap : n ≤ c1) (hs : n < 4294967281) (hk : k ≤ 9223372036854775807) (hm : w.cell? ⟨0, 0, none⟩ = some (.int .i64 m)) :
    Calls Try.prog 53 #[.slice (some a1) n c1, .slice (some a2) k c2] w fun e w' => e = .returned (.int .i64 (Lib.index (Lib.bytesOf xs) (Lib.bytesOf ys))) ∧ ∃ q, w' = w.drewN q := Any.bytes_Index_at Try.lays185 a1 a2 n c1 k c2 xs ys m w hx hy hr1 hr2 hc1 hc2 hcap hs hk hm
open Go.Proofs Go.RowKit Go.Lib in
theorem Try.bytes_Index_nil (p2 : Option Addr) (k c2 : Nat) (w : World) (hk : k ≤ 9223372036854775807) (h1 : k = 1 → ∃ b2 o2 cv, p2 = some ⟨b2, o2, none⟩ ∧ w.cell? ⟨b2, o2, none⟩ = some (.int .u8 cv)) :
    Calls Try.prog 53 #[.slice none 0 0, .slice p2 k c2] w fun e w' => e = .returned (.int .i64 (if k = 0 then 0 else -1)) ∧ w' = w := Any.bytes_Index_nil Try.lays185 p2 k c2 w hk h1
open Go.Proofs Go.RowKit Go.Lib in
theorem Try.bytes_Contains_at (a1 a2 : Addr) (n c1 k c2 : Nat) (xs ys : List Int) (m : Int) (w : World) (hx : xs.length = n) (hy : ys.length = k) (hr1 : ∀ x ∈ xs, 0 ≤ x ∧ x < 256) (hr2 : ∀ y ∈ ys, 0 ≤ y ∧ y < 256) (hc1 : ∀ i, i < n → w.cell? (a1.add i) = some (.int .u8 (xs.getD i 0))) (hc2 : ∀ i, i < k → w.cell? (a2.add i) = some (.int .u8 (ys.getD i 0))) (hcap : n ≤ c1) (hs : n < 4294967281) (hk : k ≤ 9223372036854775807) (hm : w.cell? ⟨0, 0, none⟩ = some (.int .i64 m)) :
    Calls Try.prog 42 #[.slice (some a1) n c1, .slice (some a2) k c2] w fun e w' => e = .returned (.bool (Lib.contains (Lib.bytesOf xs) (Lib.bytesOf ys))) ∧ ∃ q, w' = w.drewN q := Any.bytes_Contains_at Try.lays186 a1 a2 n c1 k c2 xs ys m w hx hy hr1 hr2 hc1 hc2 hcap hs hk hm
open Go.Proofs Go.RowKit Go.Lib in
theorem Try.bytes_Contains_nil (p2 : Option Addr) (k c2 : Nat) (w : World) (hk : k ≤ 9223372036854775807) (h1 : k = 1 → ∃ b2 o2 cv, p2 = some ⟨b2, o2, none⟩ ∧ w.cell? ⟨b2, o2, none⟩ = some (.int .u8 cv)) :
    Calls Try.prog 42 #[.slice none 0 0, .slice p2 k c2] w fun e w' => e = .returned (.bool (decide (k = 0))) ∧ w' = w := Any.bytes_Contains_nil Try.lays186 p2 k c2 w hk h1
def Try.laysM185_ren : Go.Shelf.Ren := ⟨fun | 185 => 53 | 187 => 68 | 115 => 40 | 253 => 69 | 224 => 70 | 254 => 71 | 255 => 80 | 291 => 81 | n => n, fun | 37 => 26 | 3 => 3 | 4 => 4 | 0 => 0 | 5 => 5 | 46 => 65 | 9 => 9 | 146 => 99 | 51 => 68 | n => n, fun | 1 => 0 | n => n⟩
theorem Try.laysM185 : Go.Proofs.LaysM.n185 Try.prog Try.laysM185_ren := {
  mixed := by kernel_rfl
  f115 := Try.func40.trans (congrArg some (by kernel_rfl))
  f185 := Try.func53.trans (congrArg some (by kernel_rfl))
  f187 := Try.func68.trans (congrArg some (by kernel_rfl))
  f224 := Try.func70.trans (congrArg some (by kernel_rfl))
  f253 := Try.func69.trans (congrArg some (by kernel_rfl))
  f254 := Try.func71.trans (congrArg some (by kernel_rfl))
  f255 := Try.func80.trans (congrArg some (by kernel_rfl))
  f291 := Try.func81.trans (congrArg some (by kernel_rfl))
  t0 := Try.underlying0
  a0 := Try.isAgg0
  z0 := Try.sizeOf0
  v0 := Try.zeroValue0
  t3 := Try.underlying3
  a3 := Try.isAgg3
  z3 := Try.sizeOf3
  v3 := Try.zeroValue3
  t4 := Try.underlying4
  a4 := Try.isAgg4
  z4 := Try.sizeOf4
  v4 := Try.zeroValue4
  t5 := Try.underlying5
  a5 := Try.isAgg5
  z5 := Try.sizeOf5
  v5 := Try.zeroValue5
  t9 := Try.underlying9
  a9 := Try.isAgg9
  z9 := Try.sizeOf9
  v9 := Try.zeroValue9
  t37 := Try.underlying26
  a37 := Try.isAgg26
  z37 := Try.sizeOf26
  v37 := Try.zeroValue26
  t46 := Try.underlying65
  a46 := Try.isAgg65
  z46 := Try.sizeOf65
  v46 := Try.zeroValue65
  t51 := Try.underlying68
  a51 := Try.isAgg68
  z51 := Try.sizeOf68
  v51 := Try.zeroValue68
  t146 := Try.underlying99
  a146 := Try.isAgg99
  z146 := Try.sizeOf99
  v146 := Try.zeroValue99
  g1 := by kernel_rfl
  i0 := by kernel_rfl
  i3 := by kernel_rfl
  i4 := by kernel_rfl
  i5 := by kernel_rfl
  i9 := by kernel_rfl
  i37 := by kernel_rfl
  i46 := by kernel_rfl
  i51 := by kernel_rfl
  i146 := by kernel_rfl
  m1 := by kernel_rfl
  s1_3 := fun w h => Go.Proofs.cell_of_shapedOpen_int (zero := #[.int .i64 0]) (t := 3) h (of_decide_eq_true (by kernel_rfl)) (by kernel_rfl) rfl (by kernel_rfl) (by kernel_rfl) Try.underlying3 }
open Go.Proofs Go.RowKit Go.Lib in
theorem Try.bytes_Index_at_shaped (a1 a2 : Addr) (n c1 k c2 : Nat) (xs ys : List Int) (w : World) (hx : xs.length = n) (hy : ys.length = k) (hr1 : ∀ x ∈ xs, 0 ≤ x ∧ x < 256) (hr2 : ∀ y ∈ ys, 0 ≤ y ∧ y < 256) (hc1 : ∀ i, i < n → w.cell? (a1.add i) = some (.int .u8 (xs.getD i 0))) (hc2 : ∀ i, i < k → w.cell? (a2.add i) = some (.int .u8 (ys.getD i 0))) (hcap : n ≤ c1) (hs : n < 4294967281) (hk : k ≤ 9223372036854775807) (h : w.ShapedOpen Try.prog) :
    Calls Try.prog 53 #[.slice (some a1) n c1, .slice (some a2) k c2] w fun e w' => e = .returned (.int .i64 (Lib.index (Lib.bytesOf xs) (Lib.bytesOf ys))) ∧ ∃ q, w' = w.drewN q := Any.bytes_Index_at_shaped Try.laysM185 a1 a2 n c1 k c2 xs ys w hx hy hr1 hr2 hc1 hc2 hcap hs hk h
def Try.laysM186_ren : Go.Shelf.Ren := ⟨fun | 186 => 42 | 185 => 53 | 187 => 68 | 115 => 40 | 253 => 69 | 224 => 70 | 254 => 71 | 255 => 80 | 291 => 81 | n => n, fun | 37 => 26 | 4 => 4 | 3 => 3 | 0 => 0 | 5 => 5 | 46 => 65 | 9 => 9 | 146 => 99 | 51 => 68 | n => n, fun | 1 => 0 | n => n⟩
theorem Try.laysM186 : Go.Proofs.LaysM.n186 Try.prog Try.laysM186_ren := {
  mixed := by kernel_rfl
  f115 := Try.func40.trans (congrArg some (by kernel_rfl))
  f185 := Try.func53.trans (congrArg some (by kernel_rfl))
  f186 := Try.func42.trans (congrArg some (by kernel_rfl))
  f187 := Try.func68.trans (congrArg some (by kernel_rfl))
  f224 := Try.func70.trans (congrArg some (by kernel_rfl))
  f253 := Try.func69.trans (congrArg some (by kernel_rfl))
  f254 := Try.func71.trans (congrArg some (by kernel_rfl))
  f255 := Try.func80.trans (congrArg some (by kernel_rfl))
  f291 := Try.func81.trans (congrArg some (by kernel_rfl))
  t0 := Try.underlying0
  a0 := Try.isAgg0
  z0 := Try.sizeOf0
  v0 := Try.zeroValue0
  t3 := Try.underlying3
  a3 := Try.isAgg3
  z3 := Try.sizeOf3
  v3 := Try.zeroValue3
  t4 := Try.underlying4
  a4 := Try.isAgg4
  z4 := Try.sizeOf4
  v4 := Try.zeroValue4
  t5 := Try.underlying5
  a5 := Try.isAgg5
  z5 := Try.sizeOf5
  v5 := Try.zeroValue5
  t9 := Try.underlying9
  a9 := Try.isAgg9
  z9 := Try.sizeOf9
  v9 := Try.zeroValue9
  t37 := Try.underlying26
  a37 := Try.isAgg26
  z37 := Try.sizeOf26
  v37 := Try.zeroValue26
  t46 := Try.underlying65
  a46 := Try.isAgg65
  z46 := Try.sizeOf65
  v46 := Try.zeroValue65
  t51 := Try.underlying68
  a51 := Try.isAgg68
  z51 := Try.sizeOf68
  v51 := Try.zeroValue68
  t146 := Try.underlying99
  a146 := Try.isAgg99
  z146 := Try.sizeOf99
  v146 := Try.zeroValue99
  g1 := by kernel_rfl
  i0 := by kernel_rfl
  i3 := by kernel_rfl
  i4 := by kernel_rfl
  i5 := by kernel_rfl
  i9 := by kernel_rfl
  i37 := by kernel_rfl
  i46 := by kernel_rfl
  i51 := by kernel_rfl
  i146 := by kernel_rfl
  m1 := by kernel_rfl
  s1_3 := fun w h => Go.Proofs.cell_of_shapedOpen_int (zero := #[.int .i64 0]) (t := 3) h (of_decide_eq_true (by kernel_rfl)) (by kernel_rfl) rfl (by kernel_rfl) (by kernel_rfl) Try.underlying3 }
open Go.Proofs Go.RowKit Go.Lib in
theorem Try.bytes_Contains_at_shaped (a1 a2 : Addr) (n c1 k c2 : Nat) (xs ys : List Int) (w : World) (hx : xs.length = n) (hy : ys.length = k) (hr1 : ∀ x ∈ xs, 0 ≤ x ∧ x < 256) (hr2 : ∀ y ∈ ys, 0 ≤ y ∧ y < 256) (hc1 : ∀ i, i < n → w.cell? (a1.add i) = some (.int .u8 (xs.getD i 0))) (hc2 : ∀ i, i < k → w.cell? (a2.add i) = some (.int .u8 (ys.getD i 0))) (hcap : n ≤ c1) (hs : n < 4294967281) (hk : k ≤ 9223372036854775807) (h : w.ShapedOpen Try.prog) :
    Calls Try.prog 42 #[.slice (some a1) n c1, .slice (some a2) k c2] w fun e w' => e = .returned (.bool (Lib.contains (Lib.bytesOf xs) (Lib.bytesOf ys))) ∧ ∃ q, w' = w.drewN q := Any.bytes_Contains_at_shaped Try.laysM186 a1 a2 n c1 k c2 xs ys w hx hy hr1 hr2 hc1 hc2 hcap hs hk h
def Try.laysnb116_ren : Go.Shelf.Ren := ⟨fun | 116 => 25 | 115 => 40 | n => n, fun | 37 => 26 | 4 => 4 | 3 => 3 | 9 => 9 | 5 => 5 | n => n, fun | n => n⟩
theorem Try.laysnb116 : Go.Proofs.Lays.nb116 Try.prog Try.laysnb116_ren := {
  mixed := by kernel_rfl
  f115 := Try.func40.trans (congrArg some (by kernel_rfl))
  f116 := Try.func25.trans (congrArg some (by kernel_rfl))
  t3 := Try.underlying3
  a3 := Try.isAgg3
  z3 := Try.sizeOf3
  v3 := Try.zeroValue3
  t4 := Try.underlying4
  a4 := Try.isAgg4
  z4 := Try.sizeOf4
  v4 := Try.zeroValue4
  t9 := Try.underlying9
  a9 := Try.isAgg9
  z9 := Try.sizeOf9
  v9 := Try.zeroValue9
  t37 := Try.underlying26
  a37 := Try.isAgg26
  z37 := Try.sizeOf26
  v37 := Try.zeroValue26
  t5 := Try.underlying5
  a5 := Try.isAgg5
  z5 := Try.sizeOf5
  v5 := Try.zeroValue5 }
theorem Try.bytes_HasPrefix_e2 (p1 p2 : Option Addr) (n c d : Nat) (w : World) :
    Calls Try.prog 25 #[.slice p1 n c, .slice p2 0 d] w fun e w' => e = .returned (.bool true) ∧ w' = w := Any.bytes_HasPrefix_e2 Try.laysnb116 p1 p2 n c d w
theorem Try.bytes_HasPrefix_e1 (p1 p2 : Option Addr) (c m d : Nat) (hm : 0 < m) (w : World) :
    Calls Try.prog 25 #[.slice p1 0 c, .slice p2 m d] w fun e w' => e = .returned (.bool false) ∧ w' = w := Any.bytes_HasPrefix_e1 Try.laysnb116 p1 p2 c m d hm w
theorem Try.bytes_HasPrefix_all (p1 p2 : Option Addr) (n c m d : Nat) (xs ys : List Int) (w : World) (hx : xs.length = n) (hy : ys.length = m) (hnc : n ≤ c) (h1 : Lib.BytesIn w p1 n xs) (h2 : Lib.BytesIn w p2 m ys) :
    Calls Try.prog 25 #[.slice p1 n c, .slice p2 m d] w fun e w' => e = .returned (.bool (Lib.hasPrefix (Lib.bytesOf xs) (Lib.bytesOf ys))) ∧ w' = w := Any.bytes_HasPrefix_all Try.laysnb116 p1 p2 n c m d xs ys w hx hy hnc h1 h2
theorem Try.bytes_Equal (v1 v2 : Value) (xs ys : List Int) (w : World) (h1 : (convert 26 9 v1).run Try.prog w = .ok (.string (strOfNums xs)) w) (h2 : (convert 26 9 v2).run Try.prog w = .ok (.string (strOfNums ys)) w) :
    Calls Try.prog 40 #[v1, v2] w fun e w' => e = .returned (.bool (Lib.bytesOf xs == Lib.bytesOf ys)) ∧ w' = w := Any.bytes_Equal Try.lays115 v1 v2 xs ys w h1 h2
theorem Try.bytes_HasPrefix (b1 o1 n c b2 o2 m d : Nat) (xs ys : List Int) (w : World) (hx : xs.length = n) (hy : ys.length = m) (hnc : n ≤ c) (hc1 : ∀ i, i < n → w.cell? ⟨b1, o1 + i, none⟩ = some (.int .u8 (xs.getD i 0))) (hc2 : ∀ i, i < m → w.cell? ⟨b2, o2 + i, none⟩ = some (.int .u8 (ys.getD i 0))) :
    Calls Try.prog 25 #[.slice (some ⟨b1, o1, none⟩) n c, .slice (some ⟨b2, o2, none⟩) m d] w fun e w' => e = .returned (.bool (Lib.hasPrefix (Lib.bytesOf xs) (Lib.bytesOf ys))) ∧ w' = w := Any.bytes_HasPrefix Try.laysnb116 b1 o1 n c b2 o2 m d xs ys w hx hy hnc hc1 hc2
theorem Try.bytes_IndexByte (b o n c : Nat) (xs : List Int) (cv : Int) (w : World) (hx : xs.length = n) (hc : ∀ i, i < n → w.cell? ⟨b, o + i, none⟩ = some (.int .u8 (xs.getD i 0))) :
    Calls Try.prog 68 #[.slice (some ⟨b, o, none⟩) n c, .int .u8 cv] w fun e w' => e = .returned (.int .i64 (Lib.indexByte (Lib.bytesOf xs) cv.toNat.toUInt8)) ∧ w' = w := Any.bytes_IndexByte Try.lays187 b o n c xs cv w hx hc
theorem Try.bytes_IndexByte_nil (cv : Int) (w : World) :
    Calls Try.prog 68 #[.slice none 0 0, .int .u8 cv] w fun e w' => e = .returned (.int .i64 (-1)) ∧ w' = w := Any.bytes_IndexByte_nil Try.lays187 cv w
end Go.Proofs

/- The contracts of bytes.Contains and of refers, of whatever bytes. -/
namespace Go.Proofs.Ythocaimiofehkaa
open Go.RowKit BaseMath WireMath NameMath ScanMath

theorem occ_spot (p t : List By) (i : Nat) : Lib.occAt p t i = spotF p t i := by
  unfold Lib.occAt spotF preB
  rw [Bool.eq_iff_iff, List.isPrefixOf_iff_prefix, decide_eq_true_eq]
  constructor
  · rintro ⟨r, h⟩; rw [← h]; simp
  · intro h
    refine ⟨(p.drop i).drop t.length, ?_⟩
    have := List.take_append_drop t.length (p.drop i)
    rw [h] at this
    exact this
theorem contains_spots (p t : List By) (ht : 0 < t.length) : Lib.contains p t = decide (spotsTo p t p.length ≠ []) := by
  have hm : ∀ i, i ∈ spotsTo p t p.length ↔ i < p.length ∧ spotF p t i = true := fun i => by unfold spotsTo; rw [List.mem_filter, List.mem_range]
  unfold Lib.contains
  rcases Lib.index_spec p t with ⟨h1, h2⟩ | ⟨i, h1, h2, h3, -⟩
  · have : spotsTo p t p.length = [] := List.eq_nil_iff_forall_not_mem.2 fun i hi => by
      obtain ⟨ha, hb⟩ := (hm i).1 hi
      rw [← occ_spot, h2 i (by omega)] at hb
      cases hb
    rw [h1, this]; simp
  · rw [occ_spot] at h3
    have hr := Lib.index_room p t (by omega)
    have : i ∈ spotsTo p t p.length := (hm i).2 ⟨by omega, h3⟩
    have h4 : spotsTo p t p.length ≠ [] := fun e => by rw [e] at this; cases this
    rw [h1, decide_eq_true h4]
    simp
/-- does p refer to s? -/
def refB (p s : List By) : Bool := decide (spotsB p s ≠ [])
theorem refB_no {p s : List By} (h : pathB s = false) : refB p s = false := by unfold refB spotsB; rw [h]; simp
theorem refB_yes {p s : List By} (h : pathB s = true) : refB p s = decide (spotsTo p (s.take 32) p.length ≠ []) := by unfold refB spotsB; rw [h]; simp
theorem refB_nil (s : List By) : refB [] s = false := by unfold refB spotsB spotsTo; simp
def ints (l : List By) : List Int := l.map fun x => (x.toNat : Int)
theorem ints_bytes (l : List By) : Lib.bytesOf (ints l) = l := by
  unfold Lib.bytesOf ints; rw [List.map_map]
  conv => rhs; rw [← List.map_id l]
  refine List.map_congr_left fun x _ => ?_
  show UInt8.ofNat ((x.toNat : Int)).toNat = x
  simp
theorem ints_range (l : List By) : ∀ x ∈ ints l, 0 ≤ x ∧ x < 256 := fun x hx => by
  obtain ⟨y, _, rfl⟩ := List.mem_map.1 hx
  have := y.toNat_lt
  omega
theorem ints_cells {w : World} {b o : Nat} {l : List By} (h : BytesAt w b o l) : ∀ i, i < l.length → w.cell? ((⟨b, o, none⟩ : Addr).add i) = some (.int .u8 ((ints l).getD i 0)) := fun i hi => by
  rw [Addr.add_mid, h i hi]
  unfold ints
  rw [List.getD_eq_getElem?_getD, List.getElem?_map, List.getElem?_eq_getElem hi]; rfl
/-- the library's variable is there -/
def Most (w : World) : Prop := ∃ m, w.cell? ⟨0, 0, none⟩ = some (.int .i64 m)
theorem Most.below {w w' : World} (h : Most w) (hb : Below w.heap.size w w') : Most w' := by
  obtain ⟨m, hm⟩ := h
  exact ⟨m, by rw [hb.cell (block_of_cell hm)]; exact hm⟩
theorem BytesAt.src_below {w w' : World} {b o : Nat} {p : List By} (h : BytesAt w b o p) (hb : Below w.heap.size w w') : BytesAt w' b o p := fun k hk => by
  rw [hb.cell (p := ⟨b, o + k, none⟩) (block_of_cell (h k hk))]; exact h k hk
theorem contains_any (A : Addr) (ca : Nat) (p : List By) (B : Addr) (cb : Nat) (t : List By) (w : World) (hp : ∃ b o, A = ⟨b, o, none⟩ ∧ BytesAt w b o p) (ht : ∃ b o, B = ⟨b, o, none⟩ ∧ BytesAt w b o t)
    (h0 : 0 < t.length) (hlp : p.length ≤ 100000) (hlt : t.length ≤ 100000) (hca : p.length ≤ ca) (hm : Most w) :
    Calls Try.prog 42 #[.slice (some A) p.length ca, .slice (some B) t.length cb] w fun e w' => e = .returned (.bool (decide (spotsTo p t p.length ≠ []))) ∧ Below w.heap.size w w' := by
  obtain ⟨b1, o1, rfl, h1⟩ := hp
  obtain ⟨b2, o2, rfl, h2⟩ := ht
  obtain ⟨m, hm⟩ := hm
  refine (Try.bytes_Contains_at ⟨b1, o1, none⟩ ⟨b2, o2, none⟩ p.length ca t.length cb (ints p) (ints t) m w (by simp [ints]) (by simp [ints]) (ints_range p) (ints_range t) (ints_cells h1) (ints_cells h2) hca (by omega) (by omega) hm).mono ?_
  rintro e w' ⟨rfl, q, rfl⟩
  refine ⟨?_, below_drewN (Below.refl _ _) q⟩
  rw [ints_bytes, ints_bytes, contains_spots p t h0]
theorem refers_any (A : Option Addr) (ca : Nat) (p s : List By) (w : World) (hA : SrcIs w A p) (hn : A = none → ca = 0) (hf : ∀ a, A = some a → ∃ b o, a = ⟨b, o, none⟩) (hlp : p.length ≤ 100000) (hca : p.length ≤ ca) (hm : Most w) :
    Calls Try.prog 27 #[.slice A p.length ca, vs s] w fun e w' => e = .returned (.bool (refB p s)) ∧ Below w.heap.size w w' := by
  cases hs : pathB s with
  | false => rw [refB_no hs]; exact refers_no A p.length ca s hs w
  | true =>
    cases A with
    | none =>
      have hp : p = [] := List.eq_nil_of_length_eq_zero (by
        rcases Nat.eq_zero_or_pos p.length with h | h
        · exact h
        · obtain ⟨b, o, he, _⟩ := hA h; cases he)
      subst hp
      rw [refB_nil]
      obtain rfl := hn rfl
      exact refers_nil s hs w
    | some a =>
      obtain ⟨b, o, rfl⟩ := hf a rfl
      have hc : BytesAt w b o p := fun k hk => by
        obtain ⟨b', o', he, hc⟩ := hA (by omega)
        cases he
        exact hc k hk
      have HRB := Lib.hid (refB_yes (p := p) hs)
      have HP := Lib.hid hs; have HL := Lib.hid (path_take32 hs); have HC := Lib.hid hc; have HM := Lib.hid hm
      clear hs hA hn hc hm hf
      go_enter Try.func27, Try.ntmps27
      go_wp2_with fail
      refine (split_yes s HP.out w).mono ?_
      rintro e w1 ⟨rfl, hb⟩
      have HB := Lib.hid hb; clear hb
      generalize s.take 32 = t at *
      generalize s.drop 33 = nm at *
      obtain ⟨c2, w2, hcv, hs2, hb2⟩ := str_bytes t w1
      have HB2 : Hid (Below w.heap.size w w2) := HB.out.trans (hb2.mono HB.out.size)
      have hl := HL.out
      obtain ⟨b2, o2, he, hs2⟩ := hs2 (by omega)
      cases he
      have HT := Lib.hid hs2
      rw [HL.out] at hcv
      clear hb2 hs2
      go_wp2_with fail
      rw [← HL.out]
      refine (contains_any ⟨b, o, none⟩ ca p ⟨w1.heap.size, 0, none⟩ c2 t w2 ⟨b, o, rfl, HC.out.src_below HB2.out⟩ ⟨_, _, rfl, HT.out⟩ (by omega) hlp (by omega) hca (HM.out.below HB2.out)).mono ?_
      rintro e w3 ⟨rfl, hb3⟩
      have HB3 : Hid (Below w.heap.size w w3) := HB2.out.trans (hb3.mono HB2.out.size)
      clear hb3
      generalize decide (spotsTo p t p.length ≠ []) = r at *
      go_wp2_with fail
      go_ret
      exact ⟨by rw [HRB.out]; rfl, HB3.out⟩
end Go.Proofs.Ythocaimiofehkaa

/- The contract of scan's Find, whatever it finds. -/
namespace Go.Proofs.Ythocaimiofehkaa
open Go.RowKit BaseMath WireMath NameMath ScanMath

/-- a row of texts of one's own, in the sort's words -/
theorem own_holds {w : World} {base g n cap : Nat} {l : List (List By)} (h : w.ownsRow base 9 1 (.slice (some ⟨g, 0, none⟩) n cap) n (l.map vs)) :
    base ≤ g ∧ g < w.heap.size ∧ n ≤ cap ∧ Sort.Holds encStr w g 0 l.toArray := by
  have hl : l.length = n := by have := h.1; simpa using this
  rcases h.2 with ⟨hv, -⟩ | ⟨g', cap', cur, hv, hg, hc, hn, _, hs, ht⟩
  · cases hv
  · cases hv
    rw [Nat.mul_one] at ht
    have hb : Blk w g 9 (l.map vs ++ cur.toList.drop n) := by rw [← ht, List.take_append_drop]; exact hc
    refine ⟨hg, hb.lt, hn, fun j hj => ?_⟩
    have hj' : j < l.length := by simpa using hj
    constructor
    · rw [Nat.zero_add, hb.cell, List.getElem?_append_left (by simpa using hj'), getElem!_pos _ j hj]
      simp [hj', encStr]
    · simp only [World.frozen?, hc]
      simp
theorem below_map {w : World} {base g : Nat} (h : base ≤ g) (f : Array Value → Array Value) : Below base w (Sort.mapBlock w g f) :=
  ⟨rfl, rfl, rfl, by simp [Sort.mapBlock], fun k hk => by simp only [Sort.mapBlock, Array.getElem?_modify]; rw [if_neg (by omega)]⟩
theorem below_ahead {w : World} {base : Nat} (n : Nat) : Below base w (Sort.ahead w n) := ⟨rfl, rfl, rfl, Nat.le_refl _, fun _ _ => rfl⟩
theorem below_grow {w : World} {base : Nat} (hb : base ≤ w.heap.size) (os : Array Obj) : Below base w (Sort.grow w os) :=
  ⟨rfl, rfl, rfl, by simp, fun k hk => Sort.heap_grow_old w os (by omega)⟩
theorem below_put {w : World} {base g : Nat} (h : base ≤ g) (n : Nat) (l : List (List By)) : Below base w (Sort.putRow encStr (Sort.ahead w n) g 0 l.toArray) :=
  (below_ahead n).trans (below_map h _)
theorem sort_any (base g n cap : Nat) (l : List (List By)) (w : World) (h : w.ownsRow base 9 1 (.slice (some ⟨g, 0, none⟩) n cap) n (l.map vs)) (hb : base ≤ w.heap.size) (hl : n ≤ 100000) :
    Calls Try.prog 28 #[.slice (some ⟨g, 0, none⟩) n cap] w fun e w' => e = .returned (.tuple #[]) ∧ Below base w w' ∧ Sort.Holds encStr w' g 0 (l.mergeSort fun x y => decide (x ≤ y)).toArray := by
  have hn : l.length = n := by have := h.1; simpa using this
  subst hn
  obtain ⟨h1, h2, h3, h4⟩ := own_holds h
  refine (Try.slices_Sort_string g 0 cap l w h4 h2 (by omega)).mono ?_
  rintro e w' ⟨rfl, m, os, rfl⟩
  refine ⟨rfl, (below_put h1 m _).trans (below_grow (by simpa using hb) os), Sort.holds_grow _ _ _ _ _ _ (by simpa using h2) (Sort.holds_putRow _ _ _ _ l.toArray _ (Sort.holds_ahead _ _ _ _ _ _ h4) (by simp))⟩
theorem holds_strs {w : World} {g : Nat} {l : List (List By)} {d : Array (List By)} (h : Sort.Holds encStr w g 0 d) (hd : ∀ k (hk : k < l.length), k < d.size ∧ d[k]! = l[k]) : StrsIs w (some ⟨g, 0, none⟩) l := fun _ =>
  ⟨g, 0, rfl, fun k hk => by
    obtain ⟨h1, h2⟩ := hd k hk
    rw [(h k h1).1, h2]⟩
theorem compact_any (base g cap : Nat) (l : List (List By)) (w : World) (h : Sort.Holds encStr w g 0 l.toArray) (hg : base ≤ g) (hc : l.length ≤ cap) (hl : l.length ≤ 100000) :
    Calls Try.prog 29 #[.slice (some ⟨g, 0, none⟩) l.length cap] w fun e w' => e = .returned (.slice (some ⟨g, 0, none⟩) (Lib.compact l).length cap) ∧ Below base w w' ∧ StrsIs w' (some ⟨g, 0, none⟩) (Lib.compact l) := by
  refine (Try.slices_Compact_string g 0 cap l w h (by omega) hc).mono ?_
  rintro e w' ⟨rfl, q, rfl⟩
  have hlen := Lib.compact_length_le l
  refine ⟨rfl, below_put hg q _, holds_strs (Sort.holds_putRow _ _ _ _ l.toArray _ (Sort.holds_ahead _ _ _ _ _ _ h) (by simp; omega)) fun k hk => ⟨by simp; omega, ?_⟩⟩
  rw [getElem!_pos _ k (by simp; omega)]
  simp [List.getElem_append_left, hk]
/-- those of the paths that p refers to, as they came -/
def foundTo (p : List By) (l : List (List By)) (i : Nat) : List (List By) := (l.take i).filter (refB p)
theorem foundTo_yes {p : List By} {l : List (List By)} {i : Nat} (hi : i < l.length) (h : refB p l[i] = true) : foundTo p l (i + 1) = foundTo p l i ++ [l[i]] := by
  unfold foundTo; rw [List.take_succ_eq_append_getElem hi, List.filter_append]; simp [h]
theorem foundTo_no {p : List By} {l : List (List By)} {i : Nat} (hi : i < l.length) (h : refB p l[i] = false) : foundTo p l (i + 1) = foundTo p l i := by
  unfold foundTo; rw [List.take_succ_eq_append_getElem hi, List.filter_append]; simp [h]
theorem foundTo_len (p : List By) (l : List (List By)) (i : Nat) : (foundTo p l i).length ≤ i := by
  unfold foundTo; have := List.length_filter_le (refB p) (l.take i); rw [List.length_take] at this; omega
def findB (p : List By) (l : List (List By)) : List (List By) := rise (l.filter (refB p))
end Go.Proofs.Ythocaimiofehkaa

/- The contract of scan's Find, whatever it finds. -/
namespace Go.Proofs.Ythocaimiofehkaa
open Go.RowKit BaseMath WireMath NameMath ScanMath

theorem compact_sorted (base g n cap : Nat) (F : List (List By)) (w : World) (h : Sort.Holds encStr w g 0 (F.mergeSort fun x y => decide (x ≤ y)).toArray) (hn : F.length = n) (hg : base ≤ g) (hc : n ≤ cap) (hl : n ≤ 100000) :
    Calls Try.prog 29 #[.slice (some ⟨g, 0, none⟩) n cap] w fun e w' => e = .returned (.slice (some ⟨g, 0, none⟩) (rise F).length cap) ∧ Below base w w' ∧ StrsIs w' (some ⟨g, 0, none⟩) (rise F) := by
  have hl2 : (F.mergeSort fun x y => decide (x ≤ y)).length = n := by rw [List.length_mergeSort]; exact hn
  have := compact_any base g cap (F.mergeSort fun x y => decide (x ≤ y)) w h hg (by omega) (by omega)
  rw [hl2, compact_sort] at this
  exact this
set_option maxHeartbeats 2000000 in
set_option maxRecDepth 100000 in
theorem find_any (A : Option Addr) (ca : Nat) (p : List By) (B : Option Addr) (cb : Nat) (l : List (List By)) (hl : l.length ≤ 1000) (w : World) (hB : StrsIs w B l)
    (hA : SrcIs w A p) (hn : A = none → ca = 0) (hf : ∀ a, A = some a → ∃ b o, a = ⟨b, o, none⟩) (hlp : p.length ≤ 100000) (hca : p.length ≤ ca) (hm : Most w) :
    Calls Try.prog 16 #[.slice A p.length ca, .slice B l.length cb] w fun e w' => ∃ v, e = .returned v ∧ RiseRel w (findB p l) v w' := by
  have HB := Lib.hid hB; have HA := Lib.hid hA; have HM := Lib.hid hm; have HF := Lib.hid hf; have HN := Lib.hid hn
  clear hB hA hm hf hn
  go_enter Try.func16, Try.ntmps16
  go_wp2_with fail
  go_loopw [5, 10] (fun v vi wr => ∃ i : Nat, i ≤ l.length ∧ vi = .int .i64 i ∧ Hid (RowRel w 9 ((foundTo p l i).map vs) v wr)) (fun _ vi _ => l.length - (intOf vi).toNat)
  case atStart => exact ⟨0, Nat.zero_le _, rfl, RowRel.none _ _⟩
  case round =>
    obtain ⟨i, hi, rfl, HR⟩ := hrel
    rename World => W0
    by_cases hlt : i < l.length
    · obtain ⟨b, o, rfl, hc⟩ := (HB.out.below HR.out.below HB.out.lt) (by omega)
      have c1 := hc i hlt
      have HX := Lib.hid (refers_any A ca p l[i] W0 (HA.out.below HR.out.below) HN.out HF.out hlp hca (HM.out.below HR.out.below))
      have HY := Lib.hid (fun h => foundTo_yes (p := p) hlt h); have HZ := Lib.hid (fun h => foundTo_no (p := p) hlt h)
      have hfl := foundTo_len p l i
      generalize l[i] = x at *
      clear hc
      go_wp2_with fail
      refine HX.out.mono ?_
      rintro e w1 ⟨rfl, hb⟩
      have HR1 : Hid (RowRel w 9 ((foundTo p l i).map vs) _ w1) := HR.out.below' hb
      clear hb HR c1 HX
      cases hr : refB p x with
      | true =>
        have HE := Lib.hid (HY.out hr)
        clear HY HZ hr
        have hsl : ((foundTo p l i).map vs).length ≤ 1000 := by rw [List.length_map]; omega
        go_wp2_with (refine wpList_push Try.underlying23 info9 rfl (by decide) rfl (.tmp 17) (.tmp 19) rfl HR1.out rfl [vs x] 1 rfl rfl rfl (by omega) ?_)
        intro v' w' hr2
        have HR2 : Hid (RowRel w 9 ((foundTo p l (i + 1)).map vs) v' w') := by show RowRel _ _ _ _ _; rw [HE.out, List.map_append]; exact hr2
        clear hr2 HR1 HE
        go_wp2_with fail
        go_roundw
        case rel => exact ⟨i + 1, by omega, by go_num, HR2.out⟩
        case measure => simp [intOf]; omega
      | false =>
        have HE := Lib.hid (HZ.out hr)
        clear HY HZ hr
        have HR2 := HR1
        rw [← HE.out] at HR2
        clear HR1 HE
        go_wp2_with fail
        go_roundw
        case rel => exact ⟨i + 1, by omega, by go_num, HR2.out⟩
        case measure => simp [intOf]; omega
    · obtain rfl : i = l.length := by omega
      have HE : Hid (findB p l = rise (foundTo p l l.length)) := by show _ = _; unfold findB foundTo; rw [List.take_length]
      have hfl := foundTo_len p l l.length
      generalize foundTo p l l.length = F at *
      have HW := Lib.hid HR.out.below
      have hown := HR.out.own
      rcases hown.2 with ⟨hv, h0⟩ | ⟨g, cap, cur, hv, hg, -, hcap, -⟩
      · cases hv
        obtain rfl : F = [] := List.eq_nil_of_length_eq_zero (by simpa using h0)
        clear HR hown
        go_wp2_with fail
        refine (sort_none W0).mono ?_
        rintro e w1 ⟨rfl, rfl⟩
        go_wp2_with fail
        refine (compact_none W0).mono ?_
        rintro e w1 ⟨rfl, rfl⟩
        go_wp2_with fail
        go_ret
        exact ⟨_, rfl, HW.out, none, 0, by rw [HE.out]; rfl, fun h => by rw [HE.out] at h; simp [rise] at h, fun _ => rfl⟩
      · cases hv
        have HO : Hid (W0.ownsRow w.heap.size 9 1 (.slice (some ⟨g, 0, none⟩) F.length cap) F.length (F.map vs)) := by show World.ownsRow _ _ _ _ _ _ _; simpa using hown
        have hcap' : F.length ≤ cap := by simpa using hcap
        clear HR hown hcap
        have HS := Lib.hid (sort_any w.heap.size g F.length cap F W0 HO.out HW.out.size (by omega))
        have HC := Lib.hid (fun W h => compact_sorted w.heap.size g F.length cap F W h rfl hg hcap' (by omega))
        rw [List.length_map]
        generalize F.length = n at *
        go_wp2_with fail
        refine HS.out.mono ?_
        rintro e w1 ⟨rfl, hb1, hh⟩
        have HH := Lib.hid hh; have HB1 : Hid (Below w.heap.size w w1) := HW.out.trans hb1
        clear hh hb1
        go_wp2_with fail
        refine (HC.out w1 HH.out).mono ?_
        rintro e w2 ⟨rfl, hb2, hh⟩
        have HQ := Lib.hid hh; have HB2 : Hid (Below w.heap.size w w2) := HB1.out.trans hb2
        clear hh hb2 HH HB1 HS HC
        have HE2 := HE
        go_wp2_with fail
        go_ret
        exact ⟨_, rfl, HB2.out, some ⟨g, 0, none⟩, cap, by rw [HE2.out]; rfl, by rw [HE2.out]; exact HQ.out, fun h => by cases h⟩
end Go.Proofs.Ythocaimiofehkaa

/- The contracts of the reference's Find and Has. -/
namespace Go.Proofs.Ythocaimiofehkaa
open Go.RowKit BaseMath WireMath NameMath ScanMath

theorem refB_len (p s : List By) : refB p s = decide (0 < (spotsB p s).length) := by
  unfold refB
  cases spotsB p s with
  | nil => simp
  | cons x r => simp
set_option maxHeartbeats 2000000 in
set_option maxRecDepth 100000 in
theorem rfind_any (A : Option Addr) (ca : Nat) (p : List By) (B : Option Addr) (cb : Nat) (l : List (List By)) (hl : l.length ≤ 1000) (w : World) (hB : StrsIs w B l)
    (hA : SrcIs w A p) (hlp : p.length ≤ 100000) (hca : p.length ≤ ca) :
    Calls Try.prog 17 #[.slice A p.length ca, .slice B l.length cb] w fun e w' => ∃ v, e = .returned v ∧ RiseRel w (findB p l) v w' := by
  have HB := Lib.hid hB; have HA := Lib.hid hA
  clear hB hA
  go_enter Try.func17, Try.ntmps17
  go_wp2_with fail
  go_loopw [5, 6] (fun v vi wr => ∃ i : Nat, i ≤ l.length ∧ vi = .int .i64 i ∧ Hid (RowRel w 9 ((foundTo p l i).map vs) v wr)) (fun _ vi _ => l.length - (intOf vi).toNat)
  case atStart => exact ⟨0, Nat.zero_le _, rfl, RowRel.none _ _⟩
  case round =>
    obtain ⟨i, hi, rfl, HR⟩ := hrel
    rename World => W0
    by_cases hlt : i < l.length
    · obtain ⟨b, o, rfl, hc⟩ := (HB.out.below HR.out.below HB.out.lt) (by omega)
      have HC : Hid (∀ W, Below W0.heap.size W0 W → W.cell? ⟨b, o + i, none⟩ = some (vs l[i])) := fun W hW => by rw [hW.cell (block_of_cell (hc i hlt))]; exact hc i hlt
      have c1 := hc i hlt
      have HX := Lib.hid (rspots_any A ca p hlp hca l[i] W0 (HA.out.below HR.out.below))
      have HY := Lib.hid (fun h => foundTo_yes (p := p) hlt h); have HZ := Lib.hid (fun h => foundTo_no (p := p) hlt h)
      have hfl := foundTo_len p l i
      generalize l[i] = x at *
      clear hc
      go_wp2_with fail
      refine HX.out.mono ?_
      rintro e w1 ⟨v1, rfl, hr⟩
      obtain ⟨A7, c7, rfl, -⟩ := row_ints hr
      have HR1 : Hid (RowRel w 9 ((foundTo p l i).map vs) _ w1) := HR.out.below' hr.below
      have c2 := HC.out w1 hr.below
      clear hr HR c1 HX HC
      have HD := Lib.hid (refB_len p x)
      generalize (spotsB p x).length = k at *
      by_cases hk : 0 < k
      · have HE := Lib.hid (HY.out (by rw [HD.out]; exact decide_eq_true hk))
        clear HY HZ HD
        have hsl : ((foundTo p l i).map vs).length ≤ 1000 := by rw [List.length_map]; omega
        go_wp2_with (refine wpList_push Try.underlying23 info9 rfl (by decide) rfl (.tmp 21) (.tmp 26) rfl HR1.out rfl [vs x] 1 rfl rfl rfl (by omega) ?_)
        intro v' w' hr2
        have HR2 : Hid (RowRel w 9 ((foundTo p l (i + 1)).map vs) v' w') := by show RowRel _ _ _ _ _; rw [HE.out, List.map_append]; exact hr2
        clear hr2 HR1 HE c2
        go_wp2_with fail
        go_roundw
        case rel => exact ⟨i + 1, by omega, by go_num, HR2.out⟩
        case measure => simp [intOf]; omega
      · have HE := Lib.hid (HZ.out (by rw [HD.out]; exact decide_eq_false hk))
        clear HY HZ HD c2
        have HR2 := HR1
        rw [← HE.out] at HR2
        clear HR1 HE
        go_wp2_with fail
        go_roundw
        case rel => exact ⟨i + 1, by omega, by go_num, HR2.out⟩
        case measure => simp [intOf]; omega
    · obtain rfl : i = l.length := by omega
      have HE : Hid (findB p l = rise (foundTo p l l.length)) := by show _ = _; unfold findB foundTo; rw [List.take_length]
      have hfl := foundTo_len p l l.length
      generalize foundTo p l l.length = F at *
      have HW := Lib.hid HR.out.below
      obtain ⟨Am, cm, rfl, hs, -, -, -⟩ := HR.out.strs
      have HS := Lib.hid (rise_any Am cm F (by omega) W0 hs)
      clear hs HR
      generalize F.length = n at *
      go_wp2_with fail
      refine HS.out.mono ?_
      rintro e w1 ⟨v1, rfl, hr⟩
      have HQ : Hid (RiseRel w (rise F) v1 w1) := ⟨HW.out.trans (hr.below.mono HW.out.size), hr.row⟩
      clear hr HS
      go_wp2_with fail
      go_ret
      exact ⟨_, rfl, by rw [HE.out]; exact HQ.out⟩
set_option maxHeartbeats 1000000 in
set_option maxRecDepth 100000 in
theorem has_any (B : Option Addr) (cb : Nat) (l : List (List By)) (hl : l.length ≤ 1000) (s : List By) (w : World) (hB : StrsIs w B l) :
    Calls Try.prog 20 #[.slice B l.length cb, vs s] w fun e w' => e = .returned (.bool (decide (s ∈ l))) ∧ w' = w := by
  have HB := Lib.hid hB
  clear hB
  go_enter Try.func20, Try.ntmps20
  go_wp2_with fail
  go_loopw [5] (fun vi wr => ∃ i : Nat, i ≤ l.length ∧ vi = .int .i64 i ∧ wr = w ∧ Hid (∀ k (h : k < l.length), k < i → l[k] ≠ s)) (fun vi _ => l.length - (intOf vi).toNat)
  case atStart => exact ⟨0, Nat.zero_le _, rfl, rfl, fun k _ h => by omega⟩
  case round =>
    obtain ⟨i, hi, rfl, rfl, HR⟩ := hrel
    by_cases hlt : i < l.length
    · obtain ⟨b, o, rfl, hc⟩ := HB.out (by omega)
      have c1 := hc i hlt
      by_cases he : l[i] = s
      · have HM : Hid (s ∈ l) := by rw [← he]; exact List.getElem_mem hlt
        have hv : (vs l[i]) = vs s := by rw [he]
        rw [hv] at c1
        clear hc he hv
        go_wp2_with fail
        go_ret
        exact ⟨by rw [decide_eq_true HM.out]; rfl, rfl⟩
      · have HN : Hid (∀ k (h : k < l.length), k < i + 1 → l[k] ≠ s) := fun k h hk => by
          by_cases e : k = i
          · subst e; exact he
          · exact HR.out k h (by omega)
        have hne : (l[i] == s) = false := by rw [list_beq]; exact decide_eq_false he
        generalize l[i] = x at *
        clear hc HR he
        go_wp2_with fail
        go_roundw
        case rel => exact ⟨i + 1, by omega, by go_num, trivial, HN.out⟩
        case measure => simp [intOf]; omega
    · obtain rfl : i = l.length := by omega
      have HM : Hid (¬ s ∈ l) := fun h => by
        obtain ⟨k, hk, rfl⟩ := List.getElem_of_mem h
        exact HR.out k hk hk rfl
      go_wp2_with fail
      go_ret
      exact ⟨by rw [decide_eq_false HM.out]; rfl, rfl⟩
end Go.Proofs.Ythocaimiofehkaa

/- Parts of a text in memory; the contracts of the laws' small and text. -/
namespace Go.Proofs.Ythocaimiofehkaa
open Go.RowKit BaseMath WireMath NameMath

/-- something of a text -/
structure Pt where
  p : Option Addr
  c : Nat
  l : List By
  n : By
  cut : By
def Pt.vals (x : Pt) : List Value := [.slice x.p x.l.length x.c, vb x.n, vb x.cut]
structure Pt.Ok (w : World) (x : Pt) : Prop where
  src : SrcIs w x.p x.l
  len : x.l.length ≤ maxLen
  none : x.p = .none → x.c = 0
def PtAt (w : World) (b o : Nat) (x : Pt) : Prop := ∀ j v, x.vals[j]? = some v → w.cell? ⟨b, o + j, none⟩ = some v
def PtsIs (w : World) (A : Option Addr) (l : List Pt) : Prop := 0 < l.length → ∃ b o, A = some ⟨b, o, none⟩ ∧ ∀ i (h : i < l.length), PtAt w b (o + i * 3) l[i] ∧ l[i].Ok w
theorem PtAt.lt {w : World} {b o : Nat} {x : Pt} (h : PtAt w b o x) : b < w.heap.size := block_of_cell (h 0 _ rfl)
theorem PtAt.same {w w' : World} {b o : Nat} {x : Pt} (h : PtAt w b o x) (hb : w'.heap[b]? = w.heap[b]?) : PtAt w' b o x := fun j v hv => by
  rw [World.cell?_of_block (w := w) (a := ⟨b, o + j, none⟩) hb]; exact h j v hv
theorem Pt.Ok.below {w w' : World} {x : Pt} (h : x.Ok w) (hb : Below w.heap.size w w') : x.Ok w' := ⟨h.src.below hb, h.len, h.none⟩
theorem PtsIs.below {w w' : World} {A : Option Addr} {l : List Pt} (h : PtsIs w A l) (hb : Below w.heap.size w w') : PtsIs w' A l := fun h0 => by
  obtain ⟨b, o, rfl, hc⟩ := h h0
  exact ⟨b, o, rfl, fun i hi => ⟨(hc i hi).1.same (hb.block b (hc i hi).1.lt), (hc i hi).2.below hb⟩⟩
theorem allp_false {α : Type} {p : α → Bool} {l : List α} (i : Nat) (hi : i < l.length) (h : p l[i] = false) : l.all p = false := by
  rw [List.all_eq_false]; exact ⟨l[i], List.getElem_mem hi, by rw [h]; decide⟩
theorem allp_true {α : Type} {p : α → Bool} {l : List α} (h : ∀ i (hi : i < l.length), p l[i] = true) : l.all p = true := by
  rw [List.all_eq_true]; intro x hx
  obtain ⟨i, hi, rfl⟩ := List.getElem_of_mem hx
  exact h i hi
def ptB (x : Pt) : Bool := decide (x.l.length ≤ 40)
def smallP (l : List Pt) : Bool := l.all ptB && decide (l.length ≤ 8)
theorem smallP_len {l : List Pt} (h : smallP l = true) : l.length ≤ 8 ∧ ∀ i (hi : i < l.length), l[i].l.length ≤ 40 := by
  unfold smallP at h
  simp only [Bool.and_eq_true, decide_eq_true_eq, List.all_eq_true] at h
  exact ⟨h.2, fun i hi => by have := h.1 _ (List.getElem_mem hi); unfold ptB at this; simpa using this⟩
set_option maxHeartbeats 2000000 in
set_option maxRecDepth 100000 in
theorem small_any (A : Option Addr) (cap : Nat) (l : List Pt) (hm : l.length ≤ maxLen) (w : World) (hA : PtsIs w A l) :
    Calls Try.prog 9 #[.slice A l.length cap] w fun e w' => e = .returned (.bool (smallP l)) ∧ w = w' := by
  have HA := Lib.hid hA; clear hA
  unfold maxLen at hm
  go_enter Try.func9, Try.ntmps9
  go_wp2_with fail
  go_loop [3] (fun vi => ∃ i : Nat, i ≤ l.length ∧ vi = .int .i64 i ∧ Hid (∀ j, j < i → ∀ hj : j < l.length, ptB l[j] = true)) (fun vi => l.length - (intOf vi).toNat)
  case atStart => exact ⟨0, Nat.zero_le _, rfl, fun j hj => absurd hj (by omega)⟩
  case round =>
    obtain ⟨i, hi, rfl, HP⟩ := hrel
    by_cases hlt : i < l.length
    · obtain ⟨b, o, hAe, hc⟩ := HA.out (by omega)
      subst hAe
      obtain ⟨hat, hok⟩ := hc i hlt
      have c0 := hat 0 _ rfl
      have c0 : w.cell? ⟨b, o + i * 3, none⟩ = some (.slice l[i].p l[i].l.length l[i].c) := c0
      have hl := hok.len
      unfold maxLen at hl
      have HSF : Hid (ptB l[i] = false → smallP l = false) := fun h => by unfold smallP; rw [allp_false i hlt h]; rfl
      have HST : Hid (ptB l[i] = true → ∀ j, j < i + 1 → ∀ hj : j < l.length, ptB l[j] = true) := fun h j hj hjl => by
        by_cases e : j = i
        · subst e; exact h
        · exact HP.out j (by omega) hjl
      clear hat hok hc HP
      generalize l[i] = x at *
      by_cases hs : 40 < x.l.length
      · have HF : Hid (smallP l = false) := HSF.out (by unfold ptB; exact decide_eq_false (by omega))
        have hs' : (decide ((40 : Int) < x.l.length)) = true := decide_eq_true (by omega)
        go_wp2_with fail
        go_ret
        exact ⟨by rw [HF.out]; rfl, rfl⟩
      · have HN := Lib.hid (HST.out (by unfold ptB; exact decide_eq_true (by omega)))
        have hs' : (decide ((40 : Int) < x.l.length)) = false := decide_eq_false (by omega)
        go_wp2_with fail
        go_round
        case rel => exact ⟨i + 1, by omega, by go_num, HN.out⟩
        case measure => simp [intOf]; omega
    · obtain rfl : i = l.length := by omega
      have HE : Hid (smallP l = decide ((l.length : Int) ≤ 8)) := by
        show _ = _
        unfold smallP
        rw [allp_true (fun j hj => HP.out j hj hj), Bool.true_and, Bool.eq_iff_iff]; simp; omega
      clear HP
      go_wp2_with fail
      go_ret
      exact ⟨by rw [HE.out]; rfl, rfl⟩
/-- a part's bytes -/
def lettersP (x : Pt) : List By := if x.cut.toNat < 60 then (pathN (sixth x.n)).take (x.cut.toNat % 34) else pathN (sixth x.n)
def partP (x : Pt) : List By := x.l ++ lettersP x
def textP (l : List Pt) : List By := l.flatMap partP
theorem lettersP_len (x : Pt) : (lettersP x).length ≤ 34 := by
  unfold lettersP; split
  · rw [List.length_take, pathN_length]; omega
  · rw [pathN_length]; omega
theorem textP_snoc (l : List Pt) (i : Nat) (hi : i < l.length) : textP (l.take (i + 1)) = (textP (l.take i) ++ l[i].l) ++ lettersP l[i] := by
  unfold textP; rw [List.take_succ_eq_append_getElem hi, List.flatMap_append]; simp [partP]
theorem textP_len {l : List Pt} (h : ∀ i (hi : i < l.length), l[i].l.length ≤ 40) : ∀ i, i ≤ l.length → (textP (l.take i)).length ≤ 74 * i
  | 0, _ => by simp [textP]
  | i + 1, hi => by
    have h1 := textP_len h i (by omega)
    have h2 := h i (by omega)
    have h3 := lettersP_len l[i]
    rw [textP_snoc l i (by omega), List.length_append, List.length_append]; omega
set_option maxHeartbeats 2000000 in
set_option maxRecDepth 100000 in
theorem text_any (A : Option Addr) (cap : Nat) (l : List Pt) (hs : smallP l = true) (w : World) (hA : PtsIs w A l) :
    Calls Try.prog 10 #[.slice A l.length cap] w fun e w' => ∃ v, e = .returned v ∧ RowRel w 5 ((textP l).map vb) v w' := by
  have HA := Lib.hid hA
  obtain ⟨hm, h40⟩ := smallP_len hs
  have H40 := Lib.hid h40; have HTL := Lib.hid (textP_len h40)
  clear hA hs h40
  go_enter Try.func10, Try.ntmps10
  go_wp2_with fail
  go_loopw [3, 4] (fun v vi wr => ∃ i : Nat, i ≤ l.length ∧ vi = .int .i64 i ∧ Hid (RowRel w 5 ((textP (l.take i)).map vb) v wr)) (fun _ vi _ => l.length - (intOf vi).toNat)
  case atStart => exact ⟨0, Nat.zero_le _, rfl, RowRel.none _ _⟩
  case round =>
    obtain ⟨i, hi, rfl, HR⟩ := hrel
    rename World => W0
    have HBW := Lib.hid HR.out.below
    by_cases hlt : i < l.length
    · obtain ⟨b, o, hAe, hc⟩ := HA.out (by omega)
      have HAT : Hid (∀ W, Below w.heap.size w W → PtAt W b (o + i * 3) l[i] ∧ l[i].Ok W) := fun W hb => ⟨(hc i hlt).1.same (hb.block b (hc i hlt).1.lt), (hc i hlt).2.below hb⟩
      have HAE := Lib.hid hAe
      obtain ⟨hat, hok⟩ := HAT.out W0 HBW.out
      have c0 : W0.cell? ⟨b, o + i * 3, none⟩ = some (.slice l[i].p l[i].l.length l[i].c) := hat 0 _ rfl
      have HSN := Lib.hid (textP_snoc l i hlt)
      have HL1 : Hid ((textP (l.take i)).length ≤ 592) := by have := HTL.out i hi; show _ ≤ _; omega
      have HL2 : Hid (l[i].l.length ≤ 40) := H40.out i hlt
      have HSRC := Lib.hid hok.src
      have HNN := Lib.hid hok.none
      subst hAe
      generalize l[i] = x at *
      clear hat hok hc HAE HA
      have hb1 : (textP (l.take i)).length + x.l.length ≤ 1000000 := by have := HL1.out; have := HL2.out; omega
      go_wp2_with (refine wpList_app rfl (.tmp 12) (.tmp 17) rfl HR.out rfl x.p x.c x.l rfl HNN.out HSRC.out hb1 ?_)
      intro v1 w1 hr1
      have HR1 : Hid (RowRel w 5 ((textP (l.take i) ++ x.l).map vb) v1 w1) := by show RowRel _ _ _ _ _; simpa using hr1
      have HQ1 : Hid ((textP (l.take i) ++ x.l).length ≤ 700) := by have := HL1.out; have := HL2.out; show _ ≤ _; rw [List.length_append]; omega
      generalize textP (l.take i) ++ x.l = q1 at *
      have c1 : w1.cell? ⟨b, o + i * 3 + 1, none⟩ = some (vb x.n) := (HAT.out w1 HR1.out.below).1 1 _ rfl
      clear hr1 c0 HSRC HNN HL1 HL2 HR HBW hb1
      go_wp2_with fail
      refine (path_any x.n w1).mono ?_
      rintro e w2 ⟨rfl, hb2⟩
      have HR2 := Lib.hid (HR1.out.below' hb2)
      have c2 : w2.cell? ⟨b, o + i * 3 + 2, none⟩ = some (vb x.cut) := (HAT.out w2 HR2.out.below).1 2 _ rfl
      have HPL := Lib.hid (pathN_length (sixth x.n))
      have HLT : Hid (lettersP x = if x.cut.toNat < 60 then (pathN (sixth x.n)).take (x.cut.toNat % 34) else pathN (sixth x.n)) := rfl
      have HLL := Lib.hid (lettersP_len x)
      generalize pathN (sixth x.n) = px at *
      have hb2' : q1.length + (lettersP x).length ≤ 1000000 := by have := HQ1.out; have := HLL.out; omega
      clear hb2 c1 HR1
      obtain ⟨c3, w3, hcv, hc3, hs3, hb3⟩ := str_cap (lettersP x) w2
      have HR3 := Lib.hid (HR2.out.below' hb3)
      have HS3 := Lib.hid hs3
      clear hs3 hb3
      by_cases hcut : x.cut.toNat < 60
      · have e0 : lettersP x = px.take (x.cut.toNat % 34) := by rw [HLT.out, if_pos hcut]
        have htm : (x.cut.toNat : Int).tmod px.length = ((x.cut.toNat % 34 : Nat) : Int) := by rw [HPL.out]; rfl
        have hkn : x.cut.toNat % 34 < px.length := by rw [HPL.out]; omega
        have hpx : px.length ≤ 34 := by rw [HPL.out]; omega
        have hpx2 : 0 < px.length := by rw [HPL.out]; omega
        have hstr : (ByteArray.mk (lettersP x).toArray) = (ByteArray.mk px.toArray).extract 0 (x.cut.toNat % 34) := by rw [e0, ext_take]
        rw [hstr] at hcv
        have hlim : (lettersP x).length ≤ 34 := HLL.out
        clear e0 hstr HLT
        generalize lettersP x = s at *
        have hc60 : (x.cut.toNat : Int) < 60 := by omega
        clear HLL HPL
        go_wp2_with (refine wpList_app rfl (.tmp 42) (.tmp 44) rfl HR3.out rfl (some ⟨w2.heap.size, 0, none⟩) c3 s rfl (fun h => by cases h) HS3.out hb2' ?_)
        intro v4 w4 hr4
        have HR4 : Hid (RowRel w 5 ((textP (l.take (i + 1))).map vb) v4 w4) := by show RowRel _ _ _ _ _; rw [HSN.out]; simpa using hr4
        clear hr4
        go_wp2_with fail
        go_roundw
        case rel => exact ⟨i + 1, by omega, by go_num, HR4.out⟩
        case measure => simp [intOf]; omega
      · have e0 : lettersP x = px := by rw [HLT.out, if_neg hcut]
        have hpx : px.length ≤ 34 := by rw [HPL.out]; omega
        rw [e0] at hcv HS3 hb2' HSN
        have hc60 : ¬ (x.cut.toNat : Int) < 60 := by omega
        clear HLT e0 HLL HPL
        go_wp2_with (refine wpList_app rfl (.tmp 42) (.tmp 44) rfl HR3.out rfl (some ⟨w2.heap.size, 0, none⟩) c3 px rfl (fun h => by cases h) HS3.out hb2' ?_)
        intro v4 w4 hr4
        have HR4 : Hid (RowRel w 5 ((textP (l.take (i + 1))).map vb) v4 w4) := by show RowRel _ _ _ _ _; rw [HSN.out]; simpa using hr4
        clear hr4
        go_wp2_with fail
        go_roundw
        case rel => exact ⟨i + 1, by omega, by go_num, HR4.out⟩
        case measure => simp [intOf]; omega
    · obtain rfl : i = l.length := by omega
      have HR' := HR
      rw [List.take_length] at HR'
      clear HR
      go_wp2_with fail
      go_ret
      exact ⟨_, rfl, HR'.out⟩
end Go.Proofs.Ythocaimiofehkaa

/- Two rows of texts that grow in turn; paths of numbers in a row; what is found, as mathematics. -/
namespace Go.Proofs.Ythocaimiofehkaa
open Go.RowKit BaseMath WireMath NameMath ScanMath

def Apart (v1 v2 : Value) : Prop := ∀ g, v1.ownBlock = some g → v2.ownBlock ≠ some g
theorem Apart.symm {v1 v2 : Value} (h : Apart v1 v2) : Apart v2 v1 := fun g h2 h1 => h g h1 h2
theorem apart_none (v : Value) : Apart (.slice none 0 0) v := fun g h => by simp [Value.ownBlock] at h
/-- WHAT IS APPENDED TO ONE ROW OF TWO -/
theorem wpList_push2 {w W0 : World} {l l2 : List Value} {v v2 : Value} {ops : Array Oper} {rest : List Oper} {o : Oper} {a : Act} {Q : Exit → Act → World → Prop}
    (hgd : o.guard = .none) (s x : Operand) (ho : o.op = .call { callee := .builtin .append, args := #[s, x], argTypes := #[23, 23] }) (r : RowRel w 9 l v W0) (r2 : RowRel w 9 l2 v2 W0) (hap : Apart v v2) (hs : a.eval s = v)
    (ns : List Value) (m : Nat) (hm : ns.length = m) (hx : a.eval x = .slice (some ⟨W0.heap.size, 0, .none⟩) m m) (h1 : ns.all (·.oneCell') = true) (hl : l.length + m ≤ 1000000)
    (h : ∀ v' w', RowRel w 9 (l ++ ns) v' w' → RowRel w 9 l2 v2 w' → Apart v' v2 → wpList Try.prog ops Q rest (a.put o.dst v') w') : wpList Try.prog ops Q (o :: rest) a (W0.alloc (.cells ns.toArray 9)) := by
  obtain ⟨i0, hi, hz0, hz1, hz2⟩ := info_parts info9
  have hsz := r.below.size
  have hb : (l.length + m) * 16 ≤ 140737488355328 := Nat.le_trans (Nat.mul_le_mul hl (Nat.le_refl 16)) (by decide)
  refine wpList_append_own_at _ hgd s x 23 ho w.heap.size 9 i0 (.string ⟨#[]⟩) 1 16 Try.underlying23 hi hz0 hz1 hz2 rfl (by decide) v l.length l hs (r.own.alloc _) ⟨W0.heap.size, 0, .none⟩ m m ns hx (by omega) ?_ ?_ (by unfold maxLen; omega) hb (by simp; omega) ?_
  · intro j y hj
    rw [Addr.add_mid, Nat.zero_add, (Blk.new W0 9 ns.toArray).cell]; exact hj
  · exact fun y hy => List.all_eq_true.1 h1 y hy
  · intro v' w' h2 h3 _ hloc
    have hbw : Below w.heap.size w w' := (r.below.alloc hsz _).grown h3 (by simp; omega) (fun g hg' => (r.own.lt g hg').1)
    refine h v' w' ⟨hbw, ?_⟩ ⟨hbw, ?_⟩ ?_
    · rw [List.length_append, hm]; exact h2
    · refine (r2.own.alloc _).kept h3 ?_
      cases hv2 : v2.ownBlock with
      | none => exact .inl rfl
      | some g => exact .inr fun e => hap g e.symm hv2
    · intro g hg hg2
      rcases hloc with e | e
      · exact hap g (e ▸ hg) hg2
      · rw [e] at hg
        have hlt := (r2.own.lt g hg2).2
        injection hg with hg
        rw [← hg, World.size_alloc] at hlt; omega
/-- a row of bytes that a call has made, where it lies -/
theorem row_src_spot {w wr : World} {v : Value} {l : List By} (h : RowRel w 5 (l.map vb) v wr) :
    ∃ A c, v = .slice A l.length c ∧ SrcIs wr A l ∧ (A = .none → c = 0) ∧ l.length ≤ c ∧ ∀ a, A = some a → ∃ b o, a = ⟨b, o, none⟩ := by
  have h1 := h.own
  obtain ⟨A, c, hv, hs, hn, hl, -⟩ := h.src
  refine ⟨A, c, hv, hs, hn, hl, fun a ha => ?_⟩
  rcases h1.2 with ⟨hv2, h0⟩ | ⟨g, cap, cur, hv2, -⟩
  · rw [hv, ha] at hv2; injection hv2 with e1; cases e1
  · rw [hv, ha] at hv2; injection hv2 with e1; injection e1 with e1; exact ⟨_, _, e1⟩
theorem StrsIs.take {w : World} {A : Option Addr} {l : List (List By)} (h : StrsIs w A l) (k : Nat) : StrsIs w A (l.take k) := fun h0 => by
  have hlen := List.length_take (i := k) (l := l)
  obtain ⟨b, o, rfl, hc⟩ := h (by rw [hlen] at h0; omega)
  exact ⟨b, o, rfl, fun j hj => by rw [List.getElem_take]; exact hc j (by rw [hlen] at hj; omega)⟩
/-- the path of a number -/
def pN (j : Nat) : List By := pathN (UInt8.ofNat (j % 6))
theorem pN_length (j : Nat) : (pN j).length = 34 := pathN_length _
theorem pN_is (j : Nat) : pathB (pN j) = true := pathN_is _
theorem path_z (z : Int) (k : Nat) (h : z = k) (hk : k < 256) (w : World) : Calls Try.prog 11 #[.int .u8 z] w fun e w' => e = .returned (vs (pN k)) ∧ Below w.heap.size w w' := by
  have h1 : (UInt8.ofNat k).toNat = k := UInt8.toNat_ofNat_of_lt' (by show k < 256; omega)
  have := path_any (UInt8.ofNat k) w
  have e : vb (UInt8.ofNat k) = .int .u8 z := by show Value.int .u8 _ = _; rw [h1, h]
  rw [e] at this
  have e2 : sixth (UInt8.ofNat k) = UInt8.ofNat (k % 6) := by unfold sixth; rw [h1]
  rw [e2] at this
  exact this
def PL (m k : Nat) : List (List By) := (List.range k).map fun i => pN (i + m)
theorem PL_succ (m k : Nat) : PL m (k + 1) = PL m k ++ [pN (k + m)] := by unfold PL; rw [List.range_succ, List.map_append]; rfl
theorem PL_length (m k : Nat) : (PL m k).length = k := by unfold PL; simp
theorem mem_PL {m : Nat} (hm : m < 6) {q : List By} : q ∈ PL m 6 ↔ ∃ j, j < 6 ∧ q = pathN (UInt8.ofNat j) := by
  unfold PL pN
  simp only [List.mem_map, List.mem_range]
  constructor
  · rintro ⟨i, hi, rfl⟩; exact ⟨(i + m) % 6, Nat.mod_lt _ (by decide), rfl⟩
  · rintro ⟨j, hj, rfl⟩; exact ⟨(j + 6 - m) % 6, Nat.mod_lt _ (by decide), by rw [show ((j + 6 - m) % 6 + m) % 6 = j by omega]⟩
theorem PL_take (m k : Nat) (h : k ≤ 6) : (PL m 6).take k = PL m k := by
  unfold PL; rw [← List.map_take, List.take_range, Nat.min_eq_left h]
theorem nodup_len : ∀ {a b : List (List By)}, a.Nodup → (∀ q ∈ a, q ∈ b) → a.length ≤ b.length
  | [], _, _, _ => Nat.zero_le _
  | x :: a, b, h, hs => by
    have hx := hs x (by simp)
    have h2 := nodup_len (b := b.erase x) (List.nodup_cons.1 h).2 (fun q hq => by
      have hne : q ≠ x := fun e => (List.nodup_cons.1 h).1 (e ▸ hq)
      exact (List.mem_erase_of_ne hne).2 (hs q (by simp [hq])))
    rw [List.length_erase_of_mem hx] at h2
    have := List.length_pos_of_mem hx
    simp; omega
theorem rises_nodup {l : List (List By)} (h : Rises l) : l.Nodup := List.Pairwise.imp (fun hlt e => by subst e; rw [bl_irrefl] at hlt; cases hlt) h
theorem mem_find {p : List By} {l : List (List By)} {q : List By} : q ∈ findB p l ↔ q ∈ l ∧ refB p q = true := by
  unfold findB; rw [mem_rise, List.mem_filter]
theorem find_len {p : List By} {a b : List (List By)} (h : ∀ q ∈ a, q ∈ b) : (findB p a).length ≤ (findB p b).length :=
  nodup_len (rises_nodup (rise_rises _)) fun q hq => by rw [mem_find] at hq ⊢; exact ⟨h q hq.1, hq.2⟩
theorem find_same {p : List By} {a b : List (List By)} (h : ∀ q, q ∈ a ↔ q ∈ b) : findB p a = findB p b :=
  rises_ext (rise_rises _) (rise_rises _) fun q => by show q ∈ findB p a ↔ q ∈ findB p b; rw [mem_find, mem_find, h]
theorem spot_more {p m t : List By} {k : Nat} (hk : k ≤ p.length) (h : spotF p t k = true) : spotF (p ++ m) t k = true := by
  unfold spotF preB at h ⊢
  have h := of_decide_eq_true h
  have h2 := congrArg List.length h
  rw [List.length_take, List.length_drop] at h2
  refine decide_eq_true ?_
  rw [List.drop_append_of_le_length hk, List.take_append_of_le_length (by rw [List.length_drop]; omega)]; exact h
theorem ref_more {p m s : List By} (h : refB p s = true) : refB (p ++ m) s = true := by
  cases hs : pathB s with
  | false => rw [refB_no hs] at h; cases h
  | true =>
    rw [refB_yes hs] at h ⊢
    have h := of_decide_eq_true h
    obtain ⟨k, hk⟩ := List.exists_mem_of_ne_nil _ h
    rw [mem_spots] at hk
    refine decide_eq_true fun e => ?_
    have : k ∈ spotsTo (p ++ m) (s.take 32) (p ++ m).length := by rw [mem_spots, List.length_append]; exact ⟨by omega, spot_more (by omega) hk.2⟩
    rw [e] at this; cases this
theorem find_more {p m : List By} {l : List (List By)} {q : List By} (h : q ∈ findB p l) : q ∈ findB (p ++ m) l := by
  rw [mem_find] at h ⊢; exact ⟨h.1, ref_more h.2⟩
theorem findB_len (p : List By) (l : List (List By)) : (findB p l).length ≤ l.length := by
  unfold findB; have h1 := rise_len (l.filter (refB p)); have h2 := List.length_filter_le (refB p) l; omega
theorem gbelow_call {X Z W : World} (h : Below Z.heap.size Z W) (h2 : Below X.heap.size X Z) : Below X.heap.size X W := h2.trans (h.mono h2.size)
theorem gbelow_alloc {X Z : World} {o : Obj} (h2 : Below X.heap.size X Z) : Below X.heap.size X (Z.alloc o) := h2.alloc h2.size o
theorem gbelow_drew {X Z : World} (h2 : Below X.heap.size X Z) : Below X.heap.size X Z.drew := h2.drew
theorem texts_below (A B : Option Addr) (ca cb : Nat) (l : List (List By)) (hl : l.length ≤ 1000) (w : World) (hA : StrsIs w A l) (hB : StrsIs w B l) :
    Calls Try.prog 15 #[.slice A l.length ca, .slice B l.length cb] w fun e w' => e = .returned (.bool true) ∧ Below w.heap.size w w' :=
  (texts_any A B ca cb l l (by unfold maxLen; omega) (by unfold maxLen; omega) w hA hB).mono fun e w' h => by
    obtain ⟨rfl, q, rfl⟩ := h
    exact ⟨by simp, below_drewN (Below.refl _ _) q⟩
end Go.Proofs.Ythocaimiofehkaa

/- The walk of ScanAnywhere. -/
namespace Go.Proofs.Ythocaimiofehkaa
open Go.RowKit BaseMath WireMath NameMath ScanMath

theorem dash_path {x : List By} (h : pathB x = true) : pathB (x.take 32 ++ [45, 120]) = true := by
  have h32 := path_take32 h
  unfold pathB at h ⊢
  simp only [Bool.and_eq_true] at h
  simp only [Bool.and_eq_true, decide_eq_true_eq]
  refine ⟨⟨⟨by rw [List.length_append, h32]; decide, ?_⟩, ?_⟩, ?_⟩
  · rw [List.getD_eq_getElem?_getD, List.getElem?_append_right (by omega), h32]; rfl
  · rw [List.drop_append, List.drop_of_length_le (by omega), h32]; decide
  · rw [List.take_append_of_le_length (by omega), List.take_take]; exact h.2
theorem dash_take {t : List By} (h : t.length = 32) : (t ++ [45, 120]).take 32 = t := by rw [List.take_append_of_le_length (by omega), List.take_of_length_le (by omega)]
theorem rise_two (y : List By) : rise [y, y] = [y] := by
  refine rises_ext (rise_rises _) (by simp [Rises]) fun q => ?_
  rw [mem_rise]; simp
theorem find_two {q y : List By} (h : refB q y = true) : findB q [y, y] = [y] := by
  unfold findB; simp only [List.filter_cons, h, if_true, List.filter_nil]; exact rise_two y
theorem at_spot (a t b : List By) (h0 : 0 < t.length) : a.length ∈ spotsTo ((a ++ t) ++ b) t ((a ++ t) ++ b).length := by
  rw [mem_spots]
  exact ⟨by simp only [List.length_append]; omega, spot_at a t b⟩
theorem run_binadd {P : Program} (w : World) (t : TypeId) (a b : ByteArray) (h : a.size + b.size ≤ 9223372036854775807) : (binOp .add t (.string a) (.string b)).run P w = .ok (.string (a ++ b)) w := by simp [binOp, run_string_add_sum, h]
theorem below_call {X Z W : World} (h : Below Z.heap.size Z W) (h2 : Below X.heap.size X Z) : Below X.heap.size X W := h2.trans (h.mono h2.size)
theorem below_alloc {X Z : World} {o : Obj} (h2 : Below X.heap.size X Z) : Below X.heap.size X (Z.alloc o) := h2.alloc h2.size o
theorem below_drew {X Z : World} (h2 : Below X.heap.size X Z) : Below X.heap.size X Z.drew := h2.drew
theorem two_str (w : World) (s : List By) : StrsIs (w.alloc (.cells #[vs s, vs s] 9)) (some ⟨w.heap.size, 0, none⟩) [s, s] := fun _ => ⟨w.heap.size, 0, rfl, fun k hk => by
  rw [Nat.zero_add, (Blk.new w 9 #[vs s, vs s]).cell]
  match k, hk with
  | 0, _ => rfl
  | 1, _ => rfl⟩
/-- a text turned into bytes, at whatever world -/
theorem str_each (s : List By) : ∃ (cf : World → Nat) (wf : World → World), (∀ w, (convert 9 26 (.string ⟨s.toArray⟩)).run Try.prog w = .ok (.slice (some ⟨w.heap.size, 0, none⟩) s.length (cf w)) (wf w)) ∧
    (∀ w, s.length ≤ cf w) ∧ (∀ w, SrcIs (wf w) (some ⟨w.heap.size, 0, none⟩) s) ∧ ∀ w, Below w.heap.size w (wf w) := by
  have h := fun w => str_cap s w
  refine ⟨fun w => (h w).choose, fun w => (h w).choose_spec.choose, fun w => (h w).choose_spec.choose_spec.1, fun w => (h w).choose_spec.choose_spec.2.1, fun w => (h w).choose_spec.choose_spec.2.2.1, fun w => (h w).choose_spec.choose_spec.2.2.2⟩
attribute [local go_sem ↓] Go.wp_at_zero Go.wp_at_succ
def atB (l : List Nat) (n : Nat) (i : Nat) : Bool := (l.take i).contains n
theorem atB_step {l : List Nat} {n i : Nat} (hi : i < l.length) : atB l n (i + 1) = (atB l n i || (l[i] == n)) := by
  unfold atB; rw [List.take_succ_eq_append_getElem hi, List.contains_append, Bool.eq_iff_iff]; simp; exact or_congr_right eq_comm
theorem atB_all {l : List Nat} {n : Nat} (h : n ∈ l) : atB l n l.length = true := by
  unfold atB; rw [List.take_length]; simpa using h
set_option maxHeartbeats 40000000 in
set_option maxRecDepth 100000 in
theorem anywhere_walk (A B : Option Addr) (ca cb : Nat) (a m : List By) (n : By) (w : World) (hm1 : a.length ≤ maxLen) (hm2 : m.length ≤ maxLen) (hN1 : A = none → ca = 0) (hN2 : B = none → cb = 0) (hA : SrcIs w A a) (hB : SrcIs w B m) (hmost : Most w) :
    Calls Try.prog 4 #[.slice A a.length ca, .slice B m.length cb, vb n] w fun e w' => e = .returned (.bool true) ∧ Below w.heap.size w w' := by
  unfold maxLen at hm1 hm2
  have HA := Lib.hid hA; have HBm := Lib.hid hB; have HN1 := Lib.hid hN1; have HN2 := Lib.hid hN2; have HM := Lib.hid hmost; clear hA hB hN1 hN2 hmost
  by_cases h1 : a.length ≤ 100
  · have h1' : ¬ (100 : Int) < a.length := by omega
    by_cases h2 : m.length ≤ 100
    · have h2' : ¬ (100 : Int) < m.length := by omega
      go_enter Try.func4, Try.ntmps4
      go_wp2_with fail
      refine (found_once w w (Below.refl _ _)).mono ?_
      rintro e w1 ⟨rfl, hb1⟩
      have HB1 := Lib.hid hb1; clear hb1
      go_wp2_with fail
      refine (path_any n w1).mono ?_
      rintro e w2 ⟨rfl, hb2⟩
      have HB2 : Hid (Below w.heap.size w w2) := HB1.out.trans (hb2.mono HB1.out.size)
      have HPB := Lib.hid (pathN_is (sixth n))
      have HXL := Lib.hid (pathN_length (sixth n))
      generalize pathN (sixth n) = x at *
      clear hb2 HB1
      have hxl : (32 : Int) ≤ x.length := by have := HXL.out; omega
      have HTL := Lib.hid (path_take32 HPB.out)
      have HPY := Lib.hid (dash_path HPB.out)
      go_upto_region 4 with fail
      rw [ext_take]
      generalize x.take 32 = t at *
      have htl : (31 : Int) ≤ t.length := by have := HTL.out; omega
      have htl2 : t.length ≤ 32 := by have := HTL.out; omega
      clear hxl HXL HPB
      obtain ⟨c3, w3, hcv, hc3, hs3, hb3⟩ := str_cap t w2
      rw [HTL.out] at hcv
      have HB3 : Hid (Below w.heap.size w w3) := HB2.out.trans (hb3.mono HB2.out.size)
      have HS3 := Lib.hid hs3
      have HYL : Hid ((t ++ [45, 120]).take 32 = t) := dash_take HTL.out
      have hcat : (ByteArray.mk t.toArray ++ ByteArray.mk #[45, 120] : ByteArray) = ⟨(t ++ [45, 120]).toArray⟩ := cat2 t [45, 120]
      have hylen : (t ++ [45, 120]).length ≤ 34 := by have := HTL.out; rw [List.length_append]; show _ + 2 ≤ _; omega
      generalize t ++ [45, 120] = y at *
      have hsp : ∀ q, spotsB q y = spotsTo q t q.length := fun q => by unfold spotsB; rw [HPY.out, HYL.out]; rfl
      have HSP := Lib.hid hsp
      clear hs3 hb3 HB2 hsp
      generalize w2.heap.size = gs at *
      have HEQ : Hid (∀ q, q = ((a ++ t) ++ m) → a.length ∈ spotsTo q t q.length) := fun q hq => by rw [hq]; exact at_spot a t m (by rw [HTL.out]; decide)
      go_wp2_with fail
      refine (join_n A (some ⟨gs, 0, none⟩) ca c3 a.length 32 a t rfl HTL.out (by omega) HN1.out (fun h => by cases h) w3 (HA.out.below HB3.out) HS3.out).mono ?_
      rintro e w4 ⟨A4, c4, rfl, hs4, hn4, -, hb4⟩
      have HB4 : Hid (Below w.heap.size w w4) := HB3.out.trans (hb4.mono HB3.out.size)
      have HS4 := Lib.hid hs4; have HN4 := Lib.hid hn4
      have hq1 : (a ++ t).length ≤ 132 := by have := HTL.out; rw [List.length_append]; omega
      clear hs4 hn4 hb4 HB3 HS3 hcv
      generalize a ++ t = q1 at *
      go_wp2_with fail
      refine (join_n A4 B c4 cb q1.length m.length q1 m rfl rfl (by omega) HN4.out HN2.out w4 HS4.out (HBm.out.below HB4.out)).mono ?_
      rintro e w5 ⟨A5, c5, rfl, hs5, -, hl5, hb5⟩
      have HB5 : Hid (Below w.heap.size w w5) := HB4.out.trans (hb5.mono HB4.out.size)
      have HMEM := Lib.hid (HEQ.out (q1 ++ m) rfl)
      have hq2 : (q1 ++ m).length ≤ 232 := by rw [List.length_append]; omega
      have hqp : 0 < (q1 ++ m).length := by have := (mem_spots.1 HMEM.out).1; omega
      have HS5 := Lib.hid hs5
      clear hs5 hb5 HB4 HS4 HN4 HEQ
      generalize q1 ++ m = q at *
      obtain ⟨b5, o5, rfl, -⟩ := HS5.out hqp
      go_wp2_with fail
      refine (spots_any (some ⟨b5, o5, none⟩) c5 q (by omega) hl5 y w5 HS5.out).mono ?_
      rintro e w6 ⟨v6, rfl, hr6⟩
      rw [HSP.out] at hr6
      obtain ⟨A6, c6, rfl, hi6⟩ := row_ints hr6
      have HB6 : Hid (Below w.heap.size w w6) := HB5.out.trans (hr6.below.mono HB5.out.size)
      have HI6 := Lib.hid hi6; have HS6 := Lib.hid (HS5.out.below hr6.below)
      have hll : (spotsTo q t q.length).length ≤ 232 := Nat.le_trans (spotsTo_len q t q.length) hq2
      have HREF : Hid (refB q y = true) := by
        show _ = _
        unfold refB; rw [HSP.out]
        exact decide_eq_true (fun h => by have := HMEM.out; rw [h] at this; cases this)
      have HALL := Lib.hid (atB_all HMEM.out)
      generalize spotsTo q t q.length = l at *
      clear hr6 hi6 HB5 HS5
      go_wp2_with fail
      go_loop [9, 11] (fun vt vi => ∃ i : Nat, i ≤ l.length ∧ vi = .int .i64 i ∧ vt = .bool (atB l a.length i)) (fun _ vi => l.length - (intOf vi).toNat)
      case atStart => exact ⟨0, Nat.zero_le _, rfl, by unfold atB; simp⟩
      case round =>
        obtain ⟨i, hi, rfl, rfl⟩ := hrel
        by_cases hlt : i < l.length
        · have HST := Lib.hid (atB_step (n := a.length) hlt)
          obtain ⟨b6, o6, rfl, hc6⟩ := HI6.out (by omega)
          have k1 : w6.cell? ⟨b6, o6 + i, none⟩ = some (vn l[i]) := hc6 i hlt
          generalize l[i] = z at *
          clear hc6
          cases hat : atB l a.length i with
          | true =>
            have HN : Hid (atB l a.length (i + 1) = true) := by show _ = _; rw [HST.out, hat]; rfl
            clear HST hat k1
            go_wp2_with fail
            go_round
            case rel => exact ⟨i + 1, by omega, by go_num, by rw [HN.out]⟩
            case measure => simp [intOf]; omega
          | false =>
            by_cases hz : z = a.length
            · have HN : Hid (atB l a.length (i + 1) = true) := by show _ = _; rw [HST.out, hat, hz]; simp
              clear HST hat
              subst hz
              go_wp2_with fail
              go_round
              case rel => exact ⟨i + 1, by omega, by go_num, by rw [HN.out]⟩
              case measure => simp [intOf]; omega
            · have HN : Hid (atB l a.length (i + 1) = false) := by show _ = _; rw [HST.out, hat]; simp; omega
              clear HST hat
              have hz' : ¬ (z : Int) = a.length := by omega
              have hz2 : ((z : Int) == (a.length : Int)) = false := by simpa using hz'
              go_wp2_with fail
              go_round
              case rel => exact ⟨i + 1, by omega, by go_num, by rw [HN.out]⟩
              case measure => simp [intOf]; omega
        · obtain rfl : i = l.length := by omega
          rw [HALL.out]
          have HA6 := Lib.hid (HA.out.below HB6.out)
          have HM6 := Lib.hid (HM.out.below HB6.out)
          clear HI6 HALL HMEM
          have H31 : Hid ((t.take 31).length = 31) := by show _ = _; have := HTL.out; rw [List.length_take]; omega
          obtain ⟨cf, wf, hcv, hcc, hcs, hcb⟩ := str_each (t.take 31)
          rw [← ext_take, H31.out] at hcv
          rw [H31.out] at hcc
          have HCC := Lib.hid hcc; have HCB := Lib.hid hcb
          have HCS : Hid (∀ X W : World, Below (wf X).heap.size (wf X) W → SrcIs W (some ⟨X.heap.size, 0, none⟩) (t.take 31)) := fun X W h => (hcs X).below h
          have HF : Hid (∀ (W : World) (X : Nat), StrsIs W (some ⟨X, 0, none⟩) [y, y] → Below w6.heap.size w6 W → Calls Try.prog 16 #[.slice (some ⟨b5, o5, none⟩) q.length c5, .slice (some ⟨X, 0, none⟩) 2 2] W fun e w' => ∃ A' c', e = .returned (.slice A' 1 c') ∧ StrsIs w' A' [y] ∧ Below W.heap.size W w') := fun W X hs hb => by
            refine (find_any (some ⟨b5, o5, none⟩) c5 q (some ⟨X, 0, none⟩) 2 [y, y] (by simp) W hs (HS6.out.below hb) (fun h => by cases h) (fun a h => by cases h; exact ⟨_, _, rfl⟩) (by omega) hl5 (HM6.out.below hb)).mono fun e w' h => ?_
            obtain ⟨v, rfl, hr⟩ := h
            obtain ⟨hbb, A', c', rfl, hs', -⟩ := hr
            rw [find_two HREF.out] at hs' ⊢
            exact ⟨A', c', rfl, hs', hbb⟩
          have HT : Hid (∀ (W : World) (A' : Option Addr) (c' X : Nat), StrsIs W A' [y] → StrsIs W (some ⟨X, 0, none⟩) [y] → Calls Try.prog 15 #[.slice A' 1 c', .slice (some ⟨X, 0, none⟩) 1 1] W fun e w' => e = .returned (.bool true) ∧ Below W.heap.size W w') := fun W A' c' X h1 h2 => by
            refine (texts_any A' (some ⟨X, 0, none⟩) c' 1 [y] [y] (by unfold maxLen; simp) (by unfold maxLen; simp) W h1 h2).mono fun e w' h => ?_
            obtain ⟨rfl, qd, rfl⟩ := h
            exact ⟨by simp, below_drewN (Below.refl _ _) qd⟩
          have HJ : Hid (∀ (W : World) (X cc : Nat), SrcIs W A a → SrcIs W (some ⟨X, 0, none⟩) (t.take 31) → Calls Try.prog 18 #[.slice A a.length ca, .slice (some ⟨X, 0, none⟩) 31 cc] W fun e w' => ∃ A' c', e = .returned (.slice A' (a ++ t.take 31).length c') ∧ SrcIs w' A' (a ++ t.take 31) ∧ (a ++ t.take 31).length ≤ c' ∧ Below W.heap.size W w') := fun W X cc h1 h2 => by
            refine (join_n A (some ⟨X, 0, none⟩) ca cc a.length 31 a (t.take 31) rfl H31.out (by omega) HN1.out (fun h => by cases h) W h1 h2).mono fun e w' h => ?_
            obtain ⟨A', c', rfl, hs, -, hl, hb⟩ := h
            exact ⟨A', c', rfl, hs, hl, hb⟩
          have hq7 : (a ++ t.take 31).length ≤ 131 := by have := H31.out; rw [List.length_append]; omega
          generalize a ++ t.take 31 = q7 at *
          have H13 : Hid (∀ (W : World) (A' : Option Addr) (c' : Nat), q7.length ≤ c' → SrcIs W A' q7 → Calls Try.prog 13 #[.slice A' q7.length c', vs y] W fun e w' => ∃ A'' c'', e = .returned (.slice A'' (spotsB q7 y).length c'') ∧ IntsIs w' A'' (spotsB q7 y) ∧ Below W.heap.size W w') := fun W A' c' h1 h2 => by
            refine (spots_any A' c' q7 (by omega) h1 y W h2).mono fun e w' h => ?_
            obtain ⟨v, rfl, hr⟩ := h
            obtain ⟨A'', c'', rfl, hi⟩ := row_ints hr
            exact ⟨A'', c'', rfl, hi, hr.below⟩
          have H14 : Hid (∀ (W : World) (A' : Option Addr) (c' : Nat), q7.length ≤ c' → SrcIs W A' q7 → Calls Try.prog 14 #[.slice A' q7.length c', vs y] W fun e w' => ∃ A'' c'', e = .returned (.slice A'' (spotsB q7 y).length c'') ∧ IntsIs w' A'' (spotsB q7 y) ∧ Below W.heap.size W w') := fun W A' c' h1 h2 => by
            refine (rspots_any A' c' q7 (by omega) h1 y W h2).mono fun e w' h => ?_
            obtain ⟨v, rfl, hr⟩ := h
            obtain ⟨A'', c'', rfl, hi⟩ := row_ints hr
            exact ⟨A'', c'', rfl, hi, hr.below⟩
          have hl7 : (spotsB q7 y).length ≤ 131 := by rw [HSP.out]; exact Nat.le_trans (spotsTo_len q7 t q7.length) hq7
          generalize spotsB q7 y = l7 at *
          have H12 : Hid (∀ (W : World) (A' A'' : Option Addr) (c' c'' : Nat), IntsIs W A' l7 → IntsIs W A'' l7 → Calls Try.prog 12 #[.slice A' l7.length c', .slice A'' l7.length c''] W fun e w' => e = .returned (.bool true) ∧ Below W.heap.size W w') := fun W A' A'' c' c'' h1 h2 => by
            refine (ints_same A' A'' c' c'' l7 (by omega) W h1 h2).mono fun e w' h => ?_
            obtain ⟨rfl, qd, rfl⟩ := h
            exact ⟨rfl, below_drewN (Below.refl _ _) qd⟩
          clear hcc hcs hcb hl7 hq7 HREF HSP HPY HYL
          have hadd0 : ∀ W, (binOp .add 9 (.string ⟨t.toArray⟩) (.string ⟨#[45, 120]⟩)).run Try.prog W = .ok (.string ⟨y.toArray⟩) W := fun W => by
            rw [← hcat]; exact run_binadd W 9 _ _ (by show t.toArray.size + 2 ≤ _; simp; omega)
          have hadd1 : ∀ W, (Op.stringOp .add ⟨t.toArray⟩ ⟨#[45, 120]⟩).run Try.prog W = .ok (.string ⟨y.toArray⟩) W := fun W => by
            rw [← hcat]; exact run_string_add_sum W _ _ (by show t.toArray.size + 2 ≤ _; simp; omega)
          go_upto_region 11 with fail
          have G1 : Hid (Below w6.heap.size w6 (w6.alloc (.cells #[vs y, vs y] 9)).drew) := below_drew (below_alloc (Below.refl _ _))
          have F1 : Hid (StrsIs (w6.alloc (.cells #[vs y, vs y] 9)).drew (some ⟨w6.heap.size, 0, none⟩) [y, y]) := two_str w6 y
          have G2 : Hid (Below w6.heap.size w6 ((w6.alloc (.cells #[vs y, vs y] 9)).alloc (.cells #[vs y] 9)).drew) := below_drew (below_alloc (below_alloc (Below.refl _ _)))
          have F2 : Hid (StrsIs ((w6.alloc (.cells #[vs y, vs y] 9)).alloc (.cells #[vs y] 9)).drew (some ⟨w6.heap.size, 0, none⟩) [y, y]) := (two_str w6 y).below (below_drew (below_alloc (Below.refl _ _))) (two_str w6 y).lt
          have E2 : Hid (StrsIs ((w6.alloc (.cells #[vs y, vs y] 9)).alloc (.cells #[vs y] 9)).drew (some ⟨w6.heap.size + 1, 0, none⟩) [y]) := by
            have := one_str (w6.alloc (.cells #[vs y, vs y] 9)) y; rw [World.size_alloc] at this; exact this
          have G3 : Hid (Below w6.heap.size w6 ((w6.alloc (.cells #[vs y] 9)).alloc (.cells #[vs y, vs y] 9)).drew) := below_drew (below_alloc (below_alloc (Below.refl _ _)))
          have F3 : Hid (StrsIs ((w6.alloc (.cells #[vs y] 9)).alloc (.cells #[vs y, vs y] 9)).drew (some ⟨w6.heap.size + 1, 0, none⟩) [y, y]) := by
            have := two_str (w6.alloc (.cells #[vs y] 9)) y; rw [World.size_alloc] at this; exact this
          have E3 : Hid (StrsIs ((w6.alloc (.cells #[vs y] 9)).alloc (.cells #[vs y, vs y] 9)).drew (some ⟨w6.heap.size, 0, none⟩) [y]) := (one_str w6 y).below (below_drew (below_alloc (Below.refl _ _))) (one_str w6 y).lt
          go_region_held (fun _ => True) (first | exact True.intro)
            (first
              | (go_at_call 16
                 first
                   | ((with_reducible refine (HF.out _ _ F1.out G1.out).mono ?_)
                      rintro e w7 ⟨A7, c7, rfl, hs7, hb7⟩
                      have HG7 := Lib.hid (below_call hb7 G1.out)
                      have HS7 : Hid (StrsIs (w7.alloc (.cells #[vs y] 9)) A7 [y]) := hs7.below (below_alloc (Below.refl _ _)) hs7.lt
                      have HE7 := Lib.hid (one_str w7 y)
                      have HG8 : Hid (Below w6.heap.size w6 (w7.alloc (.cells #[vs y] 9))) := below_alloc HG7.out
                      clear hs7 hb7)
                   | ((with_reducible refine (HF.out _ _ F2.out G2.out).mono ?_)
                      rintro e w7 ⟨A7, c7, rfl, hs7, hb7⟩
                      have HG8 := Lib.hid (below_call hb7 G2.out)
                      have HS7 := Lib.hid hs7
                      have HE7 := Lib.hid (E2.out.below hb7 E2.out.lt)
                      clear hs7 hb7)
                   | ((with_reducible refine (HF.out _ _ F3.out G3.out).mono ?_)
                      rintro e w7 ⟨A7, c7, rfl, hs7, hb7⟩
                      have HG8 := Lib.hid (below_call hb7 G3.out)
                      have HS7 := Lib.hid hs7
                      have HE7 := Lib.hid (E3.out.below hb7 E3.out.lt)
                      clear hs7 hb7))
              | (go_at_call 15
                 ((with_reducible refine (HT.out _ _ _ _ HS7.out HE7.out).mono ?_)
                  rintro e w8 ⟨rfl, hb8⟩
                  have HB8 : Hid (Below w.heap.size w w8) := HB6.out.trans ((below_call hb8 HG8.out).mono HB6.out.size)
                  have HA8 := Lib.hid (HA.out.below HB8.out)
                  clear hb8))
              | (go_at_call 18
                 ((with_reducible refine (HJ.out _ _ _ (HA8.out.below (by repeat (first | exact Below.refl _ _ | assumption | refine below_drew ?_ | refine below_alloc ?_ | refine below_call (HCB.out _) ?_ | refine below_call (by assumption) ?_))) (HCS.out _ _ (by repeat (first | exact Below.refl _ _ | assumption | refine below_drew ?_ | refine below_alloc ?_ | refine below_call (HCB.out _) ?_ | refine below_call (by assumption) ?_)))).mono ?_)
                  rintro e w9 ⟨A9, c9, rfl, hs9, hl9, hb9⟩))
              | (go_at_call 13
                 ((with_reducible refine (H13.out _ _ _ hl9 (hs9.below (by repeat (first | exact Below.refl _ _ | assumption | refine below_drew ?_ | refine below_alloc ?_ | refine below_call (HCB.out _) ?_ | refine below_call (by assumption) ?_)))).mono ?_)
                  rintro e w10 ⟨A10, c10, rfl, hi10, hb10⟩))
              | (go_at_call 14
                 ((with_reducible refine (H14.out _ _ _ hl9 (hs9.below (by repeat (first | exact Below.refl _ _ | assumption | refine below_drew ?_ | refine below_alloc ?_ | refine below_call (HCB.out _) ?_ | refine below_call (by assumption) ?_)))).mono ?_)
                  rintro e w11 ⟨A11, c11, rfl, hi11, hb11⟩))
              | (go_at_call 12
                 ((with_reducible refine (H12.out _ _ _ _ _ (hi10.below (by repeat (first | exact Below.refl _ _ | assumption | refine below_drew ?_ | refine below_alloc ?_ | refine below_call (HCB.out _) ?_ | refine below_call (by assumption) ?_))) (hi11.below (by repeat (first | exact Below.refl _ _ | assumption | refine below_drew ?_ | refine below_alloc ?_ | refine below_call (HCB.out _) ?_ | refine below_call (by assumption) ?_)))).mono ?_)
                  rintro e w12 ⟨rfl, hb12⟩
                  have HB12 : Hid (Below w.heap.size w w12) := HB8.out.trans (Below.mono (by repeat (first | exact Below.refl _ _ | assumption | refine below_drew ?_ | refine below_alloc ?_ | refine below_call (HCB.out _) ?_ | refine below_call (by assumption) ?_)) HB8.out.size))))
          all_goals
            go_wp2_with fail
            go_ret
            exact ⟨rfl, HB12.out⟩
    · have h2' : (100 : Int) < m.length := by omega
      go_enter Try.func4, Try.ntmps4
      go_wp2_with fail
      refine (found_once w w (Below.refl _ _)).mono ?_
      rintro e w1 ⟨rfl, hb1⟩
      have HB1 := Lib.hid hb1; clear hb1
      go_wp2_with fail
      refine (found_once w w1 HB1.out).mono ?_
      rintro e w2 ⟨rfl, hb2⟩
      have HB2 := Lib.hid hb2; clear hb2
      go_wp2_with fail
      go_ret
      exact ⟨rfl, HB2.out⟩
  · have h1' : (100 : Int) < a.length := by omega
    go_enter Try.func4, Try.ntmps4
    go_wp2_with fail
    refine (found_once w w (Below.refl _ _)).mono ?_
    rintro e w1 ⟨rfl, hb1⟩
    have HB1 := Lib.hid hb1; clear hb1
    go_wp2_with fail
    refine (found_once w w1 HB1.out).mono ?_
    rintro e w2 ⟨rfl, hb2⟩
    have HB2 := Lib.hid hb2; clear hb2
    go_wp2_with fail
    go_ret
    exact ⟨rfl, HB2.out⟩
end Go.Proofs.Ythocaimiofehkaa
