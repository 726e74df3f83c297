/- The walk of the law HashShort. -/
import Derived.Test.YtdhcmhggooiboaaDoorW9
namespace Go.Proofs.YtdhcmhggooiboaaDoor
open Go.RowKit HashMath

theorem short_getD (p : List By) (k : Nat) (h : k < 20) : (short p).getD k 0 = if k < 12 then (sum p).getD k 0 ^^^ (sum p).getD (k + 20) 0 else (sum p).getD k 0 := by
  unfold short
  rw [List.getD_eq_getElem?_getD, List.getElem?_map, List.getElem?_range h]; rfl

set_option maxHeartbeats 400000 in
theorem shortLaw_long (A : Option Addr) (n cap : Nat) (w : World) (ht : Tabs w) (h : 200 < n) (hm : n ≤ maxLen) :
    Calls Tryd.prog 5 #[.slice A n cap] w fun e w' => e = .returned (.bool true) ∧ Below w.heap.size w w' := by
  unfold maxLen at hm
  have h1 : (decide ((200 : Int) < n)) = true := decide_eq_true (by omega)
  go_enter Tryd.func5, Tryd.ntmps5
  go_wp2_with fail
  refine (bare_any w ht).mono ?_
  rintro e w1 ⟨rfl, hb1⟩
  go_wp2_with fail
  refine (bare_any w1 (ht.below hb1 ht.size)).mono ?_
  rintro e w2 ⟨rfl, hb2⟩
  go_wp2
  go_ret
  exact ⟨rfl, hb1.trans (hb2.mono hb1.size)⟩

set_option maxHeartbeats 1000000 in
set_option maxRecDepth 100000 in
theorem shortLaw_walk (A : Option Addr) (cap : Nat) (p : List By) (w : World) (ht : Tabs w) (hp : p.length ≤ 200) (hcap : p.length ≤ cap) (hA : SrcIs w A p) :
    Calls Tryd.prog 5 #[.slice A p.length cap] w fun e w' => e = .returned (.bool true) ∧ Below w.heap.size w w' := by
  have h1 : (decide ((200 : Int) < p.length)) = false := decide_eq_false (by omega)
  have HA := Lib.hid hA; have HT := Lib.hid ht
  clear hA ht
  go_enter Tryd.func5, Tryd.ntmps5
  go_wp2_with fail
  refine (bare_any w HT.out).mono ?_
  rintro e w1 ⟨rfl, hb1⟩
  have HT1 := Lib.hid (HT.out.below hb1 HT.out.size)
  have HA1 := Lib.hid (HA.out.below hb1)
  have HB1 := Lib.hid hb1
  clear hb1 HA
  go_wp2_with fail
  refine (sum_new A cap p (by omega) hcap w1 HT1.out HA1.out).mono ?_
  rintro e w2 ⟨g, c, tl, rfl, hg, hblk, hc, hb2⟩
  rw [sum_length] at hc ⊢
  have HT2 := Lib.hid (HT1.out.below hb2 HT1.out.size)
  have HA2 := Lib.hid (HA1.out.below hb2)
  have HB2 : Hid (Below w.heap.size w w2) := HB1.out.trans (hb2.mono HB1.out.size)
  have HS := Lib.hid hblk
  clear hb2 hblk HA1 HB1
  go_wp2_with fail
  refine (short_any A cap p (by omega) hcap w2 HT2.out HA2.out).mono ?_
  rintro e w3 ⟨g2, c2, tl2, rfl, hg2, hblk, hc2, hb3⟩
  rw [short_length] at hc2 ⊢
  have HB3 : Hid (Below w.heap.size w w3) := HB2.out.trans (hb3.mono HB2.out.size)
  have HS3 := Lib.hid (HS.out.below hb3 HS.out.lt)
  have HF := Lib.hid hblk
  clear hb3 hblk HS HB2 HA2
  go_wp2_with fail
  go_loop [5] (fun vi => ∃ k : Nat, k ≤ 20 ∧ vi = .int .i64 k) (fun vi => 20 - (intOf vi).toNat)
  case atStart => exact ⟨0, Nat.zero_le _, rfl⟩
  case round =>
    obtain ⟨k, hk, rfl⟩ := hrel
    by_cases hlt : k < 20
    · have c0 : w3.cell? ⟨g, k, none⟩ = some (vb ((sum p).getD k 0)) := by
        have := HS3.out.bytes_app.getD k (by rw [sum_length]; omega)
        rwa [Nat.zero_add] at this
      have c1 : w3.cell? ⟨g, k + 20, none⟩ = (if k < 12 then some (vb ((sum p).getD (k + 20) 0)) else w3.cell? ⟨g, k + 20, none⟩) := by
        by_cases h12 : k < 12
        · rw [if_pos h12]
          have := HS3.out.bytes_app.getD (k + 20) (by rw [sum_length]; omega)
          rwa [Nat.zero_add] at this
        · rw [if_neg h12]
      have c2 : w3.cell? ⟨g2, k, none⟩ = some (vb ((short p).getD k 0)) := by
        have := HF.out.bytes_app.getD k (by rw [short_length]; omega)
        rwa [Nat.zero_add] at this
      rw [short_getD p k hlt] at c2
      by_cases h12 : k < 12
      · rw [if_pos h12] at c1 c2
        generalize (sum p).getD k 0 = x at *
        generalize (sum p).getD (k + 20) 0 = y at *
        go_wp2_with fail
        go_round
        case rel => exact ⟨k + 1, by omega, by go_num⟩
        case measure => simp [intOf]; omega
      · clear c1
        rw [if_neg h12] at c2
        generalize (sum p).getD k 0 = x at *
        go_wp2_with fail
        go_round
        case rel => exact ⟨k + 1, by omega, by go_num⟩
        case measure => simp [intOf]; omega
    · obtain rfl : k = 20 := by omega
      go_wp2
      go_ret
      exact ⟨rfl, HB3.out⟩
theorem short_all (A : Option Addr) (cap : Nat) (p : List By) (w : World) (ht : Tabs w) (hm : p.length ≤ maxLen) (hcap : p.length ≤ cap) (_ : A = none → cap = 0) (hA : SrcIs w A p) :
    Calls Tryd.prog 5 #[.slice A p.length cap] w fun e w' => e = .returned (.bool true) ∧ Below w.heap.size w w' := by
  by_cases h : 200 < p.length
  · exact shortLaw_long A p.length cap w ht h hm
  · exact shortLaw_walk A cap p w ht (by omega) hcap hA
end Go.Proofs.YtdhcmhggooiboaaDoor
