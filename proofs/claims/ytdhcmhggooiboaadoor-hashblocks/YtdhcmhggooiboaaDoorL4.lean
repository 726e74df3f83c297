/- The walk of the law HashOwn. -/
import Derived.Test.YtdhcmhggooiboaaDoorW9
namespace Go.Proofs.YtdhcmhggooiboaaDoor
open Go.RowKit HashMath

/-- a slice that a call has made -/
theorem own_src {w : World} {base : Nat} {v : Value} {n : Nat} {l : List By} (h : w.ownsRow base 5 1 v n (l.map vb)) (hl : l.length = n) :
    ∃ A c, v = .slice A l.length c ∧ SrcIs w A l ∧ (A = none → c = 0) ∧ l.length ≤ c ∧ ∀ a, A = some a → base ≤ a.block ∧ a.block < w.heap.size := by
  rcases h.2 with ⟨hv, h0⟩ | ⟨g, cap, cur, hv, hg, hc, hn, _, hs, ht⟩
  · have : l = [] := List.eq_nil_of_length_eq_zero (by omega)
    subst this
    exact ⟨none, 0, hv, fun h => absurd h (by simp), fun _ => rfl, by simp, fun a ha => by cases ha⟩
  · rw [Nat.mul_one] at ht
    have hb : Blk w g 5 (l.map vb ++ cur.toList.drop n) := by rw [← ht, List.take_append_drop]; exact hc
    refine ⟨some ⟨g, 0, none⟩, cap, by rw [hv, hl], fun _ => ⟨g, 0, rfl, hb.bytes_app⟩, (fun h => by cases h), by omega, fun a ha => ?_⟩
    cases ha
    exact ⟨hg, hb.lt⟩

set_option maxHeartbeats 400000 in
theorem ownLaw_long (A : Option Addr) (n cap : Nat) (b : By) (w : World) (ht : Tabs w) (h : 200 < n) (hm : n ≤ maxLen) :
    Calls Tryd.prog 6 #[.slice A n cap, vb b] w fun e w' => e = .returned (.bool true) ∧ Below w.heap.size w w' := by
  unfold maxLen at hm
  have h1 : (decide ((200 : Int) < n)) = true := decide_eq_true (by omega)
  go_enter Tryd.func6, Tryd.ntmps6
  go_wp2_with fail
  refine (bare_any w ht).mono ?_
  rintro e w1 ⟨rfl, hb1⟩
  go_wp2_with fail
  refine (bare_any w1 (ht.below hb1 ht.size)).mono ?_
  rintro e w2 ⟨rfl, hb2⟩
  go_wp2
  go_ret
  exact ⟨rfl, hb1.trans (hb2.mono hb1.size)⟩

/-- what stands while the sum is written over -/
structure OverRel (w : World) (g : Nat) (wr : World) (k : Nat) : Prop where
  below : Below g w wr
  other : ∀ c, c ≠ g → wr.heap[c]? = w.heap[c]?
  blk : ∃ cs, Blk wr g 5 cs ∧ 32 ≤ cs.length
  le : k ≤ 32
theorem SrcIs.other {w wr : World} {A : Option Addr} {l : List By} {g : Nat} (h : SrcIs w A l) (ho : ∀ c, c ≠ g → wr.heap[c]? = w.heap[c]?) (hne : ∀ a, A = some a → a.block ≠ g) : SrcIs wr A l := fun h0 => by
  obtain ⟨b, o, rfl, hc⟩ := h h0
  refine ⟨b, o, rfl, fun k hk => ?_⟩
  rw [World.cell?_of_block (w := w) (a := ⟨b, o + k, none⟩) (ho b (hne _ rfl))]
  exact hc k hk
theorem SrcIs.lt {w : World} {b o : Nat} {l : List By} (h : SrcIs w (some ⟨b, o, none⟩) l) (h0 : 0 < l.length) : b < w.heap.size := by
  obtain ⟨b', o', he, hc⟩ := h h0
  cases he
  exact hc.lt h0

set_option maxHeartbeats 1000000 in
set_option maxRecDepth 100000 in
theorem ownLaw_walk (A : Option Addr) (cap : Nat) (p : List By) (b : By) (w : World) (ht : Tabs w) (hp : p.length ≤ 200) (hcap : p.length ≤ cap) (hN : A = none → cap = 0) (hA : SrcIs w A p) :
    Calls Tryd.prog 6 #[.slice A p.length cap, vb b] w fun e w' => e = .returned (.bool true) ∧ Below w.heap.size w w' := by
  have h1 : (decide ((200 : Int) < p.length)) = false := decide_eq_false (by omega)
  have HA := Lib.hid hA; have HT := Lib.hid ht; have HN := Lib.hid hN
  clear hA ht hN
  go_enter Tryd.func6, Tryd.ntmps6
  go_wp2_with fail
  refine (bare_any w HT.out).mono ?_
  rintro e w1 ⟨rfl, hb1⟩
  have HT1 := Lib.hid (HT.out.below hb1 HT.out.size)
  have HA1 := Lib.hid (HA.out.below hb1)
  have HB1 := Lib.hid hb1
  clear hb1 HA
  go_wp2_with fail
  refine (join_any A none cap 0 p [] (by simp; omega) HN.out (fun _ => rfl) w1 HA1.out (fun h => absurd h (by simp))).mono ?_
  rintro e w2 ⟨v5, rfl, ho5, hb2⟩
  obtain ⟨A5, c5, rfl, hs5, hn5, hc5, hw5⟩ := own_src (l := p) (n := p.length) (by simpa using ho5) rfl
  have HT2 := Lib.hid (HT1.out.below hb2 HT1.out.size)
  have HA2 := Lib.hid (HA1.out.below hb2)
  have HB2 : Hid (Below w.heap.size w w2) := HB1.out.trans (hb2.mono HB1.out.size)
  have HS5 := Lib.hid hs5
  clear hb2 ho5 hs5 hn5 HA1 HB1 hw5
  go_wp2_with fail
  refine (sum_new A cap p (by omega) hcap w2 HT2.out HA2.out).mono ?_
  rintro e w3 ⟨g, c, tl, rfl, hg, hblk, hc, hb3⟩
  have HSL := Lib.hid (sum_length p)
  rw [HSL.out] at hc ⊢
  have hw23 := hb3.size
  have HT3 := Lib.hid (HT2.out.below hb3 HT2.out.size)
  have HA3 := Lib.hid (HA2.out.below hb3)
  have HS53 := Lib.hid (HS5.out.below hb3)
  have HB3 := Lib.hid hb3
  have HX := Lib.hid hblk
  have hg3 := HX.out.lt
  clear hb3 hblk
  go_wp2_with fail
  refine (by have := join_any (some ⟨g, 0, none⟩) none c 0 (sum p) [] (by rw [HSL.out]; simp) (fun h => by cases h) (fun _ => rfl) w3 (fun _ => ⟨g, 0, rfl, HX.out.bytes_app⟩) (fun h => absurd h (by simp)); rw [HSL.out] at this; exact this : Calls Tryd.prog 15 #[.slice (some ⟨g, 0, none⟩) 32 c, .slice none 0 0] w3 _).mono ?_
  rintro e w4 ⟨v7, rfl, ho7, hb4⟩
  obtain ⟨A7, c7, rfl, hs7, hn7, hc7, hw7⟩ := own_src (l := sum p) (n := 32) (by simpa using ho7) HSL.out
  have HS7 := Lib.hid hs7
  have HW7 := Lib.hid hw7
  have HX4 := Lib.hid (HX.out.below hb4 hg3)
  have HB4 : Hid (Below w2.heap.size w2 w4) := HB3.out.trans (hb4.mono HB3.out.size)
  rw [HSL.out] at hc7 ⊢
  clear ho7 hs7 hn7 hw7 hb4
  have HO : Hid (OverRel w4 g w4 0) := ⟨Below.refl _ _, fun _ _ => rfl, ⟨_, HX4.out, by have := HSL.out; simp; omega⟩, by omega⟩
  go_wp2_with fail
  go_loopw [8] (fun vi wr => ∃ k : Nat, k ≤ 32 ∧ vi = .int .i64 k ∧ Hid (OverRel w4 g wr k)) (fun vi _ => 32 - (intOf vi).toNat)
  case atStart => exact ⟨0, Nat.zero_le _, rfl, HO.out⟩
  case round =>
    clear HO
    obtain ⟨k, hk, rfl, HR⟩ := hrel
    rename World => W0
    by_cases hlt : k < 32
    · obtain ⟨cs, hcs, hcl⟩ := HR.out.blk
      have c0 : W0.cell? ⟨g, k, none⟩ = some (cs[k]'(by omega)) := by rw [hcs.cell, List.getElem?_eq_getElem (by omega)]
      have f0 := hcs.frozen k
      have HS : Hid (OverRel w4 g (W0.setCell ⟨g, k, none⟩ (vb b)) (k + 1)) :=
        ⟨HR.out.below.setCell (Nat.le_refl _) _, fun d hd => by rw [heap_setCell_other W0 ⟨g, k, none⟩ d _ hd]; exact HR.out.other d hd, ⟨_, hcs.set k (vb b), by simpa using hcl⟩, by omega⟩
      generalize cs[k]'(by omega) = old at *
      clear hcs hcl HR
      go_wp2_with fail
      go_roundw
      case rel => exact ⟨k + 1, by omega, by go_num, HS.out⟩
      case measure => simp [intOf]; omega
    · have HBr : Hid (Below w2.heap.size w2 W0) := HB4.out.trans (HR.out.below.mono hg)
      have HTr := Lib.hid (HT2.out.below HBr.out HT2.out.size)
      have HAr := Lib.hid (HA2.out.below HBr.out)
      have HS5r := Lib.hid (HS5.out.below HBr.out)
      have HS7r : Hid (SrcIs W0 A7 (sum p)) := HS7.out.other HR.out.other (fun a ha => by have := (HW7.out a ha).1; omega)
      have HBw : Hid (Below w.heap.size w W0) := HB2.out.trans (HBr.out.mono HB2.out.size)
      clear HR HS5 HS7 HX4 HX HA2 HA3 HS53 HB3 HB4 HT3
      go_wp2_with fail
      refine (bytes_same A A5 cap c5 p (by omega) W0 HAr.out HS5r.out).mono ?_
      rintro e w5 ⟨rfl, q, rfl⟩
      go_wp2_with fail
      refine (sum_new A cap p (by omega) hcap (W0.drewN q) ⟨HTr.out.start, HTr.out.rounds⟩ HAr.out).mono ?_
      rintro e w6 ⟨g6, c6, tl6, rfl, hg6, hblk6, hc6, hb6⟩
      have HB6 : Hid (Below W0.heap.size W0 w6) := (below_drewN (Below.refl _ _) q).trans hb6
      have HX6 := Lib.hid hblk6
      clear hb6 hblk6
      go_wp2_with fail
      refine (by have := bytes_same (some ⟨g6, 0, none⟩) A7 c6 c7 (sum p) (by rw [HSL.out]; omega) w6 (fun _ => ⟨g6, 0, rfl, HX6.out.bytes_app⟩) (HS7r.out.below HB6.out); rw [HSL.out] at this ⊢; exact this : Calls Tryd.prog 10 #[.slice (some ⟨g6, 0, none⟩) (sum p).length c6, .slice A7 32 c7] w6 _).mono ?_
      rintro e w7 ⟨rfl, q2, rfl⟩
      go_wp2
      go_ret
      exact ⟨rfl, below_drewN (HBw.out.trans (HB6.out.mono HBw.out.size)) q2⟩
theorem own_all (A : Option Addr) (cap : Nat) (p : List By) (b : By) (w : World) (ht : Tabs w) (hm : p.length ≤ maxLen) (hcap : p.length ≤ cap) (hN : A = none → cap = 0) (hA : SrcIs w A p) :
    Calls Tryd.prog 6 #[.slice A p.length cap, vb b] w fun e w' => e = .returned (.bool true) ∧ Below w.heap.size w w' := by
  by_cases h : 200 < p.length
  · exact ownLaw_long A p.length cap b w ht h hm
  · exact ownLaw_walk A cap p b w ht (by omega) hcap hN hA
end Go.Proofs.YtdhcmhggooiboaaDoor
