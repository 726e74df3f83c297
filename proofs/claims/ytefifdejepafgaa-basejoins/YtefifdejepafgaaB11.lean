/- The walk of BaseJoins. -/
import Derived.Test.YtefifdejepafgaaB7
import Derived.Deep.DeepCutAuto
import Derived.Deep.RegionHeld3
import Derived.Laws.Concat
namespace Go.Proofs.Ytefifdejepafgaa
open Go.RowKit BaseMath

theorem text_n (A : Option Addr) (cap n : Nat) (p : List By) (hn : p.length = n) (hp : n ≤ 100000) (w : World) (hA : SrcIs w A p) :
    Calls Try.prog 16 #[.slice A n cap] w fun e w' => e = .returned (.string ⟨(text p).toArray⟩) ∧ Below w.heap.size w w' := by
  subst hn; exact text_any A cap p hp w hA
theorem join_n (A B : Option Addr) (ca cb n m : Nat) (a b : List By) (hn : a.length = n) (hm : b.length = m) (hl : n + m ≤ 1000000) (hNA : A = none → ca = 0) (hNB : B = none → cb = 0) (w : World) (hA : SrcIs w A a) (hB : SrcIs w B b) :
    Calls Try.prog 22 #[.slice A n ca, .slice B m cb] w fun e w' => ∃ v, e = .returned v ∧ RowRel w 5 ((a ++ b).map vb) v w' := by
  subst hn hm; exact join_any A B ca cb a b hl hNA hNB w hA hB
theorem SrcIs.take {w : World} {A : Option Addr} {p : List By} (h : SrcIs w A p) (m : Nat) : SrcIs w A (p.take m) := fun h0 => by
  obtain ⟨b, o, rfl, hb⟩ := h (by simp at h0; omega)
  exact ⟨b, o, rfl, hb.take m⟩
set_option maxHeartbeats 1000000 in
theorem joins_short (A B : Option Addr) (n ca m cb : Nat) (w : World) (h : 100 < n ∨ 100 < m) (hm : n ≤ maxLen) (hm2 : m ≤ maxLen) :
    Calls Try.prog 8 #[.slice A n ca, .slice B m cb] w fun e w' => e = .returned (.bool true) ∧ Below w.heap.size w w' := by
  unfold maxLen at hm hm2
  have key : ((decide ((100 : Int) < n)) = true) ∨ ((decide ((100 : Int) < n)) = false ∧ (decide ((100 : Int) < m)) = true) := by
    by_cases h1 : 100 < n
    · exact .inl (decide_eq_true (by omega))
    · exact .inr ⟨decide_eq_false (by omega), decide_eq_true (by omega)⟩
  clear h
  rcases key with h1 | ⟨h1, h2⟩
  all_goals
    go_enter Try.func8, Try.ntmps8
    go_wp2_with fail
    refine (two_any w).mono ?_
    rintro e w1 ⟨rfl, hb1⟩
    have HB1 := Lib.hid hb1; clear hb1
    go_wp2_with fail
    refine (two_any w1).mono ?_
    rintro e w2 ⟨rfl, hb2⟩
    have HB2 : Hid (Below w.heap.size w w2) := HB1.out.trans (hb2.mono HB1.out.size)
    clear hb2
    go_wp2
    go_ret
    exact ⟨rfl, HB2.out⟩
set_option maxHeartbeats 1000000 in
theorem joins_walk (A B : Option Addr) (ca cb : Nat) (p q : List By) (hp : p.length ≤ 100) (hq : q.length ≤ 100) (w : World) (hca : p.length ≤ ca) (hNA : A = none → ca = 0) (hNB : B = none → cb = 0) (hA : SrcIs w A p) (hB : SrcIs w B q) :
    Calls Try.prog 8 #[.slice A p.length ca, .slice B q.length cb] w fun e w' => e = .returned (.bool true) ∧ Below w.heap.size w w' := by
  have h1 : (decide ((100 : Int) < p.length)) = false := decide_eq_false (by omega)
  have h2 : (decide ((100 : Int) < q.length)) = false := decide_eq_false (by omega)
  obtain ⟨m, hm⟩ : ∃ m, m = p.length / 5 * 5 := ⟨_, rfl⟩
  have hm1 : (p.length : Int) / 5 * 5 = (m : Nat) := by omega
  have hm2 : m ≤ p.length := by omega
  have hm3 : (0 : Int) ≤ (m : Int) := by omega
  have hm4 : (m : Int) ≤ (ca : Int) := by omega
  have HM : Hid ((p.take m).length = m) := by show _ = _; simp; omega
  have HJ := Lib.hid (text_join (p.take m) q (by rw [HM.out]; omega))
  have HA := Lib.hid (SrcIs.take hA m); have HB := Lib.hid hB; have HNB := Lib.hid hNB
  have HT1 := Lib.hid (text_length (p.take m)); have HT2 := Lib.hid (text_length q)
  have hl1 := len_fit m; have hl2 := len_fit q.length
  rw [HM.out] at HT1
  obtain ⟨t1, HE1⟩ : ∃ t, Hid (text (p.take m) = t) := ⟨_, rfl⟩
  obtain ⟨t2, HE2⟩ : ∃ t, Hid (text q = t) := ⟨_, rfl⟩
  rw [HE1.out] at HJ HT1
  rw [HE2.out] at HJ HT2
  have ht1 : (t1.length : Int) ≤ 8388608 := by rw [HT1.out]; omega
  have ht2 : (t2.length : Int) ≤ 8388608 := by rw [HT2.out]; omega
  obtain ⟨nj, HNJ⟩ : ∃ n, Hid ((p.take m ++ q).length = n) := ⟨_, rfl⟩
  have hnj : nj ≤ 1000 := by rw [← HNJ.out, List.length_append, HM.out]; omega
  have HC1 := Lib.hid (fun w hA hB => join_n A B ca cb m q.length (p.take m) q HM.out rfl (by omega) hNA hNB w hA hB)
  have HC2 := Lib.hid (fun A1 c1 w hS => text_n A1 c1 nj (p.take m ++ q) HNJ.out (by omega) w hS)
  have HC3 := Lib.hid (fun w hS => text_n A ca m (p.take m) HM.out (by omega) w hS)
  have HC4 := Lib.hid (fun w hS => text_n B cb q.length q rfl (by omega) w hS)
  rw [HJ.out] at HC2
  rw [HE1.out] at HC3
  rw [HE2.out] at HC4
  have hadd : ∀ w, (Op.stringOp .add ⟨t1.toArray⟩ ⟨t2.toArray⟩).run Try.prog w = .ok (.string ⟨(t1 ++ t2).toArray⟩) w := fun w => run_string_add_lists w t1 t2 ht1 ht2
  clear hA hB hNB hNA hm hl1 hl2 HT1 HT2
  go_enter Try.func8, Try.ntmps8
  go_wp2_with fail
  refine (two_any w).mono ?_
  rintro e w1 ⟨rfl, hb1⟩
  have HA1 := Lib.hid (HA.out.below hb1)
  have HB1 := Lib.hid (HB.out.below hb1)
  have HW1 := Lib.hid hb1
  clear hb1 HA HB
  go_wp2_with fail
  replace HA1 : Hid (SrcIs w1.drew A (p.take m)) := HA1.out
  replace HB1 : Hid (SrcIs w1.drew B q) := HB1.out
  replace HW1 : Hid (Below w.heap.size w w1.drew) := HW1.out.drew
  go_region_held3 (fun _ => True) (first | exact True.intro)
    (first
      | (go_at_call 22
         refine (HC1.out _ HA1.out HB1.out).mono ?_
         rintro e x1 ⟨v1, rfl, hr1⟩
         have HA2 := Lib.hid (HA1.out.below hr1.below)
         have HB2 := Lib.hid (HB1.out.below hr1.below)
         have HW2 : Hid (Below w.heap.size w x1) := HW1.out.trans (hr1.below.mono HW1.out.size)
         obtain ⟨A1, c1, hv1, hs1, -, -, -⟩ := hr1.src
         rw [HNJ.out] at hv1
         subst hv1
         have HS1 := Lib.hid hs1
         clear hs1 hr1)
      | (go_at_call 16
         first
         | (with_reducible refine (HC2.out A1 c1 _ HS1.out).mono ?_
            rintro e x2 ⟨rfl, hb2⟩
            have HA3 := Lib.hid (HA2.out.below hb2)
            have HB3 := Lib.hid (HB2.out.below hb2)
            have HW3 : Hid (Below w.heap.size w x2) := HW2.out.trans (hb2.mono HW2.out.size)
            clear hb2)
         | (with_reducible refine (HC3.out _ HA3.out).mono ?_
            rintro e x3 ⟨rfl, hb3⟩
            have HB4 := Lib.hid (HB3.out.below hb3)
            have HW4 : Hid (Below w.heap.size w x3) := HW3.out.trans (hb3.mono HW3.out.size)
            clear hb3)
         | (with_reducible refine (HC4.out _ HB4.out).mono ?_
            rintro e x4 ⟨rfl, hb4⟩
            have HW5 : Hid (Below w.heap.size w x4) := HW4.out.trans (hb4.mono HW4.out.size)
            clear hb4)))
  go_wp2_with fail
  go_ret
  exact ⟨rfl, HW5.out⟩
theorem joins_all (A B : Option Addr) (ca cb : Nat) (p q : List By) (w : World) (hm : p.length ≤ maxLen) (hm2 : q.length ≤ maxLen) (hca : p.length ≤ ca) (hNA : A = none → ca = 0) (hNB : B = none → cb = 0) (hA : SrcIs w A p) (hB : SrcIs w B q) :
    Calls Try.prog 8 #[.slice A p.length ca, .slice B q.length cb] w fun e w' => e = .returned (.bool true) ∧ Below w.heap.size w w' := by
  by_cases h : 100 < p.length ∨ 100 < q.length
  · exact joins_short A B p.length ca q.length cb w h hm hm2
  · exact joins_walk A B ca cb p q (by omega) (by omega) w hca hNA hNB hA hB
end Go.Proofs.Ytefifdejepafgaa
