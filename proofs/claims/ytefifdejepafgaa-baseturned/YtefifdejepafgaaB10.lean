/- The walk of BaseTurned. -/
import Derived.Test.YtefifdejepafgaaB7
import Derived.Deep.DeepCutAuto
namespace Go.Proofs.Ytefifdejepafgaa
open Go.RowKit BaseMath

theorem xor_ne (x t : By) (h : t ≠ 0) : x ^^^ t ≠ x := by
  intro e
  apply h
  have : x ^^^ (x ^^^ t) = x ^^^ x := by rw [e]
  rw [← UInt8.xor_assoc, UInt8.xor_self, UInt8.zero_xor] at this
  exact this
theorem u8_xor_by (x t : By) : bits .xor .u8 (x.toNat : Int) (t.toNat : Int) = ((x ^^^ t).toNat : Int) := by
  rw [u8_xor_nat _ _ x.toNat_lt t.toNat_lt, UInt8.toNat_xor]
theorem set_ne (p : List By) (i : Nat) (hi : i < p.length) (y : By) (h : y ≠ p[i]) : p.set i y ≠ p := by
  intro e
  have : (p.set i y)[i]'(by simpa using hi) = p[i] := by simp [e]
  rw [List.getElem_set_self] at this
  exact h this
set_option maxHeartbeats 1000000 in
theorem turned_short (A : Option Addr) (n cap a : Nat) (t : By) (w : World) (h : 100 < n ∨ n = 0 ∨ t = 0) (hm : n ≤ maxLen) :
    Calls Try.prog 6 #[.slice A n cap, .int .u16 a, vb t] w fun e w' => e = .returned (.bool true) ∧ Below w.heap.size w w' := by
  unfold maxLen at hm
  have key : ((decide ((100 : Int) < n)) = true) ∨ ((decide ((100 : Int) < n)) = false ∧ n = 0) ∨ ((decide ((100 : Int) < n)) = false ∧ ((n : Int) == 0) = false ∧ t = 0) := by
    by_cases h1 : 100 < n
    · exact .inl (decide_eq_true (by omega))
    · by_cases h2 : n = 0
      · exact .inr (.inl ⟨decide_eq_false (by omega), h2⟩)
      · exact .inr (.inr ⟨decide_eq_false (by omega), by rw [beq_eq_false_iff_ne]; omega, by rcases h with h | h | h; exact absurd h h1; exact absurd h h2; exact h⟩)
  clear h
  rcases key with h1 | ⟨h1, rfl⟩ | ⟨h1, h2, rfl⟩
  all_goals
    go_enter Try.func6, Try.ntmps6
    go_wp2_with fail
    refine (two_any w).mono ?_
    rintro e w1 ⟨rfl, hb1⟩
    have HB1 := Lib.hid hb1; clear hb1
    go_wp2_with fail
    refine (two_any w1).mono ?_
    rintro e w2 ⟨rfl, hb2⟩
    have HB2 : Hid (Below w.heap.size w w2) := HB1.out.trans (hb2.mono HB1.out.size)
    clear hb2
    go_wp2
    go_ret
    exact ⟨rfl, HB2.out⟩
set_option maxHeartbeats 1000000 in
theorem turned_walk (A : Option Addr) (cap a : Nat) (ha : a < 65536) (p : List By) (t : By) (hp : p.length ≤ 100) (h0 : 0 < p.length) (ht : t ≠ 0) (w : World) (hN : A = none → cap = 0) (hA : SrcIs w A p) :
    Calls Try.prog 6 #[.slice A p.length cap, .int .u16 a, vb t] w fun e w' => e = .returned (.bool true) ∧ Below w.heap.size w w' := by
  have h1 : (decide ((100 : Int) < p.length)) = false := decide_eq_false (by omega)
  have h2 : ((p.length : Int) == 0) = false := by rw [beq_eq_false_iff_ne]; omega
  have h3 : ((t.toNat : Int) == 0) = false := by
    rw [beq_eq_false_iff_ne]; intro h; exact ht (UInt8.toNat_inj.1 (by simpa using h))
  obtain ⟨i, hi⟩ : ∃ i, i = a % p.length := ⟨_, rfl⟩
  have hi1 : (a : Int) % (p.length : Int) = (i : Nat) := by rw [hi]; exact (Int.natCast_emod _ _).symm
  have hi2 : i < p.length := by rw [hi]; exact Nat.mod_lt _ h0
  have HA := Lib.hid hA; have HN := Lib.hid hN
  have HT := Lib.hid ht
  clear hA hN hi ht
  go_enter Try.func6, Try.ntmps6
  go_wp2_with fail
  refine (two_any w).mono ?_
  rintro e w1 ⟨rfl, hb1⟩
  have HA1 := Lib.hid (HA.out.below hb1)
  have HB1 := Lib.hid hb1
  clear hb1 HA
  go_wp2_with fail
  refine (join_any A none cap 0 p [] (by simp; omega) HN.out (fun _ => rfl) w1 HA1.out (fun h => absurd h (by simp))).mono ?_
  rintro e w2 ⟨v, rfl, hr⟩
  rw [List.append_nil] at hr
  have HA2 := Lib.hid (HA1.out.below hr.below)
  have HB2 : Hid (Below w.heap.size w w2) := HB1.out.trans (hr.below.mono HB1.out.size)
  obtain ⟨g, c, hv, hg, hblk⟩ : ∃ g c, v = .slice (some ⟨g, 0, none⟩) p.length c ∧ w1.heap.size ≤ g ∧ ∃ tl, Blk w2 g 5 (p.map vb ++ tl) := by
    rcases hr.own.2 with ⟨_, hz⟩ | ⟨g, cap, cur, hv, hg, hc, hn, _, hs, htk⟩
    · simp at hz; subst hz; simp at h0
    · rw [Nat.mul_one, List.length_map] at htk
      rw [List.length_map] at hv
      exact ⟨g, cap, hv, hg, cur.toList.drop p.length, by rw [← htk, List.take_append_drop]; exact hc⟩
  obtain ⟨tl, hblk⟩ := hblk
  subst hv
  have c0 : w2.cell? ⟨g, i, none⟩ = some (vb p[i]) := by have := Blk.bytes hblk i hi2; rwa [Nat.zero_add] at this
  have f0 := hblk.frozen i
  have hset := hblk.set i (vb (p[i] ^^^ t))
  rw [List.set_append_left _ _ (by simpa using hi2), ← List.map_set] at hset
  have HX := Lib.hid hset
  have hx := u8_xor_by p[i] t
  have HNE := Lib.hid (set_ne p i hi2 (p[i] ^^^ t) (xor_ne _ _ HT.out))
  have hgw : w.heap.size ≤ g := Nat.le_trans HB1.out.size hg
  have HB3 : Hid (Below w.heap.size w (w2.setCell ⟨g, i, none⟩ (vb (p[i] ^^^ t)))) := HB2.out.setCell hgw _
  have HA3 : Hid (SrcIs (w2.setCell ⟨g, i, none⟩ (vb (p[i] ^^^ t))) A p) := HA1.out.below (hr.below.setCell hg _)
  generalize hq : p.set i (p[i] ^^^ t) = q at *
  have hql : q.length = p.length := by rw [← hq]; simp
  have HQL := Lib.hid hql
  clear hq hql hblk hset hr HA2 HB2 HA1 HT
  generalize p[i] ^^^ t = y at *
  generalize p[i] = x at *
  go_upto_region 5 with fail
  generalize w2.setCell ⟨g, i, none⟩ (vb y) = w3 at *
  clear c0 f0 hx
  go_wp2_with fail
  refine (text_any A cap p (by omega) w3 HA3.out).mono ?_
  rintro e w4 ⟨rfl, hb4⟩
  have HA4 := Lib.hid (HA3.out.below hb4)
  have HX4 := Lib.hid ((bytes_src (Blk.bytes HX.out)).below hb4)
  have HB4 : Hid (Below w.heap.size w w4) := HB3.out.trans (hb4.mono HB3.out.size)
  clear hb4 HA3 HX HB3
  have hcall := fun w hA => text_any (some ⟨g, 0, none⟩) c q (by rw [HQL.out]; omega) w hA
  rw [HQL.out] at hcall
  have HCALL := Lib.hid hcall; clear hcall
  go_wp2_with fail
  refine (HCALL.out w4 HX4.out).mono ?_
  rintro e w5 ⟨rfl, hb5⟩
  have HA5 := Lib.hid (HA4.out.below hb5)
  have HX5 := Lib.hid (HX4.out.below hb5)
  have HB5 : Hid (Below w.heap.size w w5) := HB4.out.trans (hb5.mono HB4.out.size)
  clear hb5 HA4 HX4 HB4
  have HNT : Hid (text p ≠ text q) := fun h => HNE.out (text_inj HQL.out h.symm)
  have HLP := Lib.hid (text_length p); have HLQ := Lib.hid (text_length q)
  rw [HQL.out, ← HLP.out] at HLQ
  obtain ⟨tp, HTP⟩ : ∃ tp, Hid (text p = tp) := ⟨_, rfl⟩
  obtain ⟨tq, HTQ⟩ : ∃ tq, Hid (text q = tq) := ⟨_, rfl⟩
  rw [HTP.out, HTQ.out] at HNT HLQ ⊢
  have hne : (tp == tq) = false := by rw [beq_eq_false_iff_ne]; exact HNT.out
  have hll : ((tp.length : Int) == (tq.length : Int)) = true := by rw [beq_iff_eq]; have := HLQ.out; omega
  clear HLP HLQ HNT
  go_wp2_with fail
  refine (text_any A cap p (by omega) w5 HA5.out).mono ?_
  rintro e w6 ⟨rfl, hb6⟩
  rw [HTP.out]
  have HX6 := Lib.hid (HX5.out.below hb6)
  have HB6 : Hid (Below w.heap.size w w6) := HB5.out.trans (hb6.mono HB5.out.size)
  clear hb6 HX5 HB5 HA5
  go_wp2_with fail
  refine (HCALL.out w6 HX6.out).mono ?_
  rintro e w7 ⟨rfl, hb7⟩
  rw [HTQ.out]
  have HB7 : Hid (Below w.heap.size w w7) := HB6.out.trans (hb7.mono HB6.out.size)
  clear hb7 HB6
  go_wp2_with fail
  go_ret
  exact ⟨rfl, HB7.out⟩
theorem turned_all (A : Option Addr) (cap a : Nat) (ha : a < 65536) (p : List By) (t : By) (w : World) (hm : p.length ≤ maxLen) (hN : A = none → cap = 0) (hA : SrcIs w A p) :
    Calls Try.prog 6 #[.slice A p.length cap, .int .u16 a, vb t] w fun e w' => e = .returned (.bool true) ∧ Below w.heap.size w w' := by
  by_cases h : 100 < p.length ∨ p.length = 0 ∨ t = 0
  · exact turned_short A p.length cap a t w h hm
  · exact turned_walk A cap a ha p t (by omega) (by omega) (fun e => h (.inr (.inr e))) w hN hA
end Go.Proofs.Ytefifdejepafgaa
