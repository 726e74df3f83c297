/- The walk of RequestReplies. -/
import Derived.Test.YtghbabnekalgpaaDoorG5
import Derived.Test.YtghbabnekalgpaaDoorG7
import Derived.Test.YtghbabnekalgpaaDoorG8
import Derived.Test.YtghbabnekalgpaaDoorRpMath
import Derived.Test.YtghbabnekalgpaaDoorL0
import Derived.Deep.RegionHeld3
namespace Go.Proofs.YtghbabnekalgpaaDoor
open Go.RowKit BaseMath WireMath RealMath ReqMath

set_option maxHeartbeats 4000000 in
set_option maxRecDepth 100000 in
theorem replies_long (e : By) (b : Bool) (n : Nat) (s : Nat) (A R P : Option Addr) (la ca lr cr lp cp : Nat) (hla : la ≤ maxLen) (hlr : lr ≤ maxLen) (hlp : lp ≤ maxLen) (h : 60 < la ∨ 8 < lr ∨ 200 < lp) (w : World) (ht : KTab w) :
    Calls Tryd.prog 7 #[vb e, .bool b, .int .u16 n, .int .u64 s, .slice A la ca, .slice R lr cr, .slice P lp cp] w fun e w' => e = .returned (.bool true) ∧ Below w.heap.size w w' := by
  unfold maxLen at hla hlr hlp
  have HT := Lib.hid ht; clear ht
  have key : (decide ((60 : Int) < la) = true) ∨ (decide ((60 : Int) < la) = false ∧ decide ((8 : Int) < lr) = true) ∨ (decide ((60 : Int) < la) = false ∧ decide ((8 : Int) < lr) = false ∧ decide ((200 : Int) < lp) = true) := by
    by_cases h1 : 60 < la
    · exact .inl (decide_eq_true (by omega))
    · by_cases h2 : 8 < lr
      · exact .inr (.inl ⟨decide_eq_false (by omega), decide_eq_true (by omega)⟩)
      · exact .inr (.inr ⟨decide_eq_false (by omega), decide_eq_false (by omega), decide_eq_true (by omega)⟩)
  clear h
  rcases key with h1 | ⟨h1, h2⟩ | ⟨h1, h2, h3⟩
  all_goals
    go_enter Tryd.func7, Tryd.ntmps7
    go_wp2_with fail
    refine (lone_any w HT.out).mono ?_
    rintro e w1 ⟨rfl, hb1⟩
    have HB1 := Lib.hid hb1
    clear hb1
    go_wp2_with fail
    refine (lone_any w1 (HT.out.belowS HB1.out)).mono ?_
    rintro e w2 ⟨rfl, hb2⟩
    have HB2 : Hid (Below w.heap.size w w2) := HB1.out.trans (hb2.mono HB1.out.size)
    clear hb2
    go_wp2_with fail
    go_ret
    exact ⟨rfl, HB2.out⟩
theorem flat_le : ∀ (ls : List (List By)), (∀ t ∈ ls, t.length ≤ 60) → (ls.flatMap textB).length ≤ 62 * ls.length
  | [], _ => by simp
  | t :: ls, h => by
    have h1 := h t (by simp)
    have h2 := flat_le ls (fun u hu => h u (by simp [hu]))
    rw [List.flatMap_cons, List.length_append, textB_length, List.length_cons]; omega
theorem s3 {W : World} {x y z : Nat} {t : TypeId} {a0 a1 a2 a3 a4 a5 b0 b1 b2 b3 b4 b5 c0 c1 c2 c3 c4 c5 : Value} (h1 : Blk W x t [a0, a1, a2, a3, a4, a5]) (h2 : Blk W y t [b0, b1, b2, b3, b4, b5]) (h3 : Blk W z t [c0, c1, c2, c3, c4, c5]) : W.cell? ⟨x, 0, none⟩ = some (a0) ∧ W.cell? ⟨x, 1, none⟩ = some (a1) ∧ W.cell? ⟨x, 2, none⟩ = some (a2) ∧ W.cell? ⟨x, 3, none⟩ = some (a3) ∧ W.cell? ⟨x, 4, none⟩ = some (a4) ∧ W.cell? ⟨x, 5, none⟩ = some (a5) ∧ W.cell? ⟨y, 0, none⟩ = some (b0) ∧ W.cell? ⟨y, 1, none⟩ = some (b1) ∧ W.cell? ⟨y, 2, none⟩ = some (b2) ∧ W.cell? ⟨y, 3, none⟩ = some (b3) ∧ W.cell? ⟨y, 4, none⟩ = some (b4) ∧ W.cell? ⟨y, 5, none⟩ = some (b5) ∧ W.cell? ⟨z, 0, none⟩ = some (c0) ∧ W.cell? ⟨z, 1, none⟩ = some (c1) ∧ W.cell? ⟨z, 2, none⟩ = some (c2) ∧ W.cell? ⟨z, 3, none⟩ = some (c3) ∧ W.cell? ⟨z, 4, none⟩ = some (c4) ∧ W.cell? ⟨z, 5, none⟩ = some (c5) :=
  ⟨h1.cell 0, h1.cell 1, h1.cell 2, h1.cell 3, h1.cell 4, h1.cell 5, h2.cell 0, h2.cell 1, h2.cell 2, h2.cell 3, h2.cell 4, h2.cell 5, h3.cell 0, h3.cell 1, h3.cell 2, h3.cell 3, h3.cell 4, h3.cell 5⟩
theorem Blk.drewN' {w : World} {b : Nat} {t : TypeId} {cs : List Value} (h : Blk w b t cs) (n : Nat) : Blk (w.drewN n) b t cs := h
set_option maxHeartbeats 8000000 in
set_option maxRecDepth 100000 in
theorem replies_walk (e : By) (b : Bool) (n : Nat) (hn : n < 65536) (s : Nat) (hs : s < 18446744073709551616) (sm : List By) (ps : List (List By)) (p : List By) (A R P : Option Addr) (ca cr cp : Nat) (hla : sm.length ≤ maxLen) (hlr : ps.length ≤ maxLen) (hlp : p.length ≤ maxLen) (hps : ∀ t ∈ ps, t.length ≤ maxLen)
    (hcp : p.length ≤ cp) (hNP : P = none → cp = 0) (w : World) (ht : KTab w) (hA : SrcIs w A sm) (hR : StrsIs w R ps) (hP : SrcIs w P p) :
    Calls Tryd.prog 7 #[vb e, .bool b, .int .u16 n, .int .u64 s, .slice A sm.length ca, .slice R ps.length cr, .slice P p.length cp] w fun e w' => e = .returned (.bool true) ∧ Below w.heap.size w w' := by
  by_cases hlong : 60 < sm.length ∨ 8 < ps.length ∨ 200 < p.length
  · exact replies_long e b n s A R P sm.length ca ps.length cr p.length cp hla hlr hlp hlong w ht
  · have h1 : decide ((60 : Int) < sm.length) = false := decide_eq_false (by omega)
    have h2 : decide ((8 : Int) < ps.length) = false := decide_eq_false (by omega)
    have h3 : decide ((200 : Int) < p.length) = false := decide_eq_false (by omega)
    have HLS : Hid (sm.length ≤ 60) := by show _ ≤ _; omega
    have HLP : Hid (ps.length ≤ 8) := by show _ ≤ _; omega
    have HLB : Hid (p.length ≤ 200) := by show _ ≤ _; omega
    have hps8 : ps.length ≤ 8 := by omega
    have HPS := Lib.hid hps
    have HT := Lib.hid ht; have HA := Lib.hid hA; have HR := Lib.hid hR; have HP := Lib.hid hP; have HNP := Lib.hid hNP; have HCP := Lib.hid hcp; have HS := Lib.hid hs
    have he256 : e.toNat < 256 := e.toNat_lt
    clear ht hA hR hP hNP hcp hlong hla hlr hlp hs hps
    go_enter Tryd.func7, Tryd.ntmps7
    go_wp2_with fail
    refine (lone_any w HT.out).mono ?_
    rintro e' w1 ⟨rfl, hb1⟩
    have HB1 := Lib.hid hb1
    clear hb1
    go_wp2_with fail
    go_loopw [15] (fun vv wr => ∃ k : Nat, k ≤ ps.length ∧ vv = .int .i64 k ∧ w1 = wr ∧ Hid (∀ i (h : i < ps.length), i < k → ps[i].length ≤ 60)) (fun vv _ => ps.length - (intOf vv).toNat)
    case atStart => exact ⟨0, Nat.zero_le _, rfl, rfl, fun i _ h => absurd h (by omega)⟩
    case round =>
      obtain ⟨k, hk, rfl, rfl, HRG⟩ := hrel
      by_cases hlt : k < ps.length
      · obtain ⟨rb, ro, rfl, hc⟩ := (HR.out.belowW HB1.out) (by omega)
        have c0 := hc k hlt
        have hmx := HPS.out ps[k] (List.getElem_mem hlt)
        unfold maxLen at hmx
        clear hc
        by_cases hl60 : 60 < ps[k].length
        · have hl60' : (60 : Int) < ps[k].length := by omega
          clear HRG
          generalize ps[k] = t at *
          go_wp2_with fail
          go_ret
          exact ⟨rfl, HB1.out⟩
        · have HN : Hid (∀ i (h : i < ps.length), i < k + 1 → ps[i].length ≤ 60) := fun i h hi => by
            by_cases e : i < k
            · exact HRG.out i h e
            · obtain rfl : i = k := by omega
              omega
          have hl60' : ¬ ((60 : Int) < ps[k].length) := by omega
          clear HRG hl60
          generalize ps[k] = t at *
          go_wp2_with fail
          go_roundw
          case rel => first | exact ⟨k + 1, by omega, by go_num, rfl, HN.out⟩ | exact ⟨k + 1, by omega, by go_num, trivial, HN.out⟩ | exact ⟨k + 1, by omega, by go_num, HN.out⟩
          case measure => simp [intOf]; omega
      · obtain rfl : k = ps.length := by omega
        have HL60 : Hid (∀ t ∈ ps, t.length ≤ 60) := fun t ht => by
          obtain ⟨i, hi, rfl⟩ := List.getElem_of_mem ht
          exact HRG.out i hi hi
        clear HRG
        have hfb := fun w => run_frombits (s : Int) w
        obtain ⟨x, hx⟩ : ∃ x : RepV, x = ⟨(e.toNat : Int), b, (n : Int), s, sm, ps⟩ := ⟨_, rfl⟩
        have hb2 : Below w1.heap.size w1 (w1.alloc (.cells #[.int .i64 (e.toNat : Int), .bool b, .int .i64 (n : Int), .float .f64 s, .slice A sm.length ca, .slice R ps.length cr] 63)) := (Below.refl _ _).alloc (Nat.le_refl _) _
        have HB2 : Hid (Below w.heap.size w (w1.alloc (.cells #[.int .i64 (e.toNat : Int), .bool b, .int .i64 (n : Int), .float .f64 s, .slice A sm.length ca, .slice R ps.length cr] 63))) := HB1.out.trans (hb2.mono HB1.out.size)
        have hxs : RepV.small x := by rw [hx]; exact mk_small _ _ _ _ _ _ (by have := HLS.out; omega) (by omega) HS.out
        have hfl : (ps.flatMap textB).length ≤ 62 * ps.length := flat_le ps HL60.out
        have hel : (encRep x).length ≤ 1000 := by rw [encRep_length, hx]; have := HLS.out; simp only; omega
        have hrx : RepIs (w1.alloc (.cells #[.int .i64 (e.toNat : Int), .bool b, .int .i64 (n : Int), .float .f64 s, .slice A sm.length ca, .slice R ps.length cr] 63)) (.agg #[.int .i64 (e.toNat : Int), .bool b, .int .i64 (n : Int), .float .f64 s, .slice A sm.length ca, .slice R ps.length cr]) x := by
          rw [hx]
          exact ⟨A, ca, R, cr, rfl, HA.out.below HB2.out, HR.out.belowW HB2.out⟩
        have hback : decRep (encRep x) = (⟨(e.toNat : Int), b, (n : Int), canonB s, sm, ps⟩, 0) := by
          have := decRep_back x (by rw [hx]; simp only; omega) (by rw [hx]; simp only; omega) (by rw [hx]; exact HS.out) (by rw [hx]; have := HLS.out; simp only; omega) (by rw [hx]; simp only; omega) (by rw [hx]; exact fun t ht => by have := HL60.out t ht; omega)
          rw [this, hx]
        obtain ⟨y, hy⟩ : ∃ y : RepV, y = ⟨(e.toNat : Int), b, (n : Int), canonB s, sm, ps⟩ := ⟨_, rfl⟩
        have hsyx : sameR y x = true := by rw [hy, hx]; exact same_back ⟨(e.toNat : Int), b, (n : Int), s, sm, ps⟩
        have hys : RepV.small y := by rw [hy]; exact mk_small _ _ _ _ _ _ (by have := HLS.out; omega) (by omega) (canonB_lt s HS.out)
        rw [← hy] at hback
        have hxp : x.paths.length ≤ 255 := by rw [hx]; simp only; omega
        have HC1 := Lib.hid (encrep_any x hxs hxp (by omega) (.agg #[.int .i64 (e.toNat : Int), .bool b, .int .i64 (n : Int), .float .f64 s, .slice A sm.length ca, .slice R ps.length cr]) (w1.alloc (.cells #[.int .i64 (e.toNat : Int), .bool b, .int .i64 (n : Int), .float .f64 s, .slice A sm.length ca, .slice R ps.length cr] 63)) hrx)
        have HC3 : Hid (∀ U, Below (w1.alloc (.cells #[.int .i64 (e.toNat : Int), .bool b, .int .i64 (n : Int), .float .f64 s, .slice A sm.length ca, .slice R ps.length cr] 63)).heap.size (w1.alloc (.cells #[.int .i64 (e.toNat : Int), .bool b, .int .i64 (n : Int), .float .f64 s, .slice A sm.length ca, .slice R ps.length cr] 63)) U → Calls Tryd.prog 26 #[.agg #[.int .i64 (e.toNat : Int), .bool b, .int .i64 (n : Int), .float .f64 s, .slice A sm.length ca, .slice R ps.length cr]] U (EncPost U (encRep x))) := fun U hU => rencrep_any x hxs hxp (by omega) (.agg #[.int .i64 (e.toNat : Int), .bool b, .int .i64 (n : Int), .float .f64 s, .slice A sm.length ca, .slice R ps.length cr]) U (hrx.below hU)
        have HRX := Lib.hid hrx; have HXS := Lib.hid hxs; have HYS := Lib.hid hys; have HSYX := Lib.hid hsyx; have HEL := Lib.hid hel; have HBACK := Lib.hid hback; have HY := Lib.hid hy
        have HBX : Hid (Blk (w1.alloc (.cells #[.int .i64 (e.toNat : Int), .bool b, .int .i64 (n : Int), .float .f64 s, .slice A sm.length ca, .slice R ps.length cr] 63)) w1.heap.size 63 [.int .i64 (e.toNat : Int), .bool b, .int .i64 (n : Int), .float .f64 s, .slice A sm.length ca, .slice R ps.length cr]) := Blk.new w1 63 _
        have hw2 : w1.heap.size < (w1.alloc (.cells #[.int .i64 (e.toNat : Int), .bool b, .int .i64 (n : Int), .float .f64 s, .slice A sm.length ca, .slice R ps.length cr] 63)).heap.size := by simp
        have HW2 := Lib.hid hw2
        clear hb2 hxs hfl hel hrx hback hsyx hys hy hxp hw2 hx
        go_wp2_with fail
        clear hfb
        generalize (w1.alloc (.cells #[.int .i64 (e.toNat : Int), .bool b, .int .i64 (n : Int), .float .f64 s, .slice A sm.length ca, .slice R ps.length cr] 63)) = w2 at *
        generalize encRep x = q at *
        refine HC1.out.mono ?_
        rintro e' w3 ⟨v3, rfl, hr3⟩
        obtain ⟨A3, c3, rfl, hs3, hn3, hc3, -⟩ := hr3.src
        have HB3 : Hid (Below w.heap.size w w3) := HB2.out.trans (hr3.below.mono HB2.out.size)
        have HB23 := Lib.hid hr3.below
        have HC2 : Hid (Calls Tryd.prog 25 #[.slice A3 q.length c3] w3 (DecRPost w3 (decRep q))) := decrep_any A3 c3 q (by have := HEL.out; omega) hn3 w3 hs3
        have HS3 := Lib.hid hs3
        clear hr3 hs3 hn3 hc3 HC1
        rw [HBACK.out] at HC2
        go_wp2_with fail
        refine HC2.out.mono ?_
        rintro e' w4 ⟨hb4, v4, rfl, hv4⟩
        obtain ⟨A5, a5, R5, r5, rfl, hA5, hR5⟩ := hv4
        have HRY : Hid (RepIs w4 (.agg #[.int .i64 y.e, .bool y.is, .int .i64 y.n, .float .f64 y.stamp, .slice A5 y.sum.length a5, .slice R5 y.paths.length r5]) y) := ⟨A5, a5, R5, r5, rfl, hA5, hR5⟩
        have HB4 : Hid (Below w.heap.size w w4) := HB3.out.trans (hb4.mono HB3.out.size)
        have HB24 : Hid (Below w2.heap.size w2 w4) := HB23.out.trans (hb4.mono HB23.out.size)
        have HS4 := Lib.hid (HS3.out.below hb4)
        clear hb4 hA5 hR5 HC2 HS3 HB3 HB23 HBACK
        have ha5 : Below w4.heap.size w4 (w4.alloc (.cells #[.int .i64 y.e, .bool y.is, .int .i64 y.n, .float .f64 y.stamp, .slice A5 y.sum.length a5, .slice R5 y.paths.length r5] 63)) := (Below.refl _ _).alloc (Nat.le_refl _) _
        have HB5 : Hid (Below w.heap.size w (w4.alloc (.cells #[.int .i64 y.e, .bool y.is, .int .i64 y.n, .float .f64 y.stamp, .slice A5 y.sum.length a5, .slice R5 y.paths.length r5] 63))) := HB4.out.trans (ha5.mono HB4.out.size)
        have HB25 : Hid (Below w2.heap.size w2 (w4.alloc (.cells #[.int .i64 y.e, .bool y.is, .int .i64 y.n, .float .f64 y.stamp, .slice A5 y.sum.length a5, .slice R5 y.paths.length r5] 63))) := HB24.out.trans (ha5.mono HB24.out.size)
        have HS5 := Lib.hid (HS4.out.below ha5)
        have HRY5 := Lib.hid (HRY.out.below ha5)
        have HBY : Hid (Blk (w4.alloc (.cells #[.int .i64 y.e, .bool y.is, .int .i64 y.n, .float .f64 y.stamp, .slice A5 y.sum.length a5, .slice R5 y.paths.length r5] 63)) w4.heap.size 63 [.int .i64 y.e, .bool y.is, .int .i64 y.n, .float .f64 y.stamp, .slice A5 y.sum.length a5, .slice R5 y.paths.length r5]) := Blk.new w4 63 _
        have hx5 : Blk (w4.alloc (.cells #[.int .i64 y.e, .bool y.is, .int .i64 y.n, .float .f64 y.stamp, .slice A5 y.sum.length a5, .slice R5 y.paths.length r5] 63)) w1.heap.size 63 [.int .i64 (e.toNat : Int), .bool b, .int .i64 (n : Int), .float .f64 s, .slice A sm.length ca, .slice R ps.length cr] := Blk.below HBX.out HB25.out HW2.out
        have a0 := hx5.cell 0; have a1 := hx5.cell 1; have a2 := hx5.cell 2; have a3 := hx5.cell 3; have a4 := hx5.cell 4; have a5 := hx5.cell 5
        simp only [List.getElem?_cons_zero, List.getElem?_cons_succ] at a0 a1 a2 a3 a4 a5
        clear ha5 HS4 HRY HB4 HB24 hx5
        go_wp2_with fail
        clear a0 a1 a2 a3 a4 a5
        generalize w4.alloc (.cells #[.int .i64 y.e, .bool y.is, .int .i64 y.n, .float .f64 y.stamp, .slice A5 y.sum.length a5, .slice R5 y.paths.length r5] 63) = w5 at *
        refine (HC3.out w5 HB25.out).mono ?_
        rintro e' w6 ⟨v6, rfl, hr6⟩
        obtain ⟨A6, c6, rfl, hs6, hn6, hc6, -⟩ := hr6.src
        have HB6 : Hid (Below w.heap.size w w6) := HB5.out.trans (hr6.below.mono HB5.out.size)
        have HB26 : Hid (Below w2.heap.size w2 w6) := HB25.out.trans (hr6.below.mono HB25.out.size)
        have HBY6 := Lib.hid (HBY.out.below hr6.below (Blk.lt HBY.out))
        have HRY6 := Lib.hid (HRY5.out.below hr6.below)
        have HBS : Hid (Calls Tryd.prog 16 #[.slice A3 q.length c3, .slice A6 q.length c6] w6 fun e w' => e = .returned (.bool true) ∧ ∃ q, w' = w6.drewN q) := bytes_same A3 A6 c3 c6 q (by have := HEL.out; omega) w6 (HS5.out.below hr6.below) hs6
        clear hr6 hs6 hn6 hc6 HB5 HB25 HBY HRY5 HS5 HC3
        go_wp2_with fail
        refine HBS.out.mono ?_
        rintro e' w7 ⟨rfl, q1, rfl⟩
        have HB7 := Lib.hid (below_drewN HB6.out q1)
        have HB27 := Lib.hid (below_drewN HB26.out q1)
        have HRY7 := Lib.hid (HRY6.out.below (below_drewN (Below.refl _ _) q1))
        have HBY7 := Lib.hid (Blk.drewN HBY6.out q1)
        clear HBS HB6 HB26 HRY6 HBY6
        generalize w6.drewN q1 = w7 at *
        have HRX7 := Lib.hid (HRX.out.below HB27.out)
        have HC4 : Hid (Calls Tryd.prog 27 #[.agg #[.int .i64 y.e, .bool y.is, .int .i64 y.n, .float .f64 y.stamp, .slice A5 y.sum.length a5, .slice R5 y.paths.length r5], .agg #[.int .i64 (e.toNat : Int), .bool b, .int .i64 (n : Int), .float .f64 s, .slice A sm.length ca, .slice R ps.length cr]] w7 fun e w' => e = .returned (.bool true) ∧ Below w7.heap.size w7 w') := by
          have := same_any y x HYS.out HXS.out _ _ w7 HRY7.out HRX7.out
          rw [HSYX.out] at this; exact this
        have hx7 : Blk w7 w1.heap.size 63 [.int .i64 (e.toNat : Int), .bool b, .int .i64 (n : Int), .float .f64 s, .slice A sm.length ca, .slice R ps.length cr] := Blk.below HBX.out HB27.out HW2.out
        have a0 := hx7.cell 0; have a1 := hx7.cell 1; have a2 := hx7.cell 2; have a3 := hx7.cell 3; have a4 := hx7.cell 4; have a5 := hx7.cell 5
        have d0 := Blk.cell HBY7.out 0; have d1 := Blk.cell HBY7.out 1; have d2 := Blk.cell HBY7.out 2; have d3 := Blk.cell HBY7.out 3; have d4 := Blk.cell HBY7.out 4; have d5 := Blk.cell HBY7.out 5
        simp only [List.getElem?_cons_zero, List.getElem?_cons_succ] at a0 a1 a2 a3 a4 a5 d0 d1 d2 d3 d4 d5
        clear hx7
        go_wp2_with fail
        clear a0 a1 a2 a3 a4 a5 d0 d1 d2 d3 d4 d5
        refine HC4.out.mono ?_
        rintro e' w8 ⟨rfl, hb8⟩
        have HB8 : Hid (Below w.heap.size w w8) := HB7.out.trans (hb8.mono HB7.out.size)
        have HB28 : Hid (Below w2.heap.size w2 w8) := HB27.out.trans (hb8.mono HB27.out.size)
        have HBY8 := Lib.hid (HBY7.out.below hb8 (Blk.lt HBY7.out))
        have HC5 : Hid (Calls Tryd.prog 28 #[.agg #[.int .i64 y.e, .bool y.is, .int .i64 y.n, .float .f64 y.stamp, .slice A5 y.sum.length a5, .slice R5 y.paths.length r5], .agg #[.int .i64 (e.toNat : Int), .bool b, .int .i64 (n : Int), .float .f64 s, .slice A sm.length ca, .slice R ps.length cr]] w8 fun e w' => e = .returned (.bool true) ∧ Below w8.heap.size w8 w') := by
          have := rsame2_any y x HYS.out HXS.out _ _ w8 (HRY7.out.below hb8) (HRX7.out.below hb8)
          rw [HSYX.out] at this; exact this
        have hx8 : Blk w8 w1.heap.size 63 [.int .i64 (e.toNat : Int), .bool b, .int .i64 (n : Int), .float .f64 s, .slice A sm.length ca, .slice R ps.length cr] := Blk.below HBX.out HB28.out HW2.out
        have a0 := hx8.cell 0; have a1 := hx8.cell 1; have a2 := hx8.cell 2; have a3 := hx8.cell 3; have a4 := hx8.cell 4; have a5 := hx8.cell 5
        have d0 := Blk.cell HBY8.out 0; have d1 := Blk.cell HBY8.out 1; have d2 := Blk.cell HBY8.out 2; have d3 := Blk.cell HBY8.out 3; have d4 := Blk.cell HBY8.out 4; have d5 := Blk.cell HBY8.out 5
        simp only [List.getElem?_cons_zero, List.getElem?_cons_succ] at a0 a1 a2 a3 a4 a5 d0 d1 d2 d3 d4 d5
        clear hx8 hb8 HC4 HRY7 HBY7 HB7 HB27 HRX7
        go_wp2_with fail
        clear a0 a1 a2 a3 a4 a5 d0 d1 d2 d3 d4 d5
        refine HC5.out.mono ?_
        rintro e' w9 ⟨rfl, hb9⟩
        have HB9 : Hid (Below w.heap.size w w9) := HB8.out.trans (hb9.mono HB8.out.size)
        have HB29 : Hid (Below w2.heap.size w2 w9) := HB28.out.trans (hb9.mono HB28.out.size)
        clear hb9 HC5 HB8 HB28 HBY8
        obtain ⟨d, f, hdf⟩ : ∃ d f, decRep p = (d, f) := ⟨_, _, rfl⟩
        have HDS : Hid (RepV.small d) := by have := decRep_small p; rw [hdf] at this; exact this
        have HC6 : Hid (Calls Tryd.prog 25 #[.slice P p.length cp] w9 (DecRPost w9 (d, f))) := by have := decrep_any P cp p (by have := HLB.out; omega) HNP.out w9 (HP.out.below HB9.out); rw [hdf] at this; exact this
        have HC7 : Hid (∀ U, Below w.heap.size w U → Calls Tryd.prog 29 #[.slice P p.length cp] U (DecRPost U (d, f))) := fun U hU => by have := rdecrep_any P cp p (by have := HLB.out; omega) HNP.out HCP.out U (HP.out.below hU); rw [hdf] at this; exact this
        clear hdf
        go_wp2_with fail
        refine HC6.out.mono ?_
        rintro e' w10 ⟨hb10, va, rfl, hva⟩
        obtain ⟨Aa, aa, Ra, ra, rfl, hAa, hRa⟩ := hva
        have HRA : Hid (RepIs w10 (.agg #[.int .i64 d.e, .bool d.is, .int .i64 d.n, .float .f64 d.stamp, .slice Aa d.sum.length aa, .slice Ra d.paths.length ra]) d) := ⟨Aa, aa, Ra, ra, rfl, hAa, hRa⟩
        have HB10 : Hid (Below w.heap.size w w10) := HB9.out.trans (hb10.mono HB9.out.size)
        have HB210 : Hid (Below w2.heap.size w2 w10) := HB29.out.trans (hb10.mono HB29.out.size)
        clear hb10 hAa hRa HC6 HB9 HB29
        have ha11 : Below w10.heap.size w10 (w10.alloc (.cells #[.int .i64 d.e, .bool d.is, .int .i64 d.n, .float .f64 d.stamp, .slice Aa d.sum.length aa, .slice Ra d.paths.length ra] 63)) := (Below.refl _ _).alloc (Nat.le_refl _) _
        have HB11 : Hid (Below w.heap.size w (w10.alloc (.cells #[.int .i64 d.e, .bool d.is, .int .i64 d.n, .float .f64 d.stamp, .slice Aa d.sum.length aa, .slice Ra d.paths.length ra] 63))) := HB10.out.trans (ha11.mono HB10.out.size)
        have HB211 : Hid (Below w2.heap.size w2 (w10.alloc (.cells #[.int .i64 d.e, .bool d.is, .int .i64 d.n, .float .f64 d.stamp, .slice Aa d.sum.length aa, .slice Ra d.paths.length ra] 63))) := HB210.out.trans (ha11.mono HB210.out.size)
        have HRA11 := Lib.hid (HRA.out.below ha11)
        have HBA : Hid (Blk (w10.alloc (.cells #[.int .i64 d.e, .bool d.is, .int .i64 d.n, .float .f64 d.stamp, .slice Aa d.sum.length aa, .slice Ra d.paths.length ra] 63)) w10.heap.size 63 [.int .i64 d.e, .bool d.is, .int .i64 d.n, .float .f64 d.stamp, .slice Aa d.sum.length aa, .slice Ra d.paths.length ra]) := Blk.new w10 63 _
        clear ha11 HRA HB10 HB210
        go_wp2_with fail
        generalize w10.alloc (.cells #[.int .i64 d.e, .bool d.is, .int .i64 d.n, .float .f64 d.stamp, .slice Aa d.sum.length aa, .slice Ra d.paths.length ra] 63) = w11 at *
        refine (HC7.out w11 HB11.out).mono ?_
        rintro e' w12 ⟨hb12, vb1, rfl, hvb⟩
        obtain ⟨Ab, ab, Rb, rb, rfl, hAb, hRb⟩ := hvb
        have HRB : Hid (RepIs w12 (.agg #[.int .i64 d.e, .bool d.is, .int .i64 d.n, .float .f64 d.stamp, .slice Ab d.sum.length ab, .slice Rb d.paths.length rb]) d) := ⟨Ab, ab, Rb, rb, rfl, hAb, hRb⟩
        have HB12 : Hid (Below w.heap.size w w12) := HB11.out.trans (hb12.mono HB11.out.size)
        have HB212 : Hid (Below w2.heap.size w2 w12) := HB211.out.trans (hb12.mono HB211.out.size)
        have HRA12 := Lib.hid (HRA11.out.below hb12)
        have HBA12 := Lib.hid (HBA.out.below hb12 (Blk.lt HBA.out))
        clear hb12 hAb hRb HC7 HB11 HB211 HRA11 HBA
        generalize w10.heap.size = ga at *
        have ha13 : Below w12.heap.size w12 (w12.alloc (.cells #[.int .i64 d.e, .bool d.is, .int .i64 d.n, .float .f64 d.stamp, .slice Ab d.sum.length ab, .slice Rb d.paths.length rb] 63)) := (Below.refl _ _).alloc (Nat.le_refl _) _
        have HB13 : Hid (Below w.heap.size w (w12.alloc (.cells #[.int .i64 d.e, .bool d.is, .int .i64 d.n, .float .f64 d.stamp, .slice Ab d.sum.length ab, .slice Rb d.paths.length rb] 63))) := HB12.out.trans (ha13.mono HB12.out.size)
        have HB213 : Hid (Below w2.heap.size w2 (w12.alloc (.cells #[.int .i64 d.e, .bool d.is, .int .i64 d.n, .float .f64 d.stamp, .slice Ab d.sum.length ab, .slice Rb d.paths.length rb] 63))) := HB212.out.trans (ha13.mono HB212.out.size)
        have HRA13 := Lib.hid (HRA12.out.below ha13)
        have HRB13 := Lib.hid (HRB.out.below ha13)
        have HBA13 := Lib.hid (HBA12.out.below ha13 (Blk.lt HBA12.out))
        have HBB13 : Hid (Blk (w12.alloc (.cells #[.int .i64 d.e, .bool d.is, .int .i64 d.n, .float .f64 d.stamp, .slice Ab d.sum.length ab, .slice Rb d.paths.length rb] 63)) w12.heap.size 63 [.int .i64 d.e, .bool d.is, .int .i64 d.n, .float .f64 d.stamp, .slice Ab d.sum.length ab, .slice Rb d.paths.length rb]) := Blk.new w12 63 _
        clear ha13 HRA12 HRB HB12 HB212 HBA12
        generalize hgb : w12.heap.size = gb at *
        have HS27 : Hid (∀ W, RepIs W (.agg #[.int .i64 d.e, .bool d.is, .int .i64 d.n, .float .f64 d.stamp, .slice Aa d.sum.length aa, .slice Ra d.paths.length ra]) d → RepIs W (.agg #[.int .i64 (e.toNat : Int), .bool b, .int .i64 (n : Int), .float .f64 s, .slice A sm.length ca, .slice R ps.length cr]) x → Calls Tryd.prog 27 #[.agg #[.int .i64 d.e, .bool d.is, .int .i64 d.n, .float .f64 d.stamp, .slice Aa d.sum.length aa, .slice Ra d.paths.length ra], .agg #[.int .i64 (e.toNat : Int), .bool b, .int .i64 (n : Int), .float .f64 s, .slice A sm.length ca, .slice R ps.length cr]] W fun e w' => e = .returned (.bool (sameR d x)) ∧ Below W.heap.size W w') := fun W h1 h2 => same_any d x HDS.out HXS.out _ _ W h1 h2
        have HS28 : Hid (∀ W, RepIs W (.agg #[.int .i64 d.e, .bool d.is, .int .i64 d.n, .float .f64 d.stamp, .slice Ab d.sum.length ab, .slice Rb d.paths.length rb]) d → RepIs W (.agg #[.int .i64 (e.toNat : Int), .bool b, .int .i64 (n : Int), .float .f64 s, .slice A sm.length ca, .slice R ps.length cr]) x → Calls Tryd.prog 28 #[.agg #[.int .i64 d.e, .bool d.is, .int .i64 d.n, .float .f64 d.stamp, .slice Ab d.sum.length ab, .slice Rb d.paths.length rb], .agg #[.int .i64 (e.toNat : Int), .bool b, .int .i64 (n : Int), .float .f64 s, .slice A sm.length ca, .slice R ps.length cr]] W fun e w' => e = .returned (.bool (sameR d x)) ∧ Below W.heap.size W w') := fun W h1 h2 => rsame2_any d x HDS.out HXS.out _ _ W h1 h2
        have HSAB : Hid (∀ W, RepIs W (.agg #[.int .i64 d.e, .bool d.is, .int .i64 d.n, .float .f64 d.stamp, .slice Aa d.sum.length aa, .slice Ra d.paths.length ra]) d → RepIs W (.agg #[.int .i64 d.e, .bool d.is, .int .i64 d.n, .float .f64 d.stamp, .slice Ab d.sum.length ab, .slice Rb d.paths.length rb]) d → Calls Tryd.prog 28 #[.agg #[.int .i64 d.e, .bool d.is, .int .i64 d.n, .float .f64 d.stamp, .slice Aa d.sum.length aa, .slice Ra d.paths.length ra], .agg #[.int .i64 d.e, .bool d.is, .int .i64 d.n, .float .f64 d.stamp, .slice Ab d.sum.length ab, .slice Rb d.paths.length rb]] W fun e w' => e = .returned (.bool true) ∧ Below W.heap.size W w') := fun W h1 h2 => by
          have := rsame2_any d d HDS.out HDS.out _ _ W h1 h2
          rw [same_self] at this; exact this
        generalize sameR d x = S1 at *
        go_upto_region 15 with fail
        generalize (w12.alloc (.cells #[.int .i64 d.e, .bool d.is, .int .i64 d.n, .float .f64 d.stamp, .slice Ab d.sum.length ab, .slice Rb d.paths.length rb] 63)) = w13 at *
        have HB14 := Lib.hid (HB13.out.drew)
        have HB214 := Lib.hid (HB213.out.drew)
        have HRA14 := Lib.hid (HRA13.out.below (Below.refl _ _).drew)
        have HRB14 := Lib.hid (HRB13.out.below (Below.refl _ _).drew)
        have HBA14 := Lib.hid (Blk.drewN HBA13.out 1)
        have HBB14 := Lib.hid (Blk.drewN HBB13.out 1)
        have k14 := s3 (W := w13.drew) (Blk.below HBX.out HB214.out HW2.out) HBA14.out HBB14.out
        clear HB13 HB213 HRA13 HRB13 HBA13 HBB13 HS HLB HA HR HP HT HPS HL60 hlt hk h1 h2 h3 HLS HLP HNP HCP HEL HSYX HYS HY
        go_region_held3 (fun W => W.cell? ⟨w1.heap.size, 0, none⟩ = some (.int .i64 (e.toNat : Int)) ∧ W.cell? ⟨w1.heap.size, 1, none⟩ = some (.bool b) ∧ W.cell? ⟨w1.heap.size, 2, none⟩ = some (.int .i64 (n : Int)) ∧ W.cell? ⟨w1.heap.size, 3, none⟩ = some (.float .f64 s) ∧ W.cell? ⟨w1.heap.size, 4, none⟩ = some (.slice A sm.length ca) ∧ W.cell? ⟨w1.heap.size, 5, none⟩ = some (.slice R ps.length cr) ∧ W.cell? ⟨ga, 0, none⟩ = some (.int .i64 d.e) ∧ W.cell? ⟨ga, 1, none⟩ = some (.bool d.is) ∧ W.cell? ⟨ga, 2, none⟩ = some (.int .i64 d.n) ∧ W.cell? ⟨ga, 3, none⟩ = some (.float .f64 d.stamp) ∧ W.cell? ⟨ga, 4, none⟩ = some (.slice Aa d.sum.length aa) ∧ W.cell? ⟨ga, 5, none⟩ = some (.slice Ra d.paths.length ra) ∧ W.cell? ⟨gb, 0, none⟩ = some (.int .i64 d.e) ∧ W.cell? ⟨gb, 1, none⟩ = some (.bool d.is) ∧ W.cell? ⟨gb, 2, none⟩ = some (.int .i64 d.n) ∧ W.cell? ⟨gb, 3, none⟩ = some (.float .f64 d.stamp) ∧ W.cell? ⟨gb, 4, none⟩ = some (.slice Ab d.sum.length ab) ∧ W.cell? ⟨gb, 5, none⟩ = some (.slice Rb d.paths.length rb))
          (first | with_reducible exact k14 | with_reducible exact k15 | with_reducible exact k16 | with_reducible exact k17)
          (first
            | (go_at_call 28
               with_reducible refine (HSAB.out _ HRA14.out HRB14.out).mono ?_
               rintro e w15 ⟨rfl, hb15⟩
               have HB15 : Hid (Below w.heap.size w w15) := HB14.out.trans (hb15.mono HB14.out.size)
               have HB215 : Hid (Below w2.heap.size w2 w15) := HB214.out.trans (hb15.mono HB214.out.size)
               have HBA15 := Lib.hid (HBA14.out.below hb15 (Blk.lt HBA14.out))
               have HBB15 := Lib.hid (HBB14.out.below hb15 (Blk.lt HBB14.out))
               have HRA15 := Lib.hid (HRA14.out.below hb15)
               have HRB15 := Lib.hid (HRB14.out.below hb15)
               have k15 := s3 (Blk.below HBX.out HB215.out HW2.out) HBA15.out HBB15.out
               clear hb15)
            | (go_at_call 27
               with_reducible refine (HS27.out w15 HRA15.out (HRX.out.below HB215.out)).mono ?_
               rintro e w16 ⟨rfl, hb16⟩
               have HB16 : Hid (Below w.heap.size w w16) := HB15.out.trans (hb16.mono HB15.out.size)
               have HB216 : Hid (Below w2.heap.size w2 w16) := HB215.out.trans (hb16.mono HB215.out.size)
               have HBA16 := Lib.hid (HBA15.out.below hb16 (Blk.lt HBA15.out))
               have HBB16 := Lib.hid (HBB15.out.below hb16 (Blk.lt HBB15.out))
               have HRA16 := Lib.hid (HRA15.out.below hb16)
               have HRB16 := Lib.hid (HRB15.out.below hb16)
               have k16 := s3 (Blk.below HBX.out HB216.out HW2.out) HBA16.out HBB16.out
               clear hb16)
            | (go_at_call 28
               with_reducible refine (HS28.out w16 HRB16.out (HRX.out.below HB216.out)).mono ?_
               rintro e w17 ⟨rfl, hb17⟩
               have HB17 : Hid (Below w.heap.size w w17) := HB16.out.trans (hb17.mono HB16.out.size)
               have HB217 : Hid (Below w2.heap.size w2 w17) := HB216.out.trans (hb17.mono HB216.out.size)
               have HBA17 := Lib.hid (HBA16.out.below hb17 (Blk.lt HBA16.out))
               have HBB17 := Lib.hid (HBB16.out.below hb17 (Blk.lt HBB16.out))
               have HRA17 := Lib.hid (HRA16.out.below hb17)
               have HRB17 := Lib.hid (HRB16.out.below hb17)
               have k17 := s3 (Blk.below HBX.out HB217.out HW2.out) HBA17.out HBB17.out
               clear hb17)
            | fail)
        all_goals
          go_wp2_with fail
          go_ret
          exact ⟨rfl, HB17.out⟩
end Go.Proofs.YtghbabnekalgpaaDoor
