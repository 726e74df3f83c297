/- The walk of WireOwn. -/
import Derived.Test.YtefifdejepafgaaW16
import Derived.Test.YtefifdejepafgaaW11
import Derived.Deep.RegionHeld3
namespace Go.Proofs.Ytefifdejepafgaa
open Go.RowKit BaseMath WireMath

/-- a slice that is written over: only its own block turns -/
structure Over (w6 : World) (A : Option Addr) (n : Nat) (wr : World) : Prop where
  os : wr.os = w6.os
  tape : wr.tape = w6.tape
  output : wr.output = w6.output
  size : wr.heap.size = w6.heap.size
  other : ∀ c, (∀ a, A = some a → c ≠ a.block) → wr.heap[c]? = w6.heap[c]?
  ex : 0 < n → ∃ gp cs, A = some ⟨gp, 0, none⟩ ∧ Blk wr gp 5 cs ∧ n ≤ cs.length
theorem Over.step {w6 wr : World} {n gp k : Nat} (h : Over w6 (some ⟨gp, 0, none⟩) n wr) (b : By) : Over w6 (some ⟨gp, 0, none⟩) n (wr.setCell ⟨gp, k, none⟩ (vb b)) := by
  refine ⟨h.os, h.tape, h.output, by rw [World.size_setCell]; exact h.size, fun c hc => ?_, fun h0 => ?_⟩
  · rw [Below.heap_setCell wr ⟨gp, k, none⟩ (vb b) c (show c ≠ gp from hc ⟨gp, 0, none⟩ rfl)]; exact h.other c hc
  · obtain ⟨g, cs, he, hb, hl⟩ := h.ex h0
    cases he
    exact ⟨gp, _, rfl, hb.set k (vb b), by simpa using hl⟩
theorem Over.below {w6 wr : World} {A : Option Addr} {n B : Nat} (h : Over w6 A n wr) (hA : ∀ a, A = some a → B ≤ a.block) : Below B w6 wr :=
  ⟨h.os, h.tape, h.output, by rw [h.size]; exact Nat.le_refl _, fun k hk => h.other k (fun a ha => by have := hA a ha; omega)⟩
/-- a row of one's own, as it is read and written over -/
theorem Over.start {w5 w6 : World} {v : Value} {l : List By} (h : RowRel w5 5 (l.map vb) v w6) :
    ∃ A c, v = .slice A l.length c ∧ SrcIs w6 A l ∧ (A = none → c = 0) ∧ Over w6 A l.length w6 ∧ ∀ a, A = some a → w5.heap.size ≤ a.block ∧ a.block < w6.heap.size := by
  rcases h.own.2 with ⟨hv, h0⟩ | ⟨g, cap, cur, hv, hg, hc, hn, _, hs, ht⟩
  · rw [List.length_map] at h0
    have : l = [] := List.eq_nil_of_length_eq_zero h0
    subst this
    exact ⟨none, 0, hv, fun h => absurd h (by simp), fun _ => rfl, ⟨rfl, rfl, rfl, rfl, fun _ _ => rfl, fun h => absurd h (by simp)⟩, fun a ha => by cases ha⟩
  · rw [Nat.mul_one, List.length_map] at ht
    rw [List.length_map] at hv
    have hb : Blk w6 g 5 (l.map vb ++ cur.toList.drop l.length) := by rw [← ht, List.take_append_drop]; exact hc
    refine ⟨some ⟨g, 0, none⟩, cap, hv, bytes_src (Blk.bytes hb), (fun h => by cases h), ⟨rfl, rfl, rfl, rfl, fun _ _ => rfl, fun _ => ⟨g, _, rfl, hb, by simp⟩⟩, fun a ha => ?_⟩
    cases ha
    exact ⟨hg, hb.lt⟩
/-- a new reader, all of it in new blocks -/
def NewEx (l : List By) (w : World) (e : Ending) (w' : World) : Prop :=
  ∃ g A c, e = .returned (.pointer (some ⟨g, 0, none⟩)) ∧ w.heap.size ≤ g ∧ Blk w' g 82 [.slice A l.length c, .bool false] ∧ (A = none → c = 0) ∧ l.length ≤ c ∧ SrcIs w' A l ∧ (∀ a, A = some a → w.heap.size ≤ a.block ∧ a.block < g) ∧ Below w.heap.size w w'
set_option maxHeartbeats 1000000 in
theorem reader_ex (A : Option Addr) (c : Nat) (l : List By) (hl : l.length ≤ 1000000) (hN : A = none → c = 0) (w : World) (hA : SrcIs w A l) :
    Calls Try.prog 26 #[.slice A l.length c] w (NewEx l w) := by
  have HA := Lib.hid hA; have HN := Lib.hid hN
  clear hA hN
  go_enter Try.func26, Try.ntmps26
  go_wp2_with fail
  refine (clone_any A c l hl HN.out w HA.out).mono ?_
  rintro e w1 ⟨v1, rfl, hr⟩
  obtain ⟨A1, c1, rfl, hs1, hn1, hc1, hb1⟩ := hr.src
  have HB := Lib.hid hr.below
  have hsz := hr.below.size
  have HBK : Hid (Blk (w1.alloc (.cells #[.slice A1 l.length c1, .bool false] 82)) w1.heap.size 82 [.slice A1 l.length c1, .bool false]) := Blk.new w1 82 _
  have HS : Hid (SrcIs (w1.alloc (.cells #[.slice A1 l.length c1, .bool false] 82)) A1 l) := hs1.below ((Below.refl _ _).alloc (Nat.le_refl _) _)
  have HB2 : Hid (Below w.heap.size w (w1.alloc (.cells #[.slice A1 l.length c1, .bool false] 82))) := HB.out.alloc hsz _
  have HN1 := Lib.hid hn1; have HB1 := Lib.hid hb1
  clear hr hs1 hn1 hb1 HB
  go_wp2_with fail
  go_ret
  exact ⟨w1.heap.size, A1, c1, rfl, hsz, HBK.out, HN1.out, hc1, HS.out, HB1.out, HB2.out⟩
set_option maxHeartbeats 1000000 in
theorem own_short (A : Option Addr) (cap : Nat) (its : List It) (b : By) (hm : its.length ≤ maxLen) (hsh : shortsB its = false) (w : World) (hA : ItemsIs w A its) :
    Calls Try.prog 12 #[.slice A its.length cap, vb b] w fun e w' => e = .returned (.bool true) ∧ Below w.heap.size w w' := by
  have HA := Lib.hid hA; have HSH := Lib.hid hsh; have HM := Lib.hid hm
  clear hA hsh hm
  go_enter Try.func12, Try.ntmps12
  go_wp2_with fail
  refine (lays_any w).mono ?_
  rintro e w1 ⟨rfl, hb1⟩
  have HA1 := Lib.hid (HA.out.below hb1)
  have HB1 := Lib.hid hb1; clear hb1
  go_wp2_with fail
  refine (short_any A cap its HM.out w1 HA1.out).mono ?_
  rintro e w2 ⟨rfl, rfl⟩
  rw [HSH.out]
  go_wp2_with fail
  refine (lays_any w1).mono ?_
  rintro e w2 ⟨rfl, hb2⟩
  have HB2 : Hid (Below w.heap.size w w2) := HB1.out.trans (hb2.mono HB1.out.size)
  clear hb2
  go_wp2_with fail
  go_ret
  exact ⟨rfl, HB2.out⟩
theorem drop_step (l : List By) (k : Nat) (h : k < l.length) : l.drop k = [l[k]] ++ l.drop (k + 1) := by rw [List.drop_eq_getElem_cons h]; rfl
set_option maxHeartbeats 2000000 in
set_option maxRecDepth 100000 in
theorem own_items (A : Option Addr) (cap : Nat) (its : List It) (b : By) (hm : its.length ≤ maxLen) (hsh : shortsB its = true) (w : World) (hA : ItemsIs w A its) :
    Calls Try.prog 12 #[.slice A its.length cap, vb b] w fun e w' => e = .returned (.bool true) ∧ Below w.heap.size w w' := by
  have hl30 : its.length ≤ 30 := by simp only [shortsB, Bool.and_eq_true, decide_eq_true_eq] at hsh; exact hsh.2
  have hall := layN_le its hsh its.length (Nat.le_refl _)
  have HA := Lib.hid hA; have HSH := Lib.hid hsh; have HM := Lib.hid hm
  clear hA hsh hm
  go_enter Try.func12, Try.ntmps12
  go_wp2_with fail
  refine (lays_any w).mono ?_
  rintro e w1 ⟨rfl, hb1⟩
  have HA1 := Lib.hid (HA.out.below hb1)
  have HB1 := Lib.hid hb1; clear hb1
  go_wp2_with fail
  refine (short_any A cap its HM.out w1 HA1.out).mono ?_
  rintro e w2 ⟨rfl, rfl⟩
  rw [HSH.out]
  go_wp2_with fail
  refine (lay25_any A cap its HSH.out w1 HA1.out).mono ?_
  rintro e w4 ⟨A1, c1, A2, c2, rfl, -, -, hs2, -, hb2⟩
  have HB4 : Hid (Below w.heap.size w w4) := HB1.out.trans (hb2.mono HB1.out.size)
  have HS2 := Lib.hid hs2
  clear hs2 hb2 HA1 HB1 HA HM HSH
  generalize layN its its.length = all at *
  have hall2 : all.length ≤ 40000 := by omega
  have HW0 : Hid (∃ v', WrIs (w4.alloc (.cells #[.slice none 0 0] 62)) w4.heap.size w4.heap.size v' (all.take 0) ∧ Below w4.heap.size w4 (w4.alloc (.cells #[.slice none 0 0] 62))) := ⟨_, writer_new w4, (Below.refl _ _).alloc (Nat.le_refl _) _⟩
  clear hall
  go_wp2_with fail
  go_loopw [8] (fun vi wr => ∃ k : Nat, k ≤ all.length ∧ vi = .int .i64 k ∧ Hid (∃ v', WrIs wr w4.heap.size w4.heap.size v' (all.take k) ∧ Below w4.heap.size w4 wr)) (fun vi _ => all.length - (intOf vi).toNat)
  case atStart => exact ⟨0, Nat.zero_le _, rfl, HW0.out⟩
  case round =>
    clear HW0
    obtain ⟨k, hk, rfl, HR⟩ := hrel
    rename World => W0
    obtain ⟨v0, h1, h2⟩ := HR.out
    have HW := Lib.hid h1; have HBW := Lib.hid h2
    clear h1 h2 HR
    by_cases hlt : k < all.length
    · obtain ⟨bq, oq, hAe, hq⟩ := (HS2.out.below HBW.out) (by omega)
      subst hAe
      have c0 := hq k hlt
      have HT : Hid (all.take (k + 1) = all.take k ++ [all[k]]) := List.take_succ_eq_append_getElem hlt
      generalize all[k] = y at *
      clear hq
      go_wp2_with fail
      refine (wbyte_any w4.heap.size w4.heap.size v0 (all.take k) y (by simp; omega) W0 HW.out).mono ?_
      rintro e w6 ⟨rfl, v6, h1, t1⟩
      have HN : Hid (∃ v', WrIs w6 w4.heap.size w4.heap.size v' (all.take (k + 1)) ∧ Below w4.heap.size w4 w6) := ⟨v6, by rw [HT.out]; exact h1, HBW.out.trans (t1.below HW.out HBW.out.size)⟩
      clear h1 t1
      go_wp2_with fail
      go_roundw
      case rel => exact ⟨k + 1, by omega, by go_num, HN.out⟩
      case measure => simp [intOf]; omega
    · obtain rfl : k = all.length := by omega
      rw [List.take_length] at HW
      go_wp2_with fail
      refine (wbytes_any w4.heap.size w4.heap.size v0 all (by omega) W0 HW.out).mono ?_
      rintro e w6 ⟨v6, rfl, hr6⟩
      obtain ⟨A6, c6, rfl, -, -, hov6, hb6⟩ := Over.start hr6
      have HO6 := Lib.hid hov6; have HB6 := Lib.hid hb6; have HBR6 := Lib.hid hr6.below
      clear hr6 hov6 hb6
      go_wp2_with fail
      go_loopw [10] (fun vi wr => ∃ k : Nat, k ≤ all.length ∧ vi = .int .i64 k ∧ Hid (Over w6 A6 all.length wr)) (fun vi _ => all.length - (intOf vi).toNat)
      case atStart => exact ⟨0, Nat.zero_le _, rfl, HO6.out⟩
      case round =>
        clear HO6
        obtain ⟨k2, hk2, rfl, HO⟩ := hrel
        rename World => W2
        by_cases hlt2 : k2 < all.length
        · obtain ⟨gp, cs, hAe, hbk, hcl⟩ := HO.out.ex (by omega)
          subst hAe
          have c0 : W2.cell? ⟨gp, k2, none⟩ = some (cs[k2]'(by omega)) := by rw [hbk.cell, List.getElem?_eq_getElem (by omega)]
          have f0 := hbk.frozen k2
          have HS : Hid (Over w6 (some ⟨gp, 0, none⟩) all.length (W2.setCell ⟨gp, k2, none⟩ (vb b))) := HO.out.step b
          generalize cs[k2]'(by omega) = old at *
          clear hbk hcl HO
          go_wp2_with fail
          go_roundw
          case rel => exact ⟨k2 + 1, by omega, by go_num, HS.out⟩
          case measure => simp [intOf]; omega
        · have hbo := HO.out.below (B := W0.heap.size) (fun a ha => (HB6.out a ha).1)
          have HB7 : Hid (Below W0.heap.size W0 W2) := HBR6.out.trans hbo
          have HW2 := Lib.hid (HW.out.below HB7.out)
          have HB24 : Hid (Below w4.heap.size w4 W2) := HBW.out.trans (HB7.out.mono HBW.out.size)
          clear hbo HO HB6 HBR6
          go_wp2_with fail
          refine (wbytes_any w4.heap.size w4.heap.size v0 all (by omega) W2 HW2.out).mono ?_
          rintro e w8 ⟨v8, rfl, hr8⟩
          have HR8 := Lib.hid hr8
          obtain ⟨A8, c8, rfl, hs8, hn8, -, -⟩ := Over.start hr8
          have HS8 := Lib.hid hs8; have HN8 := Lib.hid hn8
          clear hr8 hs8 hn8
          go_wp2_with fail
          refine (reader_ex A8 c8 all (by omega) HN8.out w8 HS8.out).mono ?_
          rintro e w9 ⟨g, A9, c9, rfl, hg, hbk9, hn9, hc9, hs9, hb9, hbl9⟩
          obtain ⟨A8', c8', hv8, -, -, hov8, hb8⟩ := Over.start (HR8.out.below' hbl9)
          have HLT : Hid (∀ a, A8 = some a → a.block < w8.heap.size) := by
            obtain ⟨A', c', hv', -, -, -, hbb⟩ := Over.start HR8.out
            injection hv' with e1 e2 e3
            subst e1
            exact fun a ha => (hbb a ha).2
          injection hv8 with e1 e2 e3
          subst e1 e3
          have HO8 := Lib.hid hov8; have HB8 := Lib.hid hb8
          have HK9 := Lib.hid hbk9; have HN9 := Lib.hid hn9; have HS9 := Lib.hid hs9; have HB9 := Lib.hid hb9
          have HW8 : Hid (W2.heap.size ≤ w8.heap.size) := HR8.out.below.size
          have HB92 : Hid (Below W2.heap.size W2 w9) := HR8.out.below.trans (hbl9.mono HR8.out.below.size)
          clear hov8 hb8 hbk9 hn9 hs9 hb9 hbl9 e2 HR8 HS8
          go_wp2_with fail
          go_loopw [13] (fun vi wr => ∃ k : Nat, k ≤ all.length ∧ vi = .int .i64 k ∧ Hid (Over w9 A8 all.length wr)) (fun vi _ => all.length - (intOf vi).toNat)
          case atStart => exact ⟨0, Nat.zero_le _, rfl, HO8.out⟩
          case round =>
            clear HO8
            obtain ⟨k3, hk3, rfl, HO⟩ := hrel
            rename World => W3
            by_cases hlt3 : k3 < all.length
            · obtain ⟨gp, cs, hAe, hbk, hcl⟩ := HO.out.ex (by omega)
              subst hAe
              have c0 : W3.cell? ⟨gp, k3, none⟩ = some (cs[k3]'(by omega)) := by rw [hbk.cell, List.getElem?_eq_getElem (by omega)]
              have f0 := hbk.frozen k3
              have HS : Hid (Over w9 (some ⟨gp, 0, none⟩) all.length (W3.setCell ⟨gp, k3, none⟩ (vb b))) := HO.out.step b
              generalize cs[k3]'(by omega) = old at *
              clear hbk hcl HO
              go_wp2_with fail
              go_roundw
              case rel => exact ⟨k3 + 1, by omega, by go_num, HS.out⟩
              case measure => simp [intOf]; omega
            · have hne : ∀ c, w8.heap.size ≤ c → W3.heap[c]? = w9.heap[c]? := fun c hc => HO.out.other c (fun a ha => by have := HLT.out a ha; omega)
              have HRD : Hid (RdIs W3 82 g g ⟨all.drop 0, false⟩) := by
                refine ⟨⟨A9, c9, ?_, HN9.out, by simpa using hc9, ?_, fun _ a ha => (HB9.out a ha).2⟩, Nat.le_refl _⟩
                · unfold Blk; rw [hne g hg]; have := HK9.out; unfold Blk at this; simpa using this
                · intro h0
                  rw [List.drop_zero] at h0 ⊢
                  obtain ⟨b', o', he, hc'⟩ := HS9.out h0
                  exact ⟨b', o', he, hc'.same (hne b' (HB9.out _ he).1)⟩
              have HB3 : Hid (Below w4.heap.size w4 W3) := HB24.out.trans ((HB92.out.trans (HO.out.below (B := W2.heap.size) (fun a ha => (HB8.out a ha).1))).mono HB24.out.size)
              have hgw4 : w4.heap.size ≤ g := Nat.le_trans (Nat.le_trans HB24.out.size HW8.out) hg
              clear hne HO HK9 HN9 HS9 HB9 HB8 HB92 HLT HW2 HB7 HB24
              go_wp2_with fail
              go_loopw [14] (fun vi wr => ∃ k : Nat, k ≤ all.length ∧ vi = .int .i64 k ∧ Hid (RdIs wr 82 g g ⟨all.drop k, false⟩ ∧ Below w4.heap.size w4 wr)) (fun vi _ => all.length - (intOf vi).toNat)
              case atStart => exact ⟨0, Nat.zero_le _, rfl, HRD.out, HB3.out⟩
              case round =>
                clear HRD HB3
                obtain ⟨k4, hk4, rfl, HX⟩ := hrel
                rename World => W4
                have HR4 := Lib.hid HX.out.1; have HB4' := Lib.hid HX.out.2
                clear HX
                by_cases hlt4 : k4 < all.length
                · obtain ⟨bq, oq, hAe, hq⟩ := (HS2.out.below HB4'.out) (by omega)
                  subst hAe
                  have k0 : W4.drew.cell? ⟨bq, oq + k4, none⟩ = some (vb all[k4]) := hq k4 hlt4
                  have hbq : bq < w4.heap.size := (HS2.out (by omega)).elim fun b' h => h.elim fun o' h => by have h1 := h.1; cases h1; exact h.2.lt (by omega)
                  have HRD4 : Hid (RdIs W4.drew 82 g g ⟨[all[k4]] ++ all.drop (k4 + 1), false⟩) := by
                    show RdIs _ _ _ _ _
                    rw [← drop_step all k4 hlt4]; exact ⟨HR4.out.ex, HR4.out.le⟩
                  have HBD4 : Hid (Below w4.heap.size w4 W4.drew) := HB4'.out.drew
                  have hyb : all[k4].toNat < 256 := all[k4].toNat_lt
                  generalize all[k4] = y at *
                  obtain ⟨eb1, eb2⟩ := byte_back y (all.drop (k4 + 1)) false
                  have HE1 := Lib.hid eb1; have HE2 := Lib.hid eb2
                  have hdl : (all.drop (k4 + 1)).length ≤ all.length := by simp
                  have HXL : Hid (([y] ++ all.drop (k4 + 1)).length ≤ 1000000) := by show _ ≤ _; rw [List.length_append]; simp only [List.length_cons, List.length_nil]; omega
                  have hw4s := HBD4.out.size
                  clear eb1 eb2 hq HR4 HB4'
                  go_wp2_with fail
                  go_region_held3 (fun w' => w'.cell? ⟨bq, oq + k4, none⟩ = some (vb y))
                    (first | exact k0 | exact k1)
                    (first
                      | (go_at_call 27
                         refine (byte_any g g _ HXL.out W4.drew HRD4.out).mono ?_
                         rintro e w10 ⟨rfl, h1, o1⟩
                         rw [HE1.out]
                         rw [HE2.out] at h1
                         have k1 : w10.cell? ⟨bq, oq + k4, none⟩ = some (vb y) := by
                           rw [World.cell?_of_block (w := W4.drew) (a := ⟨bq, oq + k4, none⟩) (o1.other bq (Nat.lt_of_lt_of_le hbq hw4s) (by omega))]; exact k0
                         have HN : Hid (RdIs w10 82 g g ⟨all.drop (k4 + 1), false⟩ ∧ Below w4.heap.size w4 w10) := ⟨h1, HBD4.out.trans (o1.below hgw4 hw4s)⟩
                         clear h1 o1))
                  clear k0 k1
                  go_wp2_with fail
                  go_roundw
                  case rel => exact ⟨k4 + 1, by omega, by go_num, HN.out⟩
                  case measure => simp [intOf]; omega
                · obtain rfl : k4 = all.length := by omega
                  have hr := HR4.out
                  rw [List.drop_length] at hr
                  have HRR := Lib.hid hr
                  clear hr HR4
                  go_wp2_with fail
                  refine (end_any g g ⟨[], false⟩ W4 HRR.out).mono ?_
                  rintro e w11 ⟨rfl, rfl⟩
                  rw [show endR ⟨[], false⟩ = 0 from rfl]
                  go_wp2_with fail
                  go_ret
                  exact ⟨rfl, HB4.out.trans (HB4'.out.mono HB4.out.size)⟩
theorem wown_all (A : Option Addr) (cap : Nat) (its : List It) (b : By) (hm : its.length ≤ maxLen) (w : World) (hA : ItemsIs w A its) :
    Calls Try.prog 12 #[.slice A its.length cap, vb b] w fun e w' => e = .returned (.bool true) ∧ Below w.heap.size w w' := by
  cases h : shortsB its with
  | true => exact own_items A cap its b hm h w hA
  | false => exact own_short A cap its b hm h w hA
end Go.Proofs.Ytefifdejepafgaa
