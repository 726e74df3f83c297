/- The contracts of the reference's Drop, Undo, Keys. -/
import Derived.Test.YtkmjknehbaofcaaR18
import Derived.Deep.RegionHeld3
import Derived.BigQuiet
namespace Go.Proofs.Ytkmjknehbaofcaa
open Go.RowKit Go.Maps Go.WideShapes Go.MapKept Go.WideMaps Go.ChangeMaps BaseMath WireMath NameMath ScanMath

def DropPost (w : World) (l : List It) (was : List (List It)) (b : Bool) (e : Ending) (w' : World) : Prop := (∃ v, e = .returned (.tuple #[v, .bool b]) ∧ RT w' v l was) ∧ Below w.heap.size w w'
theorem kept_row {w w' : World} {b : Nat} {cs cs' : List Value} (hrs : RowSet w b 29 cs w') (h : Blk w b 29 cs') : Kept2 w w' := fun q cs t ht hb => by
  rw [hrs.other q (fun e => by
    subst e
    unfold Blk at h; rw [hb] at h; injection h with h; injection h with _ h3
    rcases ht with rfl | rfl
    · cases h3
    · cases h3)]
  exact hb
theorem kept_two {w : World} {b : Nat} {x y u v : Value} (h : Blk w b 29 [x, y]) : Kept2 w ((w.setCell ⟨b, 0, none⟩ u).setCell ⟨b, 1, none⟩ v) :=
  (Kept2.set h (by decide) (by decide) u).trans (Kept2.set (by have := h.set 0 u; simpa using this : Blk _ b 29 [u, y]) (by decide) (by decide) v)
set_option maxHeartbeats 4000000 in
set_option maxRecDepth 100000 in
theorem rdrop_no (mv : Value) (l : List It) (was : List (List It)) (k : List By) (w : World) (h : RT w mv l was) (hl : l.length ≤ 100000) (hf : (findR l k).2 = false) :
    Calls Try.prog 14 #[mv, vs k] w (DropPost w l was false) := by
  obtain ⟨A, c, WA, wc, rfl, hA, hW⟩ := h
  have HA := Lib.hid hA; have HW := Lib.hid hW; have HF := Lib.hid hf
  clear hA hW hf
  go_enter Try.func14, Try.ntmps14
  have hB1 : Below w.heap.size w ((w.alloc (.cells #[.slice A l.length c, .slice WA was.length wc] 29)).alloc (.cells #[ns, ns] 29)) := ((Below.refl _ _).alloc (Nat.le_refl _) _).alloc (by simp) _
  have hbx : Blk ((w.alloc (.cells #[.slice A l.length c, .slice WA was.length wc] 29)).alloc (.cells #[ns, ns] 29)) w.heap.size 29 [.slice A l.length c, .slice WA was.length wc] := (Blk.new w 29 _).alloc _
  have hbr : Blk ((w.alloc (.cells #[.slice A l.length c, .slice WA was.length wc] 29)).alloc (.cells #[ns, ns] 29)) (w.heap.size + 1) 29 [ns, ns] := by
    have := Blk.new (w.alloc (.cells #[.slice A l.length c, .slice WA was.length wc] 29)) 29 #[ns, ns]
    simpa using this
  have HB1 := Lib.hid hB1; have HBX := Lib.hid hbx; have HBR := Lib.hid hbr
  clear hB1 hbx hbr
  go_upto_region 1 with fail
  generalize (w.alloc (.cells #[.slice A l.length c, .slice WA was.length wc] 29)).alloc (.cells #[ns, ns] 29) = w1 at *
  have hw1 : w.heap.size + 1 < w1.heap.size := Blk.lt HBR.out
  have HG := Lib.hid (rget_any A c l (.slice WA was.length wc) k w1 (HA.out.kept (Kept2.of_below HB1.out)).its hl)
  have y0 := HBX.out.cell 0; have y1 := HBX.out.cell 1
  simp only [List.getElem?_cons_zero, List.getElem?_cons_succ] at y0 y1
  rw [HF.out] at HG
  go_wp2_with fail
  refine HG.out.mono ?_
  rintro e w2 ⟨rfl, hb2⟩
  have HB2 := Lib.hid (HB1.out.trans (hb2.mono HB1.out.size))
  have HBR2 := Lib.hid (HBR.out.below hb2 hw1)
  have hx2 := HBX.out.below hb2 (by omega)
  clear y0 y1
  have y0 := hx2.cell 0; have y1 := hx2.cell 1
  simp only [List.getElem?_cons_zero, List.getElem?_cons_succ] at y0 y1
  clear hb2 hx2 HBX HBR HG
  go_wp2_with (refine wpList_store_blk rfl (.tmp 4) (.tmp 16) rfl rfl (cs' := [.slice A l.length c, .slice WA was.length wc]) rfl HBR2.out rfl info29 rfl ?_)
  intro w8 hrs
  have d0 := hrs.blk.cell 0; have d1 := hrs.blk.cell 1
  simp only [List.getElem?_cons_zero, List.getElem?_cons_succ] at d0 d1
  have hb8 : Below w.heap.size w w8 := hrs.below _ _ HB2.out (by omega)
  have HFI : Hid (RT w8 (.agg #[.slice A l.length c, .slice WA was.length wc]) l was) := ⟨A, c, WA, wc, rfl, HA.out.kept (Kept2.of_below hb8), HW.out.1.kept (Kept2.of_below hb8), HW.out.2⟩
  have HB8 := Lib.hid hb8
  clear hrs hb8 y0 y1
  go_wp2_with fail
  exact bodyPost_ret (v := .tuple #[.agg #[.slice A l.length c, .slice WA was.length wc], .bool false]) (by simp [results, Try.results14, go_sem, *]) rfl ⟨⟨_, rfl, HFI.out⟩, HB8.out⟩
set_option maxHeartbeats 4000000 in
set_option maxRecDepth 100000 in
theorem rdrop_yes (mv : Value) (l : List It) (was : List (List It)) (k : List By) (w : World) (h : RT w mv l was) (hl : l.length ≤ 100000) (hwl : was.length ≤ 1000) (hf : (findR l k).2 = true) :
    Calls Try.prog 14 #[mv, vs k] w (DropPost w (withoutR l k) (was ++ [l]) true) := by
  have HRT := Lib.hid h
  obtain ⟨A, c, WA, wc, rfl, hA, hW⟩ := h
  have HA := Lib.hid hA; have HW := Lib.hid hW; have HF := Lib.hid hf
  clear hA hW hf
  go_enter Try.func14, Try.ntmps14
  have hB1 : Below w.heap.size w ((w.alloc (.cells #[.slice A l.length c, .slice WA was.length wc] 29)).alloc (.cells #[ns, ns] 29)) := ((Below.refl _ _).alloc (Nat.le_refl _) _).alloc (by simp) _
  have hbx : Blk ((w.alloc (.cells #[.slice A l.length c, .slice WA was.length wc] 29)).alloc (.cells #[ns, ns] 29)) w.heap.size 29 [.slice A l.length c, .slice WA was.length wc] := (Blk.new w 29 _).alloc _
  have hbr : Blk ((w.alloc (.cells #[.slice A l.length c, .slice WA was.length wc] 29)).alloc (.cells #[ns, ns] 29)) (w.heap.size + 1) 29 [ns, ns] := by
    have := Blk.new (w.alloc (.cells #[.slice A l.length c, .slice WA was.length wc] 29)) 29 #[ns, ns]
    simpa using this
  have HB1 := Lib.hid hB1; have HBX := Lib.hid hbx; have HBR := Lib.hid hbr
  clear hB1 hbx hbr
  go_upto_region 1 with fail
  generalize (w.alloc (.cells #[.slice A l.length c, .slice WA was.length wc] 29)).alloc (.cells #[ns, ns] 29) = w1 at *
  have hw1 : w.heap.size + 1 < w1.heap.size := Blk.lt HBR.out
  have HG := Lib.hid (rget_any A c l (.slice WA was.length wc) k w1 (HA.out.kept (Kept2.of_below HB1.out)).its hl)
  have y0 := HBX.out.cell 0; have y1 := HBX.out.cell 1
  simp only [List.getElem?_cons_zero, List.getElem?_cons_succ] at y0 y1
  rw [HF.out] at HG
  go_wp2_with fail
  refine HG.out.mono ?_
  rintro e w2 ⟨rfl, hb2⟩
  have HB2 := Lib.hid (HB1.out.trans (hb2.mono HB1.out.size))
  have HBR2 : Hid (Blk w2.drew (w.heap.size + 1) 29 [ns, ns]) := HBR.out.below hb2.drew hw1
  have HBX2 : Hid (Blk w2.drew w.heap.size 29 [.slice A l.length c, .slice WA was.length wc]) := HBX.out.below hb2.drew (by omega)
  clear y0 y1 hb2 HBX HBR HG
  go_upto_region 4 with fail
  have HB3 : Hid (Below w.heap.size w w2.drew) := HB2.out.drew
  have k3 : w2.drew.cell? ⟨w.heap.size, 0, none⟩ = some (.slice A l.length c) ∧ w2.drew.cell? ⟨w.heap.size, 1, none⟩ = some (.slice WA was.length wc) := ⟨HBX2.out.cell 0, HBX2.out.cell 1⟩
  have HRTW : Hid (∀ W, Below w.heap.size w W → RT W (.agg #[.slice A l.length c, .slice WA was.length wc]) l was) := fun W hW => HRT.out.kept (Kept2.of_below hW)
  have HWO : Hid (Calls Try.prog 36 #[.slice A l.length c, vs k] w2.drew fun e w' => ∃ v, e = .returned v ∧ ItRow w2.drew (withoutR l k) v w') := rwithout_any A c l k w2.drew (HA.out.kept (Kept2.of_below HB3.out)).its hl
  go_region_held3 (fun W => W.cell? ⟨w.heap.size, 0, none⟩ = some (.slice A l.length c) ∧ W.cell? ⟨w.heap.size, 1, none⟩ = some (.slice WA was.length wc))
    (first | with_reducible exact k3 | with_reducible exact k4 | with_reducible exact k5 | with_reducible exact k6)
    (first
      | (go_at_call 36
         with_reducible refine HWO.out.mono ?_
         rintro e w4 ⟨v4, rfl, hr4⟩
         obtain ⟨A4, c4, rfl, hi4⟩ := hr4.itsT
         have HI4 := Lib.hid hi4
         have HB4 : Hid (Below w.heap.size w w4) := HB3.out.trans (hr4.below.mono HB3.out.size)
         have HBX4 := Lib.hid (HBX2.out.below hr4.below (Blk.lt HBX2.out))
         have HBR4 := Lib.hid (HBR2.out.below hr4.below (Blk.lt HBR2.out))
         have k4 : w4.cell? ⟨w.heap.size, 0, none⟩ = some (.slice A l.length c) ∧ w4.cell? ⟨w.heap.size, 1, none⟩ = some (.slice WA was.length wc) := ⟨HBX4.out.cell 0, HBX4.out.cell 1⟩
         have HTH : Hid (Calls Try.prog 35 #[.agg #[.slice A l.length c, .slice WA was.length wc], .slice A4 (withoutR l k).length c4] w4 (ThenPost w4 (withoutR l k) (was ++ [l]))) := rthen_any _ l (withoutR l k) was A4 c4 w4 (HRTW.out w4 HB4.out) hi4 hwl
         clear hr4 hi4)
      | (go_at_call 35
         with_reducible refine HTH.out.mono ?_
         rintro e w5 ⟨⟨v5, rfl, hrt5⟩, hb5⟩
         obtain ⟨A5, c5, WA5, wc5, rfl, hi5, hw5⟩ := hrt5
         have HB5 : Hid (Below w.heap.size w w5) := HB4.out.trans (hb5.mono HB4.out.size)
         have HBX5 := Lib.hid (HBX4.out.below hb5 (Blk.lt HBX4.out))
         have HBR5 := Lib.hid (HBR4.out.below hb5 (Blk.lt HBR4.out))
         have k5 : w5.cell? ⟨w.heap.size, 0, none⟩ = some (.slice A l.length c) ∧ w5.cell? ⟨w.heap.size, 1, none⟩ = some (.slice WA was.length wc) := ⟨HBX5.out.cell 0, HBX5.out.cell 1⟩
         have HBX6 : Hid (Blk ((w5.setCell ⟨w.heap.size + 1, 0, none⟩ (.slice A5 (withoutR l k).length c5)).setCell ⟨w.heap.size + 1, 1, none⟩ (.slice WA5 (was.length + 1) wc5)) w.heap.size 29 [.slice A l.length c, .slice WA was.length wc]) := (HBX5.out.other (by simp only; omega) _).other (by simp only; omega) _
         have k6 : ((w5.setCell ⟨w.heap.size + 1, 0, none⟩ (.slice A5 (withoutR l k).length c5)).setCell ⟨w.heap.size + 1, 1, none⟩ (.slice WA5 (was.length + 1) wc5)).cell? ⟨w.heap.size, 0, none⟩ = some (.slice A l.length c) ∧ ((w5.setCell ⟨w.heap.size + 1, 0, none⟩ (.slice A5 (withoutR l k).length c5)).setCell ⟨w.heap.size + 1, 1, none⟩ (.slice WA5 (was.length + 1) wc5)).cell? ⟨w.heap.size, 1, none⟩ = some (.slice WA was.length wc) := ⟨HBX6.out.cell 0, HBX6.out.cell 1⟩
         have g0 := HBR5.out.frozen 0; have g1 := HBR5.out.frozen 1
         have r0 := HBR5.out.cell 0; have r1 := HBR5.out.cell 1
         simp only [List.getElem?_cons_zero, List.getElem?_cons_succ] at r0 r1
         have HI5 := Lib.hid hi5; have HW5 := Lib.hid hw5
         clear hb5 hi5 hw5)
      | fail)
  have hbr6 : Blk ((w5.setCell ⟨w.heap.size + 1, 0, none⟩ (.slice A5 (withoutR l k).length c5)).setCell ⟨w.heap.size + 1, 1, none⟩ (.slice WA5 (was.length + 1) wc5)) (w.heap.size + 1) 29 [.slice A5 (withoutR l k).length c5, .slice WA5 (was.length + 1) wc5] := by
    have := (HBR5.out.set 0 (.slice A5 (withoutR l k).length c5)).set 1 (.slice WA5 (was.length + 1) wc5)
    simpa using this
  have hkp : Kept2 w5 ((w5.setCell ⟨w.heap.size + 1, 0, none⟩ (.slice A5 (withoutR l k).length c5)).setCell ⟨w.heap.size + 1, 1, none⟩ (.slice WA5 (was.length + 1) wc5)) := kept_two HBR5.out
  have hb6 : Below w.heap.size w ((w5.setCell ⟨w.heap.size + 1, 0, none⟩ (.slice A5 (withoutR l k).length c5)).setCell ⟨w.heap.size + 1, 1, none⟩ (.slice WA5 (was.length + 1) wc5)) := (HB5.out.setCell (by simp only; omega) _).setCell (by simp only; omega) _
  have HFI : Hid (RT ((w5.setCell ⟨w.heap.size + 1, 0, none⟩ (.slice A5 (withoutR l k).length c5)).setCell ⟨w.heap.size + 1, 1, none⟩ (.slice WA5 (was.length + 1) wc5)) (.agg #[.slice A5 (withoutR l k).length c5, .slice WA5 (was.length + 1) wc5]) (withoutR l k) (was ++ [l])) := ⟨A5, c5, WA5, wc5, by simp, HI5.out.kept hkp, HW5.out.1.kept hkp, HW5.out.2⟩
  have HB6 := Lib.hid hb6
  have d0 := hbr6.cell 0; have d1 := hbr6.cell 1
  simp only [List.getElem?_cons_zero, List.getElem?_cons_succ] at d0 d1
  clear hbr6 hkp hb6 k3 k4 k5 k6 g0 g1 r0 r1
  generalize (w5.setCell ⟨w.heap.size + 1, 0, none⟩ (.slice A5 (withoutR l k).length c5)).setCell ⟨w.heap.size + 1, 1, none⟩ (.slice WA5 (was.length + 1) wc5) = W6 at *
  go_wp2_with fail
  exact bodyPost_ret (v := .tuple #[.agg #[.slice A5 (withoutR l k).length c5, .slice WA5 (was.length + 1) wc5], .bool true]) (by simp [results, Try.results14, go_sem, *]) rfl ⟨⟨_, rfl, HFI.out⟩, HB6.out⟩
/-- UNDO -/
theorem undoR_cases (was : List (List It)) (m : Int) : (was.length : Int) ≤ (if m < 0 then 0 else m) ∨ ∃ k : Nat, k < was.length ∧ k = m.toNat ∧ (if m < 0 then (0 : Int) else m) = k := by
  by_cases h : m < 0
  · rw [if_pos h]
    by_cases h0 : was.length = 0
    · exact .inl (by omega)
    · exact .inr ⟨0, by omega, by omega, rfl⟩
  · rw [if_neg h]
    by_cases h1 : (was.length : Int) ≤ m
    · exact .inl h1
    · exact .inr ⟨m.toNat, by omega, rfl, by omega⟩
def UndoR (w : World) (l : List It) (was : List (List It)) (m : Int) (e : Ending) (w' : World) : Prop := (∃ v l' was', e = .returned v ∧ RT w' v l' was' ∧ ((was.length ≤ m.toNat ∧ l' = l ∧ was' = was) ∨ ∃ h : m.toNat < was.length, l' = was[m.toNat] ∧ was' = was.take m.toNat)) ∧ Below w.heap.size w w'
set_option maxHeartbeats 4000000 in
set_option maxRecDepth 100000 in
theorem rundo_any (mv : Value) (l : List It) (was : List (List It)) (m : Int) (w : World) (h : RT w mv l was) (hwl : was.length ≤ 1000) :
    Calls Try.prog 17 #[mv, .int .i64 m] w (UndoR w l was m) := by
  obtain ⟨A, c, WA, wc, rfl, hA, ⟨vals, hV, hW⟩, hN, hwc⟩ := h
  have HA := Lib.hid hA; have HV := Lib.hid hV; have HW := Lib.hid hW; have HN := Lib.hid hN
  have hcs := undoR_cases was m
  have hsg : m < 0 ∨ ¬ m < 0 := Classical.em _
  clear hA hV hW hN
  have HWT : Hid (WasT w WA was) := ⟨vals, HV.out, HW.out⟩
  rcases hsg with hsg | hsg
  · rw [if_pos hsg] at hcs
    rcases hcs with hge | ⟨k, hk, hkm, hmk⟩
    · obtain rfl : was = [] := List.eq_nil_of_length_eq_zero (by omega)
      have HGE : Hid (([] : List (List It)).length ≤ m.toNat) := by show _ ≤ _; simp
      show Calls Try.prog 17 #[.agg #[.slice A l.length c, .slice WA 0 wc], .int .i64 m] w (UndoR w l [] m)
      clear hge hwl HW HV
      go_enter Try.func17, Try.ntmps17
      have hB1 : Below w.heap.size w ((w.alloc (.cells #[.slice A l.length c, .slice WA 0 wc] 29)).alloc (.cells #[ns, ns] 29)) := ((Below.refl _ _).alloc (Nat.le_refl _) _).alloc (by simp) _
      have hbx : Blk ((w.alloc (.cells #[.slice A l.length c, .slice WA 0 wc] 29)).alloc (.cells #[ns, ns] 29)) w.heap.size 29 [.slice A l.length c, .slice WA 0 wc] := (Blk.new w 29 _).alloc _
      have hbr : Blk ((w.alloc (.cells #[.slice A l.length c, .slice WA 0 wc] 29)).alloc (.cells #[ns, ns] 29)) (w.heap.size + 1) 29 [ns, ns] := by
        have := Blk.new (w.alloc (.cells #[.slice A l.length c, .slice WA 0 wc] 29)) 29 #[ns, ns]
        simpa using this
      have HB1 := Lib.hid hB1; have HBX := Lib.hid hbx; have HBR := Lib.hid hbr
      clear hB1 hbx hbr
      go_upto_region 1 with fail
      generalize (w.alloc (.cells #[.slice A l.length c, .slice WA 0 wc] 29)).alloc (.cells #[ns, ns] 29) = w1 at *
      have hw1 : w.heap.size + 1 < w1.heap.size := Blk.lt HBR.out
      have y0 := HBX.out.cell 0; have y1 := HBX.out.cell 1
      simp only [List.getElem?_cons_zero, List.getElem?_cons_succ] at y0 y1
      go_wp2_with (refine wpList_store_blk rfl (.tmp 4) (.tmp 12) rfl rfl (cs' := [.slice A l.length c, .slice WA 0 wc]) rfl HBR.out rfl info29 rfl ?_)
      intro w8 hrs
      have d0 := hrs.blk.cell 0; have d1 := hrs.blk.cell 1
      simp only [List.getElem?_cons_zero, List.getElem?_cons_succ] at d0 d1
      have hb8 : Below w.heap.size w w8 := hrs.below _ _ HB1.out (by omega)
      have HFI : Hid (UndoR w l [] m (.returned (.agg #[.slice A l.length c, .slice WA 0 wc])) w8) := ⟨⟨_, l, [], rfl, ⟨A, c, WA, wc, rfl, HA.out.kept (Kept2.of_below hb8), WasT.kept HWT.out (Kept2.of_below hb8), HN.out, hwc⟩, .inl ⟨HGE.out, rfl, rfl⟩⟩, hb8⟩
      clear hrs hb8 y0 y1
      go_wp2_with fail
      exact bodyPost_ret (v := .agg #[.slice A l.length c, .slice WA 0 wc]) (by simp [results, Try.results17, go_sem, *]) rfl HFI.out
    · have hk0 : k = 0 := by omega
      obtain ⟨b, o, cs, rfl, hb, hc⟩ := HW.out (by omega)
      obtain ⟨A2, c2, hv2, hi2⟩ := HV.out.2 k hk
      have hck := hc k hk
      rw [hv2] at hck
      have HBL : Hid (b < w.heap.size) := (Array.getElem?_eq_some_iff.1 hb).1
      have HI2 := Lib.hid hi2
      have HKM := Lib.hid hkm
      clear hkm
      go_enter Try.func17, Try.ntmps17
      have hB1 : Below w.heap.size w ((w.alloc (.cells #[.slice A l.length c, .slice (some ⟨b, o, none⟩) was.length wc] 29)).alloc (.cells #[ns, ns] 29)) := ((Below.refl _ _).alloc (Nat.le_refl _) _).alloc (by simp) _
      have hbx : Blk ((w.alloc (.cells #[.slice A l.length c, .slice (some ⟨b, o, none⟩) was.length wc] 29)).alloc (.cells #[ns, ns] 29)) w.heap.size 29 [.slice A l.length c, .slice (some ⟨b, o, none⟩) was.length wc] := (Blk.new w 29 _).alloc _
      have hbr : Blk ((w.alloc (.cells #[.slice A l.length c, .slice (some ⟨b, o, none⟩) was.length wc] 29)).alloc (.cells #[ns, ns] 29)) (w.heap.size + 1) 29 [ns, ns] := by
        have := Blk.new (w.alloc (.cells #[.slice A l.length c, .slice (some ⟨b, o, none⟩) was.length wc] 29)) 29 #[ns, ns]
        simpa using this
      have HB1 := Lib.hid hB1; have HBX := Lib.hid hbx; have HBR := Lib.hid hbr
      clear hB1 hbx hbr
      go_upto_region 1 with fail
      generalize (w.alloc (.cells #[.slice A l.length c, .slice (some ⟨b, o, none⟩) was.length wc] 29)).alloc (.cells #[ns, ns] 29) = w1 at *
      have hw1 : w.heap.size + 1 < w1.heap.size := Blk.lt HBR.out
      have y0 := HBX.out.cell 0; have y1 := HBX.out.cell 1
      simp only [List.getElem?_cons_zero, List.getElem?_cons_succ] at y0 y1
      have c0 : w1.cell? ⟨b, o, none⟩ = some (.slice A2 was[k].length c2) := by
        rw [show o + k = o by omega] at hck
        rw [cell_of_row w1 b _ cs 26 (0, 0) (Kept2.of_below HB1.out b cs 26 (.inr rfl) hb)]; exact hck
      have HWT2 : Hid (∀ w8, Below w.heap.size w w8 → UndoR w l was m (.returned (.agg #[.slice A2 was[k].length c2, .slice (some ⟨b, o, none⟩) 0 wc])) w8) := fun w8 hb8 => by
        rw [show (0 : Nat) = k from hk0.symm]
        have hkm := HKM.out
        have hkm2 : m.toNat < was.length := by omega
        refine ⟨⟨_, was[k], was.take k, rfl, ⟨A2, c2, some ⟨b, o, none⟩, wc, by simp; omega, HI2.out.kept (Kept2.of_below hb8), WasT.kept ⟨vals.take k, HV.out.take k, fun _ => ⟨b, o, cs, rfl, hb, fun i hi => ?_⟩⟩ (Kept2.of_below hb8), (fun e => by cases e), by simp; omega⟩, .inr ⟨hkm2, by subst hkm; rfl, by subst hkm; rfl⟩⟩, hb8⟩
        have : i < k := by simp at hi; omega
        rw [hc i (by omega), List.getElem?_take_of_lt this]
      generalize was[k].length = n2 at *
      have hk1 : (0 : Int) ≤ (k : Int) := by omega
      have hk2 : (k : Int) < (was.length : Int) := by omega
      have hk3 : (k : Int) ≤ (wc : Int) := by omega
      have hk4 : ¬ (was.length : Int) ≤ (k : Int) := by omega
      have g0 := HBR.out.frozen 0; have g1 := HBR.out.frozen 1
      have r0 := HBR.out.cell 0; have r1 := HBR.out.cell 1
      simp only [List.getElem?_cons_zero, List.getElem?_cons_succ] at r0 r1
      clear hv2 hck hc hb hi2
      clear hmk hk0 hk1 hk2 hk3 hk4
      have hk2 : (0 : Int) < (was.length : Int) := by omega
      have hk5 : 0 < was.length := by omega
      have hne : ¬ was = [] := fun e => by rw [e] at hk; cases hk
      go_upto_region 5 with fail
      have hbx6 : Blk (((w1.setCell ⟨w.heap.size + 1, 0, none⟩ (.slice A2 n2 c2)).setCell ⟨w.heap.size + 1, 1, none⟩ (.slice (some ⟨b, o, none⟩) 0 wc)).drew) w.heap.size 29 [.slice A l.length c, .slice (some ⟨b, o, none⟩) was.length wc] := (HBX.out.other (by simp only; omega) _).other (by simp only; omega) _
      have hbr6 : Blk (((w1.setCell ⟨w.heap.size + 1, 0, none⟩ (.slice A2 n2 c2)).setCell ⟨w.heap.size + 1, 1, none⟩ (.slice (some ⟨b, o, none⟩) 0 wc)).drew) (w.heap.size + 1) 29 [.slice A2 n2 c2, .slice (some ⟨b, o, none⟩) 0 wc] := by
        have h2 : Blk ((w1.setCell ⟨w.heap.size + 1, 0, none⟩ (.slice A2 n2 c2)).setCell ⟨w.heap.size + 1, 1, none⟩ (.slice (some ⟨b, o, none⟩) 0 wc)) (w.heap.size + 1) 29 [.slice A2 n2 c2, .slice (some ⟨b, o, none⟩) 0 wc] := by
          have := (HBR.out.set 0 (.slice A2 n2 c2)).set 1 (.slice (some ⟨b, o, none⟩) 0 wc)
          simpa using this
        exact h2
      have hb6 : Below w.heap.size w (((w1.setCell ⟨w.heap.size + 1, 0, none⟩ (.slice A2 n2 c2)).setCell ⟨w.heap.size + 1, 1, none⟩ (.slice (some ⟨b, o, none⟩) 0 wc)).drew) := ((HB1.out.setCell (by simp only; omega) _).setCell (by simp only; omega) _).drew
      have hbw : b < w.heap.size := HBL.out
      have k1 : w1.drew.cell? ⟨w.heap.size, 1, none⟩ = some (.slice (some ⟨b, o, none⟩) was.length wc) ∧ w1.drew.cell? ⟨b, o, none⟩ = some (.slice A2 n2 c2) := ⟨y1, c0⟩
      have k2 : (((w1.setCell ⟨w.heap.size + 1, 0, none⟩ (.slice A2 n2 c2)).setCell ⟨w.heap.size + 1, 1, none⟩ (.slice (some ⟨b, o, none⟩) 0 wc)).drew).cell? ⟨w.heap.size, 1, none⟩ = some (.slice (some ⟨b, o, none⟩) was.length wc) ∧ (((w1.setCell ⟨w.heap.size + 1, 0, none⟩ (.slice A2 n2 c2)).setCell ⟨w.heap.size + 1, 1, none⟩ (.slice (some ⟨b, o, none⟩) 0 wc)).drew).cell? ⟨b, o, none⟩ = some (.slice A2 n2 c2) := ⟨hbx6.cell 1, by
        rw [((((Below.refl (w.heap.size + 1) w1).setCell (show w.heap.size + 1 ≤ w.heap.size + 1 by omega) _).setCell (show w.heap.size + 1 ≤ w.heap.size + 1 by omega) _).drew).cell (p := ⟨b, o, none⟩) (by simp only; omega)]; exact c0⟩
      have HFI := Lib.hid (HWT2.out _ hb6)
      have d0 := hbr6.cell 0; have d1 := hbr6.cell 1
      simp only [List.getElem?_cons_zero, List.getElem?_cons_succ] at d0 d1
      have D0 := Lib.hid d0; have D1 := Lib.hid d1
      clear hbx6 hbr6 hb6 HWT2 d0 d1
      go_region_held3 (fun W => W.cell? ⟨w.heap.size, 1, none⟩ = some (.slice (some ⟨b, o, none⟩) was.length wc) ∧ W.cell? ⟨b, o, none⟩ = some (.slice A2 n2 c2)) (first | with_reducible exact k1 | with_reducible exact k2) (fail)
      have d0 := D0.out; have d1 := D1.out
      clear D0 D1 k1 k2 g0 g1 r0 r1 c0 y0 y1
      generalize ((w1.setCell ⟨w.heap.size + 1, 0, none⟩ (.slice A2 n2 c2)).setCell ⟨w.heap.size + 1, 1, none⟩ (.slice (some ⟨b, o, none⟩) 0 wc)).drew = W6 at *
      go_wp2_with fail
      exact bodyPost_ret (v := .agg #[.slice A2 n2 c2, .slice (some ⟨b, o, none⟩) 0 wc]) (by simp [results, Try.results17, go_sem, *]) rfl HFI.out
  · rw [if_neg hsg] at hcs
    rcases hcs with hge | ⟨k, hk, hkm, hmk⟩
    · have HGE : Hid (was.length ≤ m.toNat) := by show _ ≤ _; omega
      clear HW HV
      go_enter Try.func17, Try.ntmps17
      have hB1 : Below w.heap.size w ((w.alloc (.cells #[.slice A l.length c, .slice WA was.length wc] 29)).alloc (.cells #[ns, ns] 29)) := ((Below.refl _ _).alloc (Nat.le_refl _) _).alloc (by simp) _
      have hbx : Blk ((w.alloc (.cells #[.slice A l.length c, .slice WA was.length wc] 29)).alloc (.cells #[ns, ns] 29)) w.heap.size 29 [.slice A l.length c, .slice WA was.length wc] := (Blk.new w 29 _).alloc _
      have hbr : Blk ((w.alloc (.cells #[.slice A l.length c, .slice WA was.length wc] 29)).alloc (.cells #[ns, ns] 29)) (w.heap.size + 1) 29 [ns, ns] := by
        have := Blk.new (w.alloc (.cells #[.slice A l.length c, .slice WA was.length wc] 29)) 29 #[ns, ns]
        simpa using this
      have HB1 := Lib.hid hB1; have HBX := Lib.hid hbx; have HBR := Lib.hid hbr
      clear hB1 hbx hbr
      go_upto_region 1 with fail
      generalize (w.alloc (.cells #[.slice A l.length c, .slice WA was.length wc] 29)).alloc (.cells #[ns, ns] 29) = w1 at *
      have hw1 : w.heap.size + 1 < w1.heap.size := Blk.lt HBR.out
      have y0 := HBX.out.cell 0; have y1 := HBX.out.cell 1
      simp only [List.getElem?_cons_zero, List.getElem?_cons_succ] at y0 y1
      go_wp2_with (refine wpList_store_blk rfl (.tmp 4) (.tmp 12) rfl rfl (cs' := [.slice A l.length c, .slice WA was.length wc]) rfl HBR.out rfl info29 rfl ?_)
      intro w8 hrs
      have d0 := hrs.blk.cell 0; have d1 := hrs.blk.cell 1
      simp only [List.getElem?_cons_zero, List.getElem?_cons_succ] at d0 d1
      have hb8 : Below w.heap.size w w8 := hrs.below _ _ HB1.out (by omega)
      have HFI : Hid (UndoR w l was m (.returned (.agg #[.slice A l.length c, .slice WA was.length wc])) w8) := ⟨⟨_, l, was, rfl, ⟨A, c, WA, wc, rfl, HA.out.kept (Kept2.of_below hb8), WasT.kept HWT.out (Kept2.of_below hb8), HN.out, hwc⟩, .inl ⟨HGE.out, rfl, rfl⟩⟩, hb8⟩
      clear hrs hb8 y0 y1
      go_wp2_with fail
      exact bodyPost_ret (v := .agg #[.slice A l.length c, .slice WA was.length wc]) (by simp [results, Try.results17, go_sem, *]) rfl HFI.out
    · obtain rfl : m = (k : Int) := hmk
      obtain ⟨b, o, cs, rfl, hb, hc⟩ := HW.out (by omega)
      obtain ⟨A2, c2, hv2, hi2⟩ := HV.out.2 k hk
      have hck := hc k hk
      rw [hv2] at hck
      have HBL : Hid (b < w.heap.size) := (Array.getElem?_eq_some_iff.1 hb).1
      have HI2 := Lib.hid hi2
      have HKM := Lib.hid hkm
      clear hkm
      go_enter Try.func17, Try.ntmps17
      have hB1 : Below w.heap.size w ((w.alloc (.cells #[.slice A l.length c, .slice (some ⟨b, o, none⟩) was.length wc] 29)).alloc (.cells #[ns, ns] 29)) := ((Below.refl _ _).alloc (Nat.le_refl _) _).alloc (by simp) _
      have hbx : Blk ((w.alloc (.cells #[.slice A l.length c, .slice (some ⟨b, o, none⟩) was.length wc] 29)).alloc (.cells #[ns, ns] 29)) w.heap.size 29 [.slice A l.length c, .slice (some ⟨b, o, none⟩) was.length wc] := (Blk.new w 29 _).alloc _
      have hbr : Blk ((w.alloc (.cells #[.slice A l.length c, .slice (some ⟨b, o, none⟩) was.length wc] 29)).alloc (.cells #[ns, ns] 29)) (w.heap.size + 1) 29 [ns, ns] := by
        have := Blk.new (w.alloc (.cells #[.slice A l.length c, .slice (some ⟨b, o, none⟩) was.length wc] 29)) 29 #[ns, ns]
        simpa using this
      have HB1 := Lib.hid hB1; have HBX := Lib.hid hbx; have HBR := Lib.hid hbr
      clear hB1 hbx hbr
      go_upto_region 1 with fail
      generalize (w.alloc (.cells #[.slice A l.length c, .slice (some ⟨b, o, none⟩) was.length wc] 29)).alloc (.cells #[ns, ns] 29) = w1 at *
      have hw1 : w.heap.size + 1 < w1.heap.size := Blk.lt HBR.out
      have y0 := HBX.out.cell 0; have y1 := HBX.out.cell 1
      simp only [List.getElem?_cons_zero, List.getElem?_cons_succ] at y0 y1
      have c0 : w1.cell? ⟨b, o + k, none⟩ = some (.slice A2 was[k].length c2) := by rw [cell_of_row w1 b _ cs 26 (0, 0) (Kept2.of_below HB1.out b cs 26 (.inr rfl) hb)]; exact hck
      have HWT2 : Hid (∀ w8, Below w.heap.size w w8 → UndoR w l was (k : Int) (.returned (.agg #[.slice A2 was[k].length c2, .slice (some ⟨b, o, none⟩) k wc])) w8) := fun w8 hb8 => by
        have hkm := HKM.out
        have hkm2 : ((k : Nat) : Int).toNat < was.length := by omega
        refine ⟨⟨_, was[k], was.take k, rfl, ⟨A2, c2, some ⟨b, o, none⟩, wc, by simp; omega, HI2.out.kept (Kept2.of_below hb8), WasT.kept ⟨vals.take k, HV.out.take k, fun _ => ⟨b, o, cs, rfl, hb, fun i hi => ?_⟩⟩ (Kept2.of_below hb8), (fun e => by cases e), by simp; omega⟩, .inr ⟨hkm2, by simp, by simp⟩⟩, hb8⟩
        have : i < k := by simp at hi; omega
        rw [hc i (by omega), List.getElem?_take_of_lt this]
      generalize was[k].length = n2 at *
      have hk1 : (0 : Int) ≤ (k : Int) := by omega
      have hk2 : (k : Int) < (was.length : Int) := by omega
      have hk3 : (k : Int) ≤ (wc : Int) := by omega
      have hk4 : ¬ (was.length : Int) ≤ (k : Int) := by omega
      have g0 := HBR.out.frozen 0; have g1 := HBR.out.frozen 1
      have r0 := HBR.out.cell 0; have r1 := HBR.out.cell 1
      simp only [List.getElem?_cons_zero, List.getElem?_cons_succ] at r0 r1
      clear hv2 hck hc hb hi2
      go_upto_region 5 with fail
      have hbx6 : Blk (((w1.setCell ⟨w.heap.size + 1, 0, none⟩ (.slice A2 n2 c2)).setCell ⟨w.heap.size + 1, 1, none⟩ (.slice (some ⟨b, o, none⟩) k wc)).drew) w.heap.size 29 [.slice A l.length c, .slice (some ⟨b, o, none⟩) was.length wc] := (HBX.out.other (by simp only; omega) _).other (by simp only; omega) _
      have hbr6 : Blk (((w1.setCell ⟨w.heap.size + 1, 0, none⟩ (.slice A2 n2 c2)).setCell ⟨w.heap.size + 1, 1, none⟩ (.slice (some ⟨b, o, none⟩) k wc)).drew) (w.heap.size + 1) 29 [.slice A2 n2 c2, .slice (some ⟨b, o, none⟩) k wc] := by
        have h2 : Blk ((w1.setCell ⟨w.heap.size + 1, 0, none⟩ (.slice A2 n2 c2)).setCell ⟨w.heap.size + 1, 1, none⟩ (.slice (some ⟨b, o, none⟩) k wc)) (w.heap.size + 1) 29 [.slice A2 n2 c2, .slice (some ⟨b, o, none⟩) k wc] := by
          have := (HBR.out.set 0 (.slice A2 n2 c2)).set 1 (.slice (some ⟨b, o, none⟩) k wc)
          simpa using this
        exact h2
      have hb6 : Below w.heap.size w (((w1.setCell ⟨w.heap.size + 1, 0, none⟩ (.slice A2 n2 c2)).setCell ⟨w.heap.size + 1, 1, none⟩ (.slice (some ⟨b, o, none⟩) k wc)).drew) := ((HB1.out.setCell (by simp only; omega) _).setCell (by simp only; omega) _).drew
      have hbw : b < w.heap.size := HBL.out
      have k1 : w1.drew.cell? ⟨w.heap.size, 1, none⟩ = some (.slice (some ⟨b, o, none⟩) was.length wc) ∧ w1.drew.cell? ⟨b, o + k, none⟩ = some (.slice A2 n2 c2) := ⟨y1, c0⟩
      have k2 : (((w1.setCell ⟨w.heap.size + 1, 0, none⟩ (.slice A2 n2 c2)).setCell ⟨w.heap.size + 1, 1, none⟩ (.slice (some ⟨b, o, none⟩) k wc)).drew).cell? ⟨w.heap.size, 1, none⟩ = some (.slice (some ⟨b, o, none⟩) was.length wc) ∧ (((w1.setCell ⟨w.heap.size + 1, 0, none⟩ (.slice A2 n2 c2)).setCell ⟨w.heap.size + 1, 1, none⟩ (.slice (some ⟨b, o, none⟩) k wc)).drew).cell? ⟨b, o + k, none⟩ = some (.slice A2 n2 c2) := ⟨hbx6.cell 1, by
        rw [((((Below.refl (w.heap.size + 1) w1).setCell (show w.heap.size + 1 ≤ w.heap.size + 1 by omega) _).setCell (show w.heap.size + 1 ≤ w.heap.size + 1 by omega) _).drew).cell (p := ⟨b, o + k, none⟩) (by simp only; omega)]; exact c0⟩
      have HFI := Lib.hid (HWT2.out _ hb6)
      have d0 := hbr6.cell 0; have d1 := hbr6.cell 1
      simp only [List.getElem?_cons_zero, List.getElem?_cons_succ] at d0 d1
      have D0 := Lib.hid d0; have D1 := Lib.hid d1
      clear hbx6 hbr6 hb6 HWT2 d0 d1
      go_region_held3 (fun W => W.cell? ⟨w.heap.size, 1, none⟩ = some (.slice (some ⟨b, o, none⟩) was.length wc) ∧ W.cell? ⟨b, o + k, none⟩ = some (.slice A2 n2 c2)) (first | with_reducible exact k1 | with_reducible exact k2) (fail)
      have d0 := D0.out; have d1 := D1.out
      clear D0 D1 k1 k2 g0 g1 r0 r1 c0 y0 y1
      generalize ((w1.setCell ⟨w.heap.size + 1, 0, none⟩ (.slice A2 n2 c2)).setCell ⟨w.heap.size + 1, 1, none⟩ (.slice (some ⟨b, o, none⟩) k wc)).drew = W6 at *
      go_wp2_with fail
      exact bodyPost_ret (v := .agg #[.slice A2 n2 c2, .slice (some ⟨b, o, none⟩) k wc]) (by simp [results, Try.results17, go_sem, *]) rfl HFI.out
end Go.Proofs.Ytkmjknehbaofcaa
