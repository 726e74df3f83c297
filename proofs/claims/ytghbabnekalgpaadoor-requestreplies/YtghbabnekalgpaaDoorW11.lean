/- The contract of the reference's Texts; two slices of texts that are alike. -/
import Derived.Test.YtghbabnekalgpaaDoorW10
namespace Go.Proofs.YtghbabnekalgpaaDoor
open Go.RowKit BaseMath WireMath

set_option maxHeartbeats 2000000 in
set_option maxRecDepth 100000 in
theorem itexts_any (top g : Nat) (most : Int) (r : Rd) (hr : r.p.length ≤ 1000000) (hok : r.ok) (w : World) (h : RdIs w 125 top g r) :
    Calls Tryd.prog 74 #[.pointer (some ⟨g, 0, none⟩), .int .i64 most] w (TextsPost w 125 top g (textsR most r) (textsA most r)) := by
  obtain ⟨i9, hi9, hz0, hz1, hz2⟩ := info_parts info9
  have H := Lib.hid h
  have hgw : g < w.heap.size := by obtain ⟨_, _, hb, _⟩ := h.ex; exact hb.lt
  have hlt : numR 1 r < 256 := numR_lt 1 r
  have hal := after_len 1 r
  have HI := Lib.hid hi9; have HZ0 := Lib.hid hz0; have HZ1 := Lib.hid hz1; have HZ2 := Lib.hid hz2
  have HOK := Lib.hid (ok_after hok 1); have HOK0 := Lib.hid hok
  have HALL : Hid (textsAll most r = textsGo (numR 1 r - 0) [] (texts0 most r)) := rfl
  have HTR : Hid (textsR most r = if (textsAll most r).2.f then [] else (textsAll most r).1) := rfl
  have HTA : Hid (textsA most r = (textsAll most r).2) := rfl
  clear h hi9 hz0 hz1 hz2 hok
  go_enter Tryd.func74, Tryd.ntmps74
  go_wp2_with fail
  refine (iwide_any top g 1 (by decide) r hr HOK0.out w H.out).mono ?_
  rintro e w1 ⟨rfl, h1, h2⟩
  have HR1 := Lib.hid h1; have HO1 := Lib.hid h2
  clear h1 h2 H
  by_cases hm : most < (numR 1 r : Int)
  · have HT0 : Hid (texts0 most r = fails) := by show _ = _; unfold texts0; rw [if_pos hm]
    rw [HT0.out] at HALL
    generalize textsAll most r = all at *
    generalize numR 1 r = n at *
    obtain ⟨A0, cc0, hblk, -, -, -, -⟩ := HR1.out.ex
    have c0 := hblk.cell 0; have c1 := hblk.cell 1
    have f0 := hblk.frozen 0; have f1 := hblk.frozen 1
    simp only [List.getElem?_cons_zero, List.getElem?_cons_succ] at c0 c1
    have h1 : RdIs ((w1.setCell ⟨g, 0, none⟩ (.slice none 0 0)).setCell ⟨g, 1, none⟩ (.bool true)) 125 top g fails :=
      ⟨⟨none, 0, Blk.set2 hblk _ _, fun _ => rfl, Nat.le_refl _, (fun h => absurd h (by simp [fails])), (fun _ a ha => by cases ha)⟩, HR1.out.le⟩
    have h2 : OnlyAt g w1 ((w1.setCell ⟨g, 0, none⟩ (.slice none 0 0)).setCell ⟨g, 1, none⟩ (.bool true)) := ((OnlyAt.refl g w1).setCell 0 _).setCell 1 _
    have HX : Hid (TxRel w 125 top g n all r.p.length 0 (.slice none 0 0) true ((w1.setCell ⟨g, 0, none⟩ (.slice none 0 0)).setCell ⟨g, 1, none⟩ (.bool true))) :=
      ⟨⟨[], fails, World.ownsRow_nil _ _ _ _, h1, ok_fails, Nat.zero_le _, rfl, HALL.out.symm, rfl⟩, HO1.out.trans h2⟩
    clear h1 h2 HR1 HO1 HALL HOK HOK0 HT0 hblk
    go_wp2_with fail
    go_loopw [6, 7] (fun v vk wr => ∃ k : Nat, k ≤ n ∧ vk = .int .i64 k ∧ Hid (∃ f, TxRel w 125 top g n all r.p.length k v f wr)) (fun _ vk _ => n - (intOf vk).toNat)
    case atStart => exact ⟨0, Nat.zero_le _, rfl, _, HX.out⟩
    case round =>
      clear HX c0 c1 f0 f1
      obtain ⟨k, hk, rfl, HXX⟩ := hrel
      rename World => W0
      obtain ⟨f, hx⟩ := HXX.out
      obtain ⟨acc, r1, ho, hr1, hok1, hlen, hacc, hgo, hf⟩ := hx.ex
      have HO := Lib.hid ho; have HR := Lib.hid hr1; have HK1 := Lib.hid hok1; have HACC := Lib.hid hacc; have HGO := Lib.hid hgo; have HF := Lib.hid hf; have HON := Lib.hid hx.only
      clear HXX hx ho hr1 hok1 hacc hgo hf
      by_cases hkn : k < n
      · cases f with
        | true =>
          have HE : Hid (all = (acc, r1)) := HGO.out.symm.trans (textsGo_end n k acc r1 (.inr HF.out))
          rw [HE.out] at HTR HTA
          simp only [HF.out, if_true] at HTR HTA
          obtain ⟨A1, cc1, hb1, -, -, -, -⟩ := HR.out.ex
          have c1 := hb1.cell 1
          simp only [List.getElem?_cons_zero, List.getElem?_cons_succ] at c1
          rw [HF.out] at c1
          clear hb1
          go_wp2_with fail
          go_ret
          exact ⟨_, rfl, by rw [HTR.out]; exact World.ownsRow_nil _ _ _ _, by rw [HTA.out]; exact HR.out, HON.out⟩
        | false =>
          have HSTEP := Lib.hid (textsGo_step n k acc r1 hkn HF.out)
          rw [HGO.out] at HSTEP
          have hsz := HON.out.size
          obtain ⟨A1, cc1, hb1, -, -, -, -⟩ := HR.out.ex
          have c1 := hb1.cell 1
          simp only [List.getElem?_cons_zero, List.getElem?_cons_succ] at c1
          rw [HF.out] at c1
          clear hb1
          go_wp2_with fail
          refine (itext_any top g r1 (by omega) HK1.out W0 HR.out).mono ?_
          rintro e w3 ⟨rfl, h1, h2⟩
          have HR3 := Lib.hid h1; have HON3 := Lib.hid (HON.out.trans h2)
          have HO3 : Hid (w3.ownsRow w.heap.size 9 1 _ acc.length (acc.map vs)) := ownsRow_keep HO.out (fun c hc => h2.other c (HO.out.lt c hc).2 (by have := (HO.out.lt c hc).1; omega))
          have hsz3 := HON3.out.size
          have HTL := Lib.hid (textA_len r1)
          have HKA := Lib.hid (ok_textA HK1.out)
          clear h1 h2 HR HO HON HK1 c1
          generalize textR r1 = tx at *
          generalize textA r1 = r2 at *
          go_wp2_with (refine wpList_append_own _ rfl (.tmp 32) (.tmp 35) 32 rfl w.heap.size 9 i9 (.string ⟨#[]⟩) 1 16 Tryd.underlying32 HI.out HZ0.out HZ1.out HZ2.out rfl (by decide) _ acc.length (acc.map vs) rfl (HO3.out.alloc _) ⟨w3.heap.size, 0, none⟩ 1 1 [vs tx] rfl rfl (new_cells w3 9 [vs tx]) (by intro y hy; rw [List.mem_singleton.1 hy]; rfl) (by unfold maxLen; have := HACC.out; omega) (by have := HACC.out; omega) (by simp; omega) ?_)
          intro v4 w4 ho4 hg4 _
          have hrow : ∀ c, _ → w.heap.size ≤ c := fun c hc => (HO3.out.lt c hc).1
          have HON4 : Hid (OnlyAt g w w4) := (HON3.out.alloc _).grown hg4 hrow
          have HR4 : Hid (RdIs w4 125 top g r2) := (HR3.out.below ((Below.refl w3.heap.size w3).alloc (Nat.le_refl _) _) (by omega)).below ((Below.refl w.heap.size _).grown hg4 (by simp; omega) hrow) hgw
          have HX4 : Hid (∃ f, TxRel w 125 top g n all r.p.length (k + 1) v4 f w4) := ⟨r2.f, ⟨acc ++ [tx], r2, by rw [List.length_append, List.map_append]; exact ho4, HR4.out, HKA.out, Nat.le_trans HTL.out hlen, by rw [List.length_append, HACC.out]; rfl, HSTEP.out.symm, rfl⟩, HON4.out⟩
          clear ho4 hg4 hrow HON4 HR4 HR3 HON3 HO3
          go_wp2_with fail
          go_roundw
          case rel => exact ⟨k + 1, by omega, by go_num, HX4.out⟩
          case measure => simp [intOf]; omega
      · obtain rfl : k = n := by omega
        have HE : Hid (all = (acc, r1)) := HGO.out.symm.trans (textsGo_end k k acc r1 (.inl (Nat.le_refl _)))
        rw [HE.out] at HTR HTA
        cases f with
        | true =>
          simp only [HF.out, if_true] at HTR HTA
          obtain ⟨A1, cc1, hb1, -, -, -, -⟩ := HR.out.ex
          have c1 := hb1.cell 1
          simp only [List.getElem?_cons_zero, List.getElem?_cons_succ] at c1
          rw [HF.out] at c1
          clear hb1
          go_wp2_with fail
          go_ret
          exact ⟨_, rfl, by rw [HTR.out]; exact World.ownsRow_nil _ _ _ _, by rw [HTA.out]; exact HR.out, HON.out⟩
        | false =>
          simp only [HF.out, Bool.false_eq_true, if_false] at HTR HTA
          obtain ⟨A1, cc1, hb1, -, -, -, -⟩ := HR.out.ex
          have c1 := hb1.cell 1
          simp only [List.getElem?_cons_zero, List.getElem?_cons_succ] at c1
          rw [HF.out] at c1
          clear hb1
          go_wp2_with fail
          go_ret
          exact ⟨_, rfl, by rw [HTR.out]; exact HO.out, by rw [HTA.out]; exact HR.out, HON.out⟩
  · have HT0 : Hid (texts0 most r = after 1 r) := by show _ = _; unfold texts0; rw [if_neg hm]
    rw [HT0.out] at HALL
    generalize textsAll most r = all at *
    generalize numR 1 r = n at *
    have HX : Hid (TxRel w 125 top g n all r.p.length 0 (.slice none 0 0) (after 1 r).f w1) :=
      ⟨⟨[], after 1 r, World.ownsRow_nil _ _ _ _, HR1.out, HOK.out, hal, rfl, HALL.out.symm, rfl⟩, HO1.out⟩
    clear HR1 HO1 HALL HOK HOK0 HT0
    go_wp2_with fail
    go_loopw [6, 7] (fun v vk wr => ∃ k : Nat, k ≤ n ∧ vk = .int .i64 k ∧ Hid (∃ f, TxRel w 125 top g n all r.p.length k v f wr)) (fun _ vk _ => n - (intOf vk).toNat)
    case atStart => exact ⟨0, Nat.zero_le _, rfl, _, HX.out⟩
    case round =>
      clear HX
      obtain ⟨k, hk, rfl, HXX⟩ := hrel
      rename World => W0
      obtain ⟨f, hx⟩ := HXX.out
      obtain ⟨acc, r1, ho, hr1, hok1, hlen, hacc, hgo, hf⟩ := hx.ex
      have HO := Lib.hid ho; have HR := Lib.hid hr1; have HK1 := Lib.hid hok1; have HACC := Lib.hid hacc; have HGO := Lib.hid hgo; have HF := Lib.hid hf; have HON := Lib.hid hx.only
      clear HXX hx ho hr1 hok1 hacc hgo hf
      by_cases hkn : k < n
      · cases f with
        | true =>
          have HE : Hid (all = (acc, r1)) := HGO.out.symm.trans (textsGo_end n k acc r1 (.inr HF.out))
          rw [HE.out] at HTR HTA
          simp only [HF.out, if_true] at HTR HTA
          obtain ⟨A1, cc1, hb1, -, -, -, -⟩ := HR.out.ex
          have c1 := hb1.cell 1
          simp only [List.getElem?_cons_zero, List.getElem?_cons_succ] at c1
          rw [HF.out] at c1
          clear hb1
          go_wp2_with fail
          go_ret
          exact ⟨_, rfl, by rw [HTR.out]; exact World.ownsRow_nil _ _ _ _, by rw [HTA.out]; exact HR.out, HON.out⟩
        | false =>
          have HSTEP := Lib.hid (textsGo_step n k acc r1 hkn HF.out)
          rw [HGO.out] at HSTEP
          have hsz := HON.out.size
          obtain ⟨A1, cc1, hb1, -, -, -, -⟩ := HR.out.ex
          have c1 := hb1.cell 1
          simp only [List.getElem?_cons_zero, List.getElem?_cons_succ] at c1
          rw [HF.out] at c1
          clear hb1
          go_wp2_with fail
          refine (itext_any top g r1 (by omega) HK1.out W0 HR.out).mono ?_
          rintro e w3 ⟨rfl, h1, h2⟩
          have HR3 := Lib.hid h1; have HON3 := Lib.hid (HON.out.trans h2)
          have HO3 : Hid (w3.ownsRow w.heap.size 9 1 _ acc.length (acc.map vs)) := ownsRow_keep HO.out (fun c hc => h2.other c (HO.out.lt c hc).2 (by have := (HO.out.lt c hc).1; omega))
          have hsz3 := HON3.out.size
          have HTL := Lib.hid (textA_len r1)
          have HKA := Lib.hid (ok_textA HK1.out)
          clear h1 h2 HR HO HON HK1 c1
          generalize textR r1 = tx at *
          generalize textA r1 = r2 at *
          go_wp2_with (refine wpList_append_own _ rfl (.tmp 32) (.tmp 35) 32 rfl w.heap.size 9 i9 (.string ⟨#[]⟩) 1 16 Tryd.underlying32 HI.out HZ0.out HZ1.out HZ2.out rfl (by decide) _ acc.length (acc.map vs) rfl (HO3.out.alloc _) ⟨w3.heap.size, 0, none⟩ 1 1 [vs tx] rfl rfl (new_cells w3 9 [vs tx]) (by intro y hy; rw [List.mem_singleton.1 hy]; rfl) (by unfold maxLen; have := HACC.out; omega) (by have := HACC.out; omega) (by simp; omega) ?_)
          intro v4 w4 ho4 hg4 _
          have hrow : ∀ c, _ → w.heap.size ≤ c := fun c hc => (HO3.out.lt c hc).1
          have HON4 : Hid (OnlyAt g w w4) := (HON3.out.alloc _).grown hg4 hrow
          have HR4 : Hid (RdIs w4 125 top g r2) := (HR3.out.below ((Below.refl w3.heap.size w3).alloc (Nat.le_refl _) _) (by omega)).below ((Below.refl w.heap.size _).grown hg4 (by simp; omega) hrow) hgw
          have HX4 : Hid (∃ f, TxRel w 125 top g n all r.p.length (k + 1) v4 f w4) := ⟨r2.f, ⟨acc ++ [tx], r2, by rw [List.length_append, List.map_append]; exact ho4, HR4.out, HKA.out, Nat.le_trans HTL.out hlen, by rw [List.length_append, HACC.out]; rfl, HSTEP.out.symm, rfl⟩, HON4.out⟩
          clear ho4 hg4 hrow HON4 HR4 HR3 HON3 HO3
          go_wp2_with fail
          go_roundw
          case rel => exact ⟨k + 1, by omega, by go_num, HX4.out⟩
          case measure => simp [intOf]; omega
      · obtain rfl : k = n := by omega
        have HE : Hid (all = (acc, r1)) := HGO.out.symm.trans (textsGo_end k k acc r1 (.inl (Nat.le_refl _)))
        rw [HE.out] at HTR HTA
        cases f with
        | true =>
          simp only [HF.out, if_true] at HTR HTA
          obtain ⟨A1, cc1, hb1, -, -, -, -⟩ := HR.out.ex
          have c1 := hb1.cell 1
          simp only [List.getElem?_cons_zero, List.getElem?_cons_succ] at c1
          rw [HF.out] at c1
          clear hb1
          go_wp2_with fail
          go_ret
          exact ⟨_, rfl, by rw [HTR.out]; exact World.ownsRow_nil _ _ _ _, by rw [HTA.out]; exact HR.out, HON.out⟩
        | false =>
          simp only [HF.out, Bool.false_eq_true, if_false] at HTR HTA
          obtain ⟨A1, cc1, hb1, -, -, -, -⟩ := HR.out.ex
          have c1 := hb1.cell 1
          simp only [List.getElem?_cons_zero, List.getElem?_cons_succ] at c1
          rw [HF.out] at c1
          clear hb1
          go_wp2_with fail
          go_ret
          exact ⟨_, rfl, by rw [HTR.out]; exact HO.out, by rw [HTA.out]; exact HR.out, HON.out⟩
set_option maxRecDepth 100000 in
set_option maxHeartbeats 1000000 in
theorem texts_same (A B : Option Addr) (ca cb : Nat) (ls : List (List By)) (hl : ls.length ≤ 100000) (w : World) (hA : StrsIs w A ls) (hB : StrsIs w B ls) :
    Calls Tryd.prog 53 #[.slice A ls.length ca, .slice B ls.length cb] w fun e w' => e = .returned (.bool true) ∧ ∃ q, w' = w.drewN q := by
  have HA := Lib.hid hA; have HB := Lib.hid hB
  clear hA hB
  go_enter Tryd.func53, Tryd.ntmps53
  go_wp2_with fail
  go_loopw [5] (fun vi wr => ∃ k : Nat, k ≤ ls.length ∧ vi = .int .i64 k ∧ Hid (∃ q, wr = w.drewN q)) (fun vi _ => ls.length - (intOf vi).toNat)
  case atStart => exact ⟨0, Nat.zero_le _, rfl, 0, rfl⟩
  case round =>
    obtain ⟨k, hk, rfl, HR⟩ := hrel
    rename World => W0
    by_cases hlt : k < ls.length
    · obtain ⟨a, oa, rfl, ha⟩ := HA.out (by omega)
      obtain ⟨b, ob, rfl, hb⟩ := HB.out (by omega)
      obtain ⟨q, rfl⟩ := HR.out
      have c1 : w.cell? ⟨a, oa + k, none⟩ = some (vs ls[k]) := ha k hlt
      have c2 : w.cell? ⟨b, ob + k, none⟩ = some (vs ls[k]) := hb k hlt
      generalize ls[k] = x at *
      clear ha hb HA HB HR
      go_wp2_with fail
      go_quiet (fail)
      go_wp2_with fail
      go_roundw
      case rel => exact ⟨k + 1, by omega, by go_num, _, rfl⟩
      case measure => simp [intOf]; omega
    · obtain rfl : k = ls.length := by omega
      go_wp2_with fail
      go_ret
      exact ⟨rfl, HR.out⟩
set_option maxRecDepth 100000 in
/-- the texts that a call has made, as a source -/
theorem own_strs {w : World} {base : Nat} {v : Value} {ls : List (List By)} (h : w.ownsRow base 9 1 v ls.length (ls.map vs)) :
    ∃ A c, v = .slice A ls.length c ∧ StrsIs w A ls ∧ (∀ a, A = some a → base ≤ a.block ∧ a.block < w.heap.size) := by
  rcases h.2 with ⟨hv, h0⟩ | ⟨g, cap, cur, hv, hg, hc, hn, _, hs, ht⟩
  · have : ls = [] := List.eq_nil_of_length_eq_zero h0
    subst this
    exact ⟨none, 0, hv, fun h => absurd h (by simp), fun a ha => by cases ha⟩
  · rw [Nat.mul_one] at ht
    have hb : Blk w g 9 (ls.map vs ++ cur.toList.drop ls.length) := by rw [← ht, List.take_append_drop]; exact hc
    refine ⟨some ⟨g, 0, none⟩, cap, hv, fun _ => ⟨g, 0, rfl, fun k hk => ?_⟩, fun a ha => ?_⟩
    · rw [Nat.zero_add, hb.cell, List.getElem?_append_left (by simpa using hk)]; simp [hk]
    · cases ha; exact ⟨hg, hb.lt⟩
set_option maxRecDepth 100000 in
theorem StrsIs.only {w w' : World} {A : Option Addr} {ls : List (List By)} {g : Nat} (h : StrsIs w A ls) (ho : OnlyAt g w w') (hA : ∀ a, A = some a → a.block ≠ g ∧ a.block < w.heap.size) : StrsIs w' A ls := fun h0 => by
  obtain ⟨b, o, rfl, hc⟩ := h h0
  refine ⟨b, o, rfl, fun k hk => ?_⟩
  rw [World.cell?_of_block (w := w) (a := ⟨b, o + k, none⟩) (ho.other b (hA _ rfl).2 (hA _ rfl).1)]; exact hc k hk
end Go.Proofs.YtghbabnekalgpaaDoor
