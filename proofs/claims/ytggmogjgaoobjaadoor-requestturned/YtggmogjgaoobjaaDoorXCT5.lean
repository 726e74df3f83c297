/- The contracts of the reference's reader: take, Wide, Text, Whole. -/
import Derived.Test.YtggmogjgaoobjaaDoorXCT4
namespace Go.Proofs.YtggmogjgaoobjaaDoor
open Go.RowKit BaseMath WireMath

set_option maxRecDepth 100000 in
theorem ok_failed {r : Rd} (h : r.ok) (hf : r.f = true) : r = fails := by
  obtain ⟨p, f⟩ := r
  simp only at hf
  subst hf
  have := h rfl
  simp only at this
  subst this; rfl
set_option maxRecDepth 100000 in
set_option maxHeartbeats 1000000 in
theorem itake_fail (top g n : Nat) (r : Rd) (hx : r.f = true ∨ (r.f = false ∧ r.p.length < n)) (w : World) (h : RdIs w 125 top g r) :
    Calls Tryd.prog 95 #[.pointer (some ⟨g, 0, none⟩), .int .i64 n] w fun e w' => e = .returned (.slice none 0 0) ∧ RdIs w' 125 top g fails ∧ OnlyAt g w w' := by
  obtain ⟨A, c, hblk, -, -, -, -⟩ := h.ex
  have c0 := hblk.cell 0; have c1 := hblk.cell 1
  have f0 := hblk.frozen 0; have f1 := hblk.frozen 1
  simp only [List.getElem?_cons_zero, List.getElem?_cons_succ] at c0 c1
  have HN : Hid (RdIs ((w.setCell ⟨g, 0, none⟩ (.slice none 0 0)).setCell ⟨g, 1, none⟩ (.bool true)) 125 top g fails) :=
    ⟨⟨none, 0, Blk.set2 hblk _ _, fun _ => rfl, Nat.le_refl _, fun h => absurd h (by simp [fails]), fun _ a ha => by cases ha⟩, h.le⟩
  have HO : Hid (OnlyAt g w ((w.setCell ⟨g, 0, none⟩ (.slice none 0 0)).setCell ⟨g, 1, none⟩ (.bool true))) := ((OnlyAt.refl g w).setCell 0 _).setCell 1 _
  clear h hblk
  rcases hx with hf | ⟨hf, hlt⟩
  · rw [hf] at c1
    clear hf
    go_enter Tryd.func95, Tryd.ntmps95
    go_wp2_with fail
    go_ret
    exact ⟨rfl, HN.out, HO.out⟩
  · rw [hf] at c1
    have hlt' : (decide ((r.p.length : Int) < n)) = true := decide_eq_true (by omega)
    have hlt2 : (decide (r.p.length < n)) = true := decide_eq_true hlt
    clear hf hlt
    go_enter Tryd.func95, Tryd.ntmps95
    go_wp2_with fail
    go_ret
    exact ⟨rfl, HN.out, HO.out⟩
set_option maxRecDepth 100000 in
theorem take_empty {w : World} {T : TypeId} {top g c k c' : Nat} {r : Rd} {A A' A2 : Option Addr} (hp : r.p = []) (hblk : Blk w g T [.slice A 0 c, .bool r.f]) (hle : top ≤ g) (h3 : A' = none → c' = 0) :
    TakePost w T top g 0 r (.returned (.slice A2 0 k)) (w.setCell ⟨g, 0, none⟩ (.slice A' 0 c')) := by
  obtain ⟨e1, e2⟩ := taken_all 0 r (by omega)
  refine ⟨A2, k, by rw [e1]; rfl, fun h => by rw [e1] at h; exact absurd h (by simp), ?_, (OnlyAt.refl g w).setCell 0 _⟩
  refine ⟨⟨A', c', ?_, h3, by rw [e2]; simp [hp], fun h => by rw [e2] at h; simp [hp] at h, fun h => by rw [e2] at h; simp [hp] at h⟩, hle⟩
  have := hblk.set 0 (.slice A' 0 c')
  rw [e2]; simpa [hp] using this
set_option maxRecDepth 100000 in
set_option maxHeartbeats 2000000 in
theorem itake_any (top g n : Nat) (hn : n ≤ 1000000) (r : Rd) (hr : r.p.length ≤ 1000000) (hok : r.ok) (w : World) (h : RdIs w 125 top g r) :
    Calls Tryd.prog 95 #[.pointer (some ⟨g, 0, none⟩), .int .i64 n] w (TakePost w 125 top g n r) := by
  by_cases hx : r.f = true ∨ (r.f = false ∧ r.p.length < n)
  · have e : taken n r = [] ∧ after n r = fails := by
      rcases hx with hf | ⟨_, hlt⟩
      · rw [ok_failed hok hf]; exact fails_taken n
      · exact taken_few n r hlt
    refine (itake_fail top g n r hx w h).mono ?_
    rintro e' w' ⟨rfl, h1, h2⟩
    exact ⟨none, 0, by rw [e.1]; rfl, (fun h => by rw [e.1] at h; exact absurd h (by simp)), by rw [e.2]; exact h1, h2⟩
  · have hf : r.f = false := by cases hff : r.f with | false => rfl | true => exact absurd (.inl hff) hx
    have hnl : n ≤ r.p.length := by
      have : ¬ r.p.length < n := fun hlt => hx (.inr ⟨hf, hlt⟩)
      omega
    have hlt' : (decide ((r.p.length : Int) < n)) = false := decide_eq_false (by omega)
    have hlt2 : (decide (r.p.length < n)) = false := decide_eq_false (by omega)
    obtain ⟨A, c, hblk, hN, hc, hS, hA⟩ := h.ex
    have hle := h.le
    have c0 := hblk.cell 0; have c1 := hblk.cell 1
    have f0 := hblk.frozen 0
    simp only [List.getElem?_cons_zero, List.getElem?_cons_succ] at c0 c1
    rw [hf] at c1
    have HBlk := Lib.hid hblk
    clear hx h hblk hok hf
    by_cases h0 : 0 < r.p.length
    · obtain ⟨b, o, rfl, hB⟩ := hS h0
      have hbt := hA h0 _ rfl
      simp only at hbt
      have HBy := Lib.hid hB
      clear hS hA hN hB
      by_cases hcap : c = n
      · subst hcap
        go_enter Tryd.func95, Tryd.ntmps95
        go_wp2_with fail
        go_ret
        have := take_close (n := c) (k := c) (c' := 0) (A' := some ⟨b, o, none⟩) HBlk.out HBy.out hbt hle hnl (fun a ha => by cases ha; rfl) (fun h => by omega) (fun h => by cases h) (by omega)
        rw [show r.p.length - c = 0 by omega] at this
        exact this
      · have hcap' : n < c := by omega
        go_enter Tryd.func95, Tryd.ntmps95
        go_wp2_with fail
        go_ret
        exact take_close (k := c) HBlk.out HBy.out hbt hle hnl (fun a ha => by cases ha; rfl) (fun _ => rfl) (fun h => by cases h) (by omega)
    · have hz : r.p.length = 0 := by omega
      have hp : r.p = [] := List.eq_nil_of_length_eq_zero hz
      obtain rfl : n = 0 := by omega
      rw [hz] at c0 HBlk
      have HP := Lib.hid hp
      clear hlt' hlt2 hp hS hnl
      have ht' : (decide ((0 : Int) < 0)) = false := rfl
      cases A with
      | none =>
        obtain rfl := hN rfl
        clear hN hA
        go_enter Tryd.func95, Tryd.ntmps95
        go_wp2_with fail
        go_ret
        exact take_empty (k := 0) HP.out HBlk.out hle (fun _ => rfl)
      | some a =>
        clear hN hA
        by_cases hcap : c = 0
        · subst hcap
          go_enter Tryd.func95, Tryd.ntmps95
          go_wp2_with fail
          go_ret
          exact take_empty (k := 0) HP.out HBlk.out hle (fun h => by cases h)
        · have hcap' : 0 < c := by omega
          go_enter Tryd.func95, Tryd.ntmps95
          go_wp2_with fail
          go_ret
          exact take_empty (k := c) HP.out HBlk.out hle (fun h => by cases h)
set_option maxRecDepth 100000 in
set_option maxHeartbeats 1000000 in
theorem iwide_any (top g n : Nat) (hn : n ≤ 8) (r : Rd) (hr : r.p.length ≤ 1000000) (hok : r.ok) (w : World) (h : RdIs w 125 top g r) :
    Calls Tryd.prog 71 #[.pointer (some ⟨g, 0, none⟩), .int .i64 n] w (NumPost .u64 (numR n r) w 125 top g n r) := by
  have H := Lib.hid h; have HK := Lib.hid hok; clear h hok
  go_enter Tryd.func71, Tryd.ntmps71
  go_wp2_with fail
  refine (itake_any top g n (by omega) r hr HK.out w H.out).mono ?_
  rintro e w1 ⟨A, c, rfl, hs, hr1, ho1⟩
  have HS := Lib.hid hs; have HR := Lib.hid hr1; have HO := Lib.hid ho1
  have htl := taken_length n r
  have HV : Hid (numR n r = val 256 (nat (taken n r))) := rfl
  clear hs hr1 ho1 H
  generalize taken n r = t at *
  generalize numR n r = v at *
  go_wp2_with fail
  go_loop [6, 7] (fun vx vi => ∃ k : Nat, k ≤ t.length ∧ vi = .int .i64 k ∧ vx = .int .u64 (val 256 (nat (t.take k)) : Nat)) (fun _ vi => t.length - (intOf vi).toNat)
  case atStart => exact ⟨0, Nat.zero_le _, rfl, rfl⟩
  case round =>
    obtain ⟨k, hk, rfl, rfl⟩ := hrel
    by_cases hlt : k < t.length
    · obtain ⟨b, o, rfl, hb⟩ := HS.out (by omega)
      have c0 : w1.cell? ⟨b, o + k, none⟩ = some (vb t[k]) := hb k hlt
      have hx := val_take_lt t k (by omega)
      have HVT := Lib.hid (val_take t k hlt)
      have hbb : t[k].toNat < 256 := t[k].toNat_lt
      clear hb
      generalize val 256 (nat (t.take k)) = x at *
      generalize t[k] = y at *
      have hx' : x ≤ 72057594037927935 := by omega
      clear hx
      go_wp2_with fail
      go_round
      case rel => exact ⟨k + 1, by omega, by go_num, by rw [HVT.out]; go_num⟩
      case measure => simp [intOf]; omega
    · obtain rfl : k = t.length := by omega
      rw [List.take_length, ← HV.out]
      go_wp2_with fail
      go_ret
      exact ⟨rfl, HR.out, HO.out⟩
set_option maxRecDepth 100000 in
set_option maxHeartbeats 1000000 in
theorem itext_any (top g : Nat) (r : Rd) (hr : r.p.length ≤ 1000000) (hok : r.ok) (w : World) (h : RdIs w 125 top g r) :
    Calls Tryd.prog 73 #[.pointer (some ⟨g, 0, none⟩)] w (TextPost w 125 top g r) := by
  have H := Lib.hid h; have HK := Lib.hid hok; have HK2 := Lib.hid (ok_after hok 2)
  clear h hok
  have hlt : numR 2 r < 65536 := numR_lt 2 r
  have hal := after_len 2 r
  go_enter Tryd.func73, Tryd.ntmps73
  go_wp2_with fail
  refine (iwide_any top g 2 (by decide) r hr HK.out w H.out).mono ?_
  rintro e w1 ⟨rfl, h1, h2⟩
  have HR := Lib.hid h1; have HO := Lib.hid h2
  obtain ⟨A, c, hblk, -, -, -, -⟩ := h1.ex
  have c1 := hblk.cell 1
  simp only [List.getElem?_cons_zero, List.getElem?_cons_succ] at c1
  clear h1 h2 hblk
  cases hf : (after 2 r).f with
  | true =>
    rw [hf] at c1
    have e := ok_failed HK2.out hf
    have HE : Hid (textR r = [] ∧ textA r = fails) := by
      show _ ∧ _
      unfold textR textA; rw [e]; exact fails_taken _
    rw [e] at HR
    clear hf e
    generalize numR 2 r = n at *
    go_wp2_with fail
    go_ret
    exact ⟨by rw [HE.out.1]; rfl, by rw [HE.out.2]; exact HR.out, HO.out⟩
  | false =>
    rw [hf] at c1
    clear hf
    have HT : Hid (taken (numR 2 r) (after 2 r) = textR r) := rfl
    have HT2 : Hid (after (numR 2 r) (after 2 r) = textA r) := rfl
    generalize numR 2 r = n at *
    go_wp2_with fail
    refine (itake_any top g n (by omega) (after 2 r) (by omega) HK2.out w1 HR.out).mono ?_
    rintro e w2 ⟨A, c, rfl, hs, hr2, ho2⟩
    have HR2 := Lib.hid hr2; have HO2 := Lib.hid ho2
    have hcv := run_text_src (cap := c) hs
    clear hs hr2 ho2
    rw [HT.out] at hcv ⊢
    rw [HT2.out] at HR2
    go_wp2_with fail
    go_ret
    exact ⟨rfl, HR2.out, HO.out.trans HO2.out⟩
/-- what Whole answers -/
def wholeR (r : Rd) : Bool := !r.f && decide (r.p.length = 0)
set_option maxRecDepth 100000 in
theorem whole_any (top g : Nat) (r : Rd) (w : World) (h : RdIs w 125 top g r) :
    Calls Tryd.prog 75 #[.pointer (some ⟨g, 0, none⟩)] w fun e w' => e = .returned (.bool (wholeR r)) ∧ w = w' := by
  obtain ⟨A, c, hblk, -, -, -, -⟩ := h.ex
  have c0 := hblk.cell 0; have c1 := hblk.cell 1
  simp only [List.getElem?_cons_zero, List.getElem?_cons_succ] at c0 c1
  clear h hblk
  cases hf : r.f with
  | true =>
    have HE : Hid (wholeR r = false) := by show _ = _; simp [wholeR, hf]
    rw [hf] at c1
    clear hf
    go_enter Tryd.func75, Tryd.ntmps75
    go_wp2_with fail
    go_ret
    exact ⟨by rw [HE.out]; rfl, rfl⟩
  | false =>
    have HE : Hid (wholeR r = ((r.p.length : Int) == 0)) := by
      show _ = _; unfold wholeR; rw [hf, Bool.eq_iff_iff]; simp
    rw [hf] at c1
    clear hf
    go_enter Tryd.func75, Tryd.ntmps75
    go_wp2_with fail
    go_ret
    refine ⟨?_, rfl⟩
    rw [HE.out]
    rfl
end Go.Proofs.YtggmogjgaoobjaaDoor

/- The contract of the reference's Texts; two slices of texts that are alike. -/
namespace Go.Proofs.YtggmogjgaoobjaaDoor
open Go.RowKit BaseMath WireMath

set_option maxHeartbeats 2000000 in
set_option maxRecDepth 100000 in
theorem itexts_any (top g : Nat) (most : Int) (r : Rd) (hr : r.p.length ≤ 1000000) (hok : r.ok) (w : World) (h : RdIs w 125 top g r) :
    Calls Tryd.prog 74 #[.pointer (some ⟨g, 0, none⟩), .int .i64 most] w (TextsPost w 125 top g (textsR most r) (textsA most r)) := by
  obtain ⟨i9, hi9, hz0, hz1, hz2⟩ := info_parts info9
  have H := Lib.hid h
  have hgw : g < w.heap.size := by obtain ⟨_, _, hb, _⟩ := h.ex; exact hb.lt
  have hlt : numR 1 r < 256 := numR_lt 1 r
  have hal := after_len 1 r
  have HI := Lib.hid hi9; have HZ0 := Lib.hid hz0; have HZ1 := Lib.hid hz1; have HZ2 := Lib.hid hz2
  have HOK := Lib.hid (ok_after hok 1); have HOK0 := Lib.hid hok
  have HALL : Hid (textsAll most r = textsGo (numR 1 r - 0) [] (texts0 most r)) := rfl
  have HTR : Hid (textsR most r = if (textsAll most r).2.f then [] else (textsAll most r).1) := rfl
  have HTA : Hid (textsA most r = (textsAll most r).2) := rfl
  clear h hi9 hz0 hz1 hz2 hok
  go_enter Tryd.func74, Tryd.ntmps74
  go_wp2_with fail
  refine (iwide_any top g 1 (by decide) r hr HOK0.out w H.out).mono ?_
  rintro e w1 ⟨rfl, h1, h2⟩
  have HR1 := Lib.hid h1; have HO1 := Lib.hid h2
  clear h1 h2 H
  by_cases hm : most < (numR 1 r : Int)
  · have HT0 : Hid (texts0 most r = fails) := by show _ = _; unfold texts0; rw [if_pos hm]
    rw [HT0.out] at HALL
    generalize textsAll most r = all at *
    generalize numR 1 r = n at *
    obtain ⟨A0, cc0, hblk, -, -, -, -⟩ := HR1.out.ex
    have c0 := hblk.cell 0; have c1 := hblk.cell 1
    have f0 := hblk.frozen 0; have f1 := hblk.frozen 1
    simp only [List.getElem?_cons_zero, List.getElem?_cons_succ] at c0 c1
    have h1 : RdIs ((w1.setCell ⟨g, 0, none⟩ (.slice none 0 0)).setCell ⟨g, 1, none⟩ (.bool true)) 125 top g fails :=
      ⟨⟨none, 0, Blk.set2 hblk _ _, fun _ => rfl, Nat.le_refl _, (fun h => absurd h (by simp [fails])), (fun _ a ha => by cases ha)⟩, HR1.out.le⟩
    have h2 : OnlyAt g w1 ((w1.setCell ⟨g, 0, none⟩ (.slice none 0 0)).setCell ⟨g, 1, none⟩ (.bool true)) := ((OnlyAt.refl g w1).setCell 0 _).setCell 1 _
    have HX : Hid (TxRel w 125 top g n all r.p.length 0 (.slice none 0 0) true ((w1.setCell ⟨g, 0, none⟩ (.slice none 0 0)).setCell ⟨g, 1, none⟩ (.bool true))) :=
      ⟨⟨[], fails, World.ownsRow_nil _ _ _ _, h1, ok_fails, Nat.zero_le _, rfl, HALL.out.symm, rfl⟩, HO1.out.trans h2⟩
    clear h1 h2 HR1 HO1 HALL HOK HOK0 HT0 hblk
    go_wp2_with fail
    go_loopw [6, 7] (fun v vk wr => ∃ k : Nat, k ≤ n ∧ vk = .int .i64 k ∧ Hid (∃ f, TxRel w 125 top g n all r.p.length k v f wr)) (fun _ vk _ => n - (intOf vk).toNat)
    case atStart => exact ⟨0, Nat.zero_le _, rfl, _, HX.out⟩
    case round =>
      clear HX c0 c1 f0 f1
      obtain ⟨k, hk, rfl, HXX⟩ := hrel
      rename World => W0
      obtain ⟨f, hx⟩ := HXX.out
      obtain ⟨acc, r1, ho, hr1, hok1, hlen, hacc, hgo, hf⟩ := hx.ex
      have HO := Lib.hid ho; have HR := Lib.hid hr1; have HK1 := Lib.hid hok1; have HACC := Lib.hid hacc; have HGO := Lib.hid hgo; have HF := Lib.hid hf; have HON := Lib.hid hx.only
      clear HXX hx ho hr1 hok1 hacc hgo hf
      by_cases hkn : k < n
      · cases f with
        | true =>
          have HE : Hid (all = (acc, r1)) := HGO.out.symm.trans (textsGo_end n k acc r1 (.inr HF.out))
          rw [HE.out] at HTR HTA
          simp only [HF.out, if_true] at HTR HTA
          obtain ⟨A1, cc1, hb1, -, -, -, -⟩ := HR.out.ex
          have c1 := hb1.cell 1
          simp only [List.getElem?_cons_zero, List.getElem?_cons_succ] at c1
          rw [HF.out] at c1
          clear hb1
          go_wp2_with fail
          go_ret
          exact ⟨_, rfl, by rw [HTR.out]; exact World.ownsRow_nil _ _ _ _, by rw [HTA.out]; exact HR.out, HON.out⟩
        | false =>
          have HSTEP := Lib.hid (textsGo_step n k acc r1 hkn HF.out)
          rw [HGO.out] at HSTEP
          have hsz := HON.out.size
          obtain ⟨A1, cc1, hb1, -, -, -, -⟩ := HR.out.ex
          have c1 := hb1.cell 1
          simp only [List.getElem?_cons_zero, List.getElem?_cons_succ] at c1
          rw [HF.out] at c1
          clear hb1
          go_wp2_with fail
          refine (itext_any top g r1 (by omega) HK1.out W0 HR.out).mono ?_
          rintro e w3 ⟨rfl, h1, h2⟩
          have HR3 := Lib.hid h1; have HON3 := Lib.hid (HON.out.trans h2)
          have HO3 : Hid (w3.ownsRow w.heap.size 9 1 _ acc.length (acc.map vs)) := ownsRow_keep HO.out (fun c hc => h2.other c (HO.out.lt c hc).2 (by have := (HO.out.lt c hc).1; omega))
          have hsz3 := HON3.out.size
          have HTL := Lib.hid (textA_len r1)
          have HKA := Lib.hid (ok_textA HK1.out)
          clear h1 h2 HR HO HON HK1 c1
          generalize textR r1 = tx at *
          generalize textA r1 = r2 at *
          go_wp2_with (refine wpList_append_own _ rfl (.tmp 32) (.tmp 35) 32 rfl w.heap.size 9 i9 (.string ⟨#[]⟩) 1 16 Tryd.underlying32 HI.out HZ0.out HZ1.out HZ2.out rfl (by decide) _ acc.length (acc.map vs) rfl (HO3.out.alloc _) ⟨w3.heap.size, 0, none⟩ 1 1 [vs tx] rfl rfl (new_cells w3 9 [vs tx]) (by intro y hy; rw [List.mem_singleton.1 hy]; rfl) (by unfold maxLen; have := HACC.out; omega) (by have := HACC.out; omega) (by simp; omega) ?_)
          intro v4 w4 ho4 hg4 _
          have hrow : ∀ c, _ → w.heap.size ≤ c := fun c hc => (HO3.out.lt c hc).1
          have HON4 : Hid (OnlyAt g w w4) := (HON3.out.alloc _).grown hg4 hrow
          have HR4 : Hid (RdIs w4 125 top g r2) := (HR3.out.below ((Below.refl w3.heap.size w3).alloc (Nat.le_refl _) _) (by omega)).below ((Below.refl w.heap.size _).grown hg4 (by simp; omega) hrow) hgw
          have HX4 : Hid (∃ f, TxRel w 125 top g n all r.p.length (k + 1) v4 f w4) := ⟨r2.f, ⟨acc ++ [tx], r2, by rw [List.length_append, List.map_append]; exact ho4, HR4.out, HKA.out, Nat.le_trans HTL.out hlen, by rw [List.length_append, HACC.out]; rfl, HSTEP.out.symm, rfl⟩, HON4.out⟩
          clear ho4 hg4 hrow HON4 HR4 HR3 HON3 HO3
          go_wp2_with fail
          go_roundw
          case rel => exact ⟨k + 1, by omega, by go_num, HX4.out⟩
          case measure => simp [intOf]; omega
      · obtain rfl : k = n := by omega
        have HE : Hid (all = (acc, r1)) := HGO.out.symm.trans (textsGo_end k k acc r1 (.inl (Nat.le_refl _)))
        rw [HE.out] at HTR HTA
        cases f with
        | true =>
          simp only [HF.out, if_true] at HTR HTA
          obtain ⟨A1, cc1, hb1, -, -, -, -⟩ := HR.out.ex
          have c1 := hb1.cell 1
          simp only [List.getElem?_cons_zero, List.getElem?_cons_succ] at c1
          rw [HF.out] at c1
          clear hb1
          go_wp2_with fail
          go_ret
          exact ⟨_, rfl, by rw [HTR.out]; exact World.ownsRow_nil _ _ _ _, by rw [HTA.out]; exact HR.out, HON.out⟩
        | false =>
          simp only [HF.out, Bool.false_eq_true, if_false] at HTR HTA
          obtain ⟨A1, cc1, hb1, -, -, -, -⟩ := HR.out.ex
          have c1 := hb1.cell 1
          simp only [List.getElem?_cons_zero, List.getElem?_cons_succ] at c1
          rw [HF.out] at c1
          clear hb1
          go_wp2_with fail
          go_ret
          exact ⟨_, rfl, by rw [HTR.out]; exact HO.out, by rw [HTA.out]; exact HR.out, HON.out⟩
  · have HT0 : Hid (texts0 most r = after 1 r) := by show _ = _; unfold texts0; rw [if_neg hm]
    rw [HT0.out] at HALL
    generalize textsAll most r = all at *
    generalize numR 1 r = n at *
    have HX : Hid (TxRel w 125 top g n all r.p.length 0 (.slice none 0 0) (after 1 r).f w1) :=
      ⟨⟨[], after 1 r, World.ownsRow_nil _ _ _ _, HR1.out, HOK.out, hal, rfl, HALL.out.symm, rfl⟩, HO1.out⟩
    clear HR1 HO1 HALL HOK HOK0 HT0
    go_wp2_with fail
    go_loopw [6, 7] (fun v vk wr => ∃ k : Nat, k ≤ n ∧ vk = .int .i64 k ∧ Hid (∃ f, TxRel w 125 top g n all r.p.length k v f wr)) (fun _ vk _ => n - (intOf vk).toNat)
    case atStart => exact ⟨0, Nat.zero_le _, rfl, _, HX.out⟩
    case round =>
      clear HX
      obtain ⟨k, hk, rfl, HXX⟩ := hrel
      rename World => W0
      obtain ⟨f, hx⟩ := HXX.out
      obtain ⟨acc, r1, ho, hr1, hok1, hlen, hacc, hgo, hf⟩ := hx.ex
      have HO := Lib.hid ho; have HR := Lib.hid hr1; have HK1 := Lib.hid hok1; have HACC := Lib.hid hacc; have HGO := Lib.hid hgo; have HF := Lib.hid hf; have HON := Lib.hid hx.only
      clear HXX hx ho hr1 hok1 hacc hgo hf
      by_cases hkn : k < n
      · cases f with
        | true =>
          have HE : Hid (all = (acc, r1)) := HGO.out.symm.trans (textsGo_end n k acc r1 (.inr HF.out))
          rw [HE.out] at HTR HTA
          simp only [HF.out, if_true] at HTR HTA
          obtain ⟨A1, cc1, hb1, -, -, -, -⟩ := HR.out.ex
          have c1 := hb1.cell 1
          simp only [List.getElem?_cons_zero, List.getElem?_cons_succ] at c1
          rw [HF.out] at c1
          clear hb1
          go_wp2_with fail
          go_ret
          exact ⟨_, rfl, by rw [HTR.out]; exact World.ownsRow_nil _ _ _ _, by rw [HTA.out]; exact HR.out, HON.out⟩
        | false =>
          have HSTEP := Lib.hid (textsGo_step n k acc r1 hkn HF.out)
          rw [HGO.out] at HSTEP
          have hsz := HON.out.size
          obtain ⟨A1, cc1, hb1, -, -, -, -⟩ := HR.out.ex
          have c1 := hb1.cell 1
          simp only [List.getElem?_cons_zero, List.getElem?_cons_succ] at c1
          rw [HF.out] at c1
          clear hb1
          go_wp2_with fail
          refine (itext_any top g r1 (by omega) HK1.out W0 HR.out).mono ?_
          rintro e w3 ⟨rfl, h1, h2⟩
          have HR3 := Lib.hid h1; have HON3 := Lib.hid (HON.out.trans h2)
          have HO3 : Hid (w3.ownsRow w.heap.size 9 1 _ acc.length (acc.map vs)) := ownsRow_keep HO.out (fun c hc => h2.other c (HO.out.lt c hc).2 (by have := (HO.out.lt c hc).1; omega))
          have hsz3 := HON3.out.size
          have HTL := Lib.hid (textA_len r1)
          have HKA := Lib.hid (ok_textA HK1.out)
          clear h1 h2 HR HO HON HK1 c1
          generalize textR r1 = tx at *
          generalize textA r1 = r2 at *
          go_wp2_with (refine wpList_append_own _ rfl (.tmp 32) (.tmp 35) 32 rfl w.heap.size 9 i9 (.string ⟨#[]⟩) 1 16 Tryd.underlying32 HI.out HZ0.out HZ1.out HZ2.out rfl (by decide) _ acc.length (acc.map vs) rfl (HO3.out.alloc _) ⟨w3.heap.size, 0, none⟩ 1 1 [vs tx] rfl rfl (new_cells w3 9 [vs tx]) (by intro y hy; rw [List.mem_singleton.1 hy]; rfl) (by unfold maxLen; have := HACC.out; omega) (by have := HACC.out; omega) (by simp; omega) ?_)
          intro v4 w4 ho4 hg4 _
          have hrow : ∀ c, _ → w.heap.size ≤ c := fun c hc => (HO3.out.lt c hc).1
          have HON4 : Hid (OnlyAt g w w4) := (HON3.out.alloc _).grown hg4 hrow
          have HR4 : Hid (RdIs w4 125 top g r2) := (HR3.out.below ((Below.refl w3.heap.size w3).alloc (Nat.le_refl _) _) (by omega)).below ((Below.refl w.heap.size _).grown hg4 (by simp; omega) hrow) hgw
          have HX4 : Hid (∃ f, TxRel w 125 top g n all r.p.length (k + 1) v4 f w4) := ⟨r2.f, ⟨acc ++ [tx], r2, by rw [List.length_append, List.map_append]; exact ho4, HR4.out, HKA.out, Nat.le_trans HTL.out hlen, by rw [List.length_append, HACC.out]; rfl, HSTEP.out.symm, rfl⟩, HON4.out⟩
          clear ho4 hg4 hrow HON4 HR4 HR3 HON3 HO3
          go_wp2_with fail
          go_roundw
          case rel => exact ⟨k + 1, by omega, by go_num, HX4.out⟩
          case measure => simp [intOf]; omega
      · obtain rfl : k = n := by omega
        have HE : Hid (all = (acc, r1)) := HGO.out.symm.trans (textsGo_end k k acc r1 (.inl (Nat.le_refl _)))
        rw [HE.out] at HTR HTA
        cases f with
        | true =>
          simp only [HF.out, if_true] at HTR HTA
          obtain ⟨A1, cc1, hb1, -, -, -, -⟩ := HR.out.ex
          have c1 := hb1.cell 1
          simp only [List.getElem?_cons_zero, List.getElem?_cons_succ] at c1
          rw [HF.out] at c1
          clear hb1
          go_wp2_with fail
          go_ret
          exact ⟨_, rfl, by rw [HTR.out]; exact World.ownsRow_nil _ _ _ _, by rw [HTA.out]; exact HR.out, HON.out⟩
        | false =>
          simp only [HF.out, Bool.false_eq_true, if_false] at HTR HTA
          obtain ⟨A1, cc1, hb1, -, -, -, -⟩ := HR.out.ex
          have c1 := hb1.cell 1
          simp only [List.getElem?_cons_zero, List.getElem?_cons_succ] at c1
          rw [HF.out] at c1
          clear hb1
          go_wp2_with fail
          go_ret
          exact ⟨_, rfl, by rw [HTR.out]; exact HO.out, by rw [HTA.out]; exact HR.out, HON.out⟩
set_option maxRecDepth 100000 in
set_option maxHeartbeats 1000000 in
theorem texts_same (A B : Option Addr) (ca cb : Nat) (ls : List (List By)) (hl : ls.length ≤ 100000) (w : World) (hA : StrsIs w A ls) (hB : StrsIs w B ls) :
    Calls Tryd.prog 53 #[.slice A ls.length ca, .slice B ls.length cb] w fun e w' => e = .returned (.bool true) ∧ ∃ q, w' = w.drewN q := by
  have HA := Lib.hid hA; have HB := Lib.hid hB
  clear hA hB
  go_enter Tryd.func53, Tryd.ntmps53
  go_wp2_with fail
  go_loopw [5] (fun vi wr => ∃ k : Nat, k ≤ ls.length ∧ vi = .int .i64 k ∧ Hid (∃ q, wr = w.drewN q)) (fun vi _ => ls.length - (intOf vi).toNat)
  case atStart => exact ⟨0, Nat.zero_le _, rfl, 0, rfl⟩
  case round =>
    obtain ⟨k, hk, rfl, HR⟩ := hrel
    rename World => W0
    by_cases hlt : k < ls.length
    · obtain ⟨a, oa, rfl, ha⟩ := HA.out (by omega)
      obtain ⟨b, ob, rfl, hb⟩ := HB.out (by omega)
      obtain ⟨q, rfl⟩ := HR.out
      have c1 : w.cell? ⟨a, oa + k, none⟩ = some (vs ls[k]) := ha k hlt
      have c2 : w.cell? ⟨b, ob + k, none⟩ = some (vs ls[k]) := hb k hlt
      generalize ls[k] = x at *
      clear ha hb HA HB HR
      go_wp2_with fail
      go_quiet (fail)
      go_wp2_with fail
      go_roundw
      case rel => exact ⟨k + 1, by omega, by go_num, _, rfl⟩
      case measure => simp [intOf]; omega
    · obtain rfl : k = ls.length := by omega
      go_wp2_with fail
      go_ret
      exact ⟨rfl, HR.out⟩
set_option maxRecDepth 100000 in
/-- the texts that a call has made, as a source -/
theorem own_strs {w : World} {base : Nat} {v : Value} {ls : List (List By)} (h : w.ownsRow base 9 1 v ls.length (ls.map vs)) :
    ∃ A c, v = .slice A ls.length c ∧ StrsIs w A ls ∧ (∀ a, A = some a → base ≤ a.block ∧ a.block < w.heap.size) := by
  rcases h.2 with ⟨hv, h0⟩ | ⟨g, cap, cur, hv, hg, hc, hn, _, hs, ht⟩
  · have : ls = [] := List.eq_nil_of_length_eq_zero h0
    subst this
    exact ⟨none, 0, hv, fun h => absurd h (by simp), fun a ha => by cases ha⟩
  · rw [Nat.mul_one] at ht
    have hb : Blk w g 9 (ls.map vs ++ cur.toList.drop ls.length) := by rw [← ht, List.take_append_drop]; exact hc
    refine ⟨some ⟨g, 0, none⟩, cap, hv, fun _ => ⟨g, 0, rfl, fun k hk => ?_⟩, fun a ha => ?_⟩
    · rw [Nat.zero_add, hb.cell, List.getElem?_append_left (by simpa using hk)]; simp [hk]
    · cases ha; exact ⟨hg, hb.lt⟩
set_option maxRecDepth 100000 in
theorem StrsIs.only {w w' : World} {A : Option Addr} {ls : List (List By)} {g : Nat} (h : StrsIs w A ls) (ho : OnlyAt g w w') (hA : ∀ a, A = some a → a.block ≠ g ∧ a.block < w.heap.size) : StrsIs w' A ls := fun h0 => by
  obtain ⟨b, o, rfl, hc⟩ := h h0
  refine ⟨b, o, rfl, fun k hk => ?_⟩
  rw [World.cell?_of_block (w := w) (a := ⟨b, o + k, none⟩) (ho.other b (hA _ rfl).2 (hA _ rfl).1)]; exact hc k hk
end Go.Proofs.YtggmogjgaoobjaaDoor

/- Plain facts on requests as bytes: the kinds' table, what is laid, what is read. No program is named. -/
namespace ReqMath
open BaseMath WireMath

/-- what a kind has: 0 unknown, 1 none, 2 a path, 3 an item, 4 outs -/
def hasK (k : Nat) : Nat := [0, 3, 2, 2, 2, 2, 2, 4, 2, 2, 2, 1, 1].getD k 0
def nameL : List (List By) := [[], [97, 100, 100], [118, 97, 108, 105, 100], [105, 110, 102, 111], [114, 101, 102, 115], [114, 101, 102, 101, 114, 114, 101, 114, 115], [99, 108, 111, 115, 117, 114, 101], [114, 101, 103, 105, 115, 116, 101, 114], [114, 111, 111, 116], [117, 110, 114, 111, 111, 116], [100, 101, 108, 101, 116, 101], [99, 111, 108, 108, 101, 99, 116], [118, 101, 114, 105, 102, 121]]
def nameK (k : Nat) : List By := nameL.getD k []
theorem hasK_le (k : Nat) : hasK k ≤ 4 := by
  unfold hasK
  match k with
  | 0 | 1 | 2 | 3 | 4 | 5 | 6 | 7 | 8 | 9 | 10 | 11 | 12 => decide
  | n + 13 => simp
theorem hasK_big (k : Nat) (h : 13 ≤ k) : hasK k = 0 := by
  unfold hasK; rw [List.getD_eq_getElem?_getD, List.getElem?_eq_none (by simpa using h)]; rfl
theorem nameK_big (k : Nat) (h : 13 ≤ k) : nameK k = [] := by
  unfold nameK; rw [List.getD_eq_getElem?_getD, List.getElem?_eq_none (by simpa [nameL] using h)]; rfl

structure OutV where
  name : List By
  arch : List By
  refs : List (List By)
  needs : List Int
structure ReqV where
  kind : By
  name : List By
  path : List By
  arch : List By
  refs : List (List By)
  outs : List OutV
def zeroV : ReqV := ⟨0, [], [], [], [], []⟩
def itemB (name arch : List By) (refs : List (List By)) : List By := textB name ++ textB arch ++ textsB refs
def byteI (n : Int) : By := UInt8.ofNat (n % 256).toNat
def outB (o : OutV) : List By := itemB o.name o.arch o.refs ++ [UInt8.ofNat o.needs.length] ++ o.needs.map byteI
def outsB (l : List OutV) : List By := [UInt8.ofNat l.length] ++ l.flatMap outB
def restB (h : Nat) (r : ReqV) : List By := if h = 2 then textB r.path else if h = 3 then itemB r.name r.arch r.refs else if h = 4 then outsB r.outs else []
/-- a request's bytes -/
def encB (r : ReqV) : List By := [r.kind] ++ restB (hasK r.kind.toNat) r

/- reading -/
def iname (r : Rd) : List By := textR r
def iarch (r : Rd) : List By := textR (textA r)
def irefs (r : Rd) : List (List By) := textsR 16 (textA (textA r))
def itemA (r : Rd) : Rd := textsA 16 (textA (textA r))
def needsGo (place : Nat) : Nat → List Int → Rd → Option (List Int × Rd)
  | 0, acc, r => some (acc, r)
  | k + 1, acc, r => if place ≤ numR 1 r then none else needsGo place k (acc ++ [(numR 1 r : Int)]) (after 1 r)
def needsR (place : Nat) (r : Rd) : Option (List Int × Rd) := if 4 ≤ numR 1 r then none else needsGo place (numR 1 r) [] (after 1 r)
def outsGo : Nat → Nat → List OutV → Rd → Option (List OutV × Rd)
  | 0, _, acc, r => some (acc, r)
  | k + 1, i, acc, r => match needsR i (itemA r) with
    | none => none
    | some (ns, r') => outsGo k (i + 1) (acc ++ [⟨iname r, iarch r, irefs r, ns⟩]) r'
def outsR (r : Rd) : Option (List OutV × Rd) := if numR 1 r = 0 ∨ 4 < numR 1 r then none else outsGo (numR 1 r) 0 [] (after 1 r)
def whole (r : Rd) : Bool := !r.f && decide (r.p.length = 0)
def finR (v : ReqV) (r : Rd) : ReqV × Int := if whole r then (v, 0) else (zeroV, 2)
def decK (k : By) (r : Rd) : ReqV × Int :=
  if hasK k.toNat = 0 then (zeroV, 2)
  else if hasK k.toNat = 1 then finR ⟨k, [], [], [], [], []⟩ r
  else if hasK k.toNat = 2 then finR ⟨k, [], textR r, [], [], []⟩ (textA r)
  else if hasK k.toNat = 3 then finR ⟨k, iname r, [], iarch r, irefs r, []⟩ (itemA r)
  else match outsR r with
    | none => (zeroV, 2)
    | some (os, r') => finR ⟨k, [], [], [], [], os⟩ r'
def kindR (p : List By) : By := UInt8.ofNat (numR 1 ⟨p, false⟩)
/-- what bytes are, as a request -/
def decV (p : List By) : ReqV × Int := if 2048 < p.length then (zeroV, 3) else decK (kindR p) (after 1 ⟨p, false⟩)
end ReqMath

/- The kinds' table in memory; the contracts of lookUp and Kind. -/
namespace Go.Proofs.YtggmogjgaoobjaaDoor
open Go.RowKit BaseMath WireMath ReqMath

/-- the table of kinds, as the program's text lays it -/
def KTab (w : World) : Prop := ∀ k : Nat, k < 13 → w.cell? ⟨1, k * 2, none⟩ = some (vs (nameK k)) ∧ w.cell? ⟨1, k * 2 + 1, none⟩ = some (.int .i64 (hasK k : Nat))
theorem KTab.size {w : World} (h : KTab w) : 1 < w.heap.size := block_of_cell (h 0 (by decide)).1
theorem KTab.of_block {w w' : World} (h : KTab w) (hb : w'.heap[1]? = w.heap[1]?) : KTab w' := fun k hk => by
  rw [World.cell?_of_block (w := w) (a := ⟨1, k * 2, none⟩) hb, World.cell?_of_block (w := w) (a := ⟨1, k * 2 + 1, none⟩) hb]; exact h k hk
theorem KTab.below {w w' : World} {B : Nat} (h : KTab w) (hb : Below B w w') (hB : 1 < B) : KTab w' := h.of_block (hb.block 1 hB)
theorem KTab.belowS {w w' : World} (h : KTab w) (hb : Below w.heap.size w w') : KTab w' := h.below hb h.size
theorem KTab.drew {w : World} (h : KTab w) : KTab w.drew := h
theorem KTab.drewN {w : World} (h : KTab w) (n : Nat) : KTab (w.drewN n) := h
abbrev zk : Value := .string ⟨#[]⟩
set_option maxHeartbeats 1000000 in
set_option maxRecDepth 100000 in
theorem lookup_any (k : By) (w : World) (ht : KTab w) :
    Calls Tryd.prog 40 #[vb k] w fun e w' => e = .returned (.agg #[vs (nameK k.toNat), .int .i64 (hasK k.toNat : Nat)]) ∧ Below w.heap.size w w' := by
  have hb0 : Below w.heap.size w (w.alloc (.cells #[.string ⟨#[]⟩, .int .i64 0] 92)) := (Below.refl _ _).alloc (Nat.le_refl _) _
  have hs := ht.size
  have hk2 : k.toNat < 256 := k.toNat_lt
  by_cases hk : 13 ≤ k.toNat
  · have HN := Lib.hid (nameK_big _ hk); have HH := Lib.hid (hasK_big _ hk)
    have hk' : (13 : Int) ≤ (k.toNat : Int) := by omega
    rw [HN.out, HH.out]
    have HB := Lib.hid hb0
    clear ht hb0 hk
    go_enter Tryd.func40, Tryd.ntmps40
    go_wp2_with fail
    refine bodyPost_ret (v := .agg #[vs [], .int .i64 0]) (by simp [results, Tryd.results40, go_sem]) rfl ⟨rfl, (Below.refl _ _).alloc (Nat.le_refl _) _⟩
  · obtain ⟨c0, c1⟩ := (ht.belowS hb0) k.toNat (by omega)
    have hk' : ¬ (13 : Int) ≤ (k.toNat : Int) := by omega
    have HB := Lib.hid hb0
    clear ht hb0 hk
    generalize nameK k.toNat = n at *
    generalize hasK k.toNat = h at *
    go_enter Tryd.func40, Tryd.ntmps40
    go_wp2_with fail
    refine bodyPost_ret (v := .agg #[vs n, .int .i64 (h : Nat)]) (by simp [results, Tryd.results40, go_sem]) rfl ⟨rfl, (Below.refl _ _).alloc (Nat.le_refl _) _⟩
/-- the two fields of a line of the table -/
theorem field92_0 (x y : Value) (w : World) : (Instr.field 92 (.agg #[x, y]) 0).run Tryd.prog w = .ok x w := by kernel_rfl
theorem field92_1 (x y : Value) (w : World) : (Instr.field 92 (.agg #[x, y]) 1).run Tryd.prog w = .ok y w := by kernel_rfl
attribute [go_sem] field92_0 field92_1
set_option maxRecDepth 100000 in
theorem kind_any (k : By) (w : World) (ht : KTab w) :
    Calls Tryd.prog 30 #[vb k] w fun e w' => e = .returned (vs (nameK k.toNat)) ∧ Below w.heap.size w w' := by
  have HT := Lib.hid ht; clear ht
  go_enter Tryd.func30, Tryd.ntmps30
  go_wp2_with fail
  refine (lookup_any k w HT.out).mono ?_
  rintro e w1 ⟨rfl, hb⟩
  have HB := Lib.hid hb; clear hb
  go_wp2_with fail
  go_ret
  exact ⟨rfl, HB.out⟩
end Go.Proofs.YtggmogjgaoobjaaDoor
