/- The contracts of the reference's reader: take, Wide, Text, Whole. -/
import Derived.Test.YtghbabnekalgpaaDoorW8
namespace Go.Proofs.YtghbabnekalgpaaDoor
open Go.RowKit BaseMath WireMath

set_option maxRecDepth 100000 in
theorem ok_failed {r : Rd} (h : r.ok) (hf : r.f = true) : r = fails := by
  obtain ⟨p, f⟩ := r
  simp only at hf
  subst hf
  have := h rfl
  simp only at this
  subst this; rfl
set_option maxRecDepth 100000 in
set_option maxHeartbeats 1000000 in
theorem itake_fail (top g n : Nat) (r : Rd) (hx : r.f = true ∨ (r.f = false ∧ r.p.length < n)) (w : World) (h : RdIs w 125 top g r) :
    Calls Tryd.prog 95 #[.pointer (some ⟨g, 0, none⟩), .int .i64 n] w fun e w' => e = .returned (.slice none 0 0) ∧ RdIs w' 125 top g fails ∧ OnlyAt g w w' := by
  obtain ⟨A, c, hblk, -, -, -, -⟩ := h.ex
  have c0 := hblk.cell 0; have c1 := hblk.cell 1
  have f0 := hblk.frozen 0; have f1 := hblk.frozen 1
  simp only [List.getElem?_cons_zero, List.getElem?_cons_succ] at c0 c1
  have HN : Hid (RdIs ((w.setCell ⟨g, 0, none⟩ (.slice none 0 0)).setCell ⟨g, 1, none⟩ (.bool true)) 125 top g fails) :=
    ⟨⟨none, 0, Blk.set2 hblk _ _, fun _ => rfl, Nat.le_refl _, fun h => absurd h (by simp [fails]), fun _ a ha => by cases ha⟩, h.le⟩
  have HO : Hid (OnlyAt g w ((w.setCell ⟨g, 0, none⟩ (.slice none 0 0)).setCell ⟨g, 1, none⟩ (.bool true))) := ((OnlyAt.refl g w).setCell 0 _).setCell 1 _
  clear h hblk
  rcases hx with hf | ⟨hf, hlt⟩
  · rw [hf] at c1
    clear hf
    go_enter Tryd.func95, Tryd.ntmps95
    go_wp2_with fail
    go_ret
    exact ⟨rfl, HN.out, HO.out⟩
  · rw [hf] at c1
    have hlt' : (decide ((r.p.length : Int) < n)) = true := decide_eq_true (by omega)
    have hlt2 : (decide (r.p.length < n)) = true := decide_eq_true hlt
    clear hf hlt
    go_enter Tryd.func95, Tryd.ntmps95
    go_wp2_with fail
    go_ret
    exact ⟨rfl, HN.out, HO.out⟩
set_option maxRecDepth 100000 in
theorem take_empty {w : World} {T : TypeId} {top g c k c' : Nat} {r : Rd} {A A' A2 : Option Addr} (hp : r.p = []) (hblk : Blk w g T [.slice A 0 c, .bool r.f]) (hle : top ≤ g) (h3 : A' = none → c' = 0) :
    TakePost w T top g 0 r (.returned (.slice A2 0 k)) (w.setCell ⟨g, 0, none⟩ (.slice A' 0 c')) := by
  obtain ⟨e1, e2⟩ := taken_all 0 r (by omega)
  refine ⟨A2, k, by rw [e1]; rfl, fun h => by rw [e1] at h; exact absurd h (by simp), ?_, (OnlyAt.refl g w).setCell 0 _⟩
  refine ⟨⟨A', c', ?_, h3, by rw [e2]; simp [hp], fun h => by rw [e2] at h; simp [hp] at h, fun h => by rw [e2] at h; simp [hp] at h⟩, hle⟩
  have := hblk.set 0 (.slice A' 0 c')
  rw [e2]; simpa [hp] using this
set_option maxRecDepth 100000 in
set_option maxHeartbeats 2000000 in
theorem itake_any (top g n : Nat) (hn : n ≤ 1000000) (r : Rd) (hr : r.p.length ≤ 1000000) (hok : r.ok) (w : World) (h : RdIs w 125 top g r) :
    Calls Tryd.prog 95 #[.pointer (some ⟨g, 0, none⟩), .int .i64 n] w (TakePost w 125 top g n r) := by
  by_cases hx : r.f = true ∨ (r.f = false ∧ r.p.length < n)
  · have e : taken n r = [] ∧ after n r = fails := by
      rcases hx with hf | ⟨_, hlt⟩
      · rw [ok_failed hok hf]; exact fails_taken n
      · exact taken_few n r hlt
    refine (itake_fail top g n r hx w h).mono ?_
    rintro e' w' ⟨rfl, h1, h2⟩
    exact ⟨none, 0, by rw [e.1]; rfl, (fun h => by rw [e.1] at h; exact absurd h (by simp)), by rw [e.2]; exact h1, h2⟩
  · have hf : r.f = false := by cases hff : r.f with | false => rfl | true => exact absurd (.inl hff) hx
    have hnl : n ≤ r.p.length := by
      have : ¬ r.p.length < n := fun hlt => hx (.inr ⟨hf, hlt⟩)
      omega
    have hlt' : (decide ((r.p.length : Int) < n)) = false := decide_eq_false (by omega)
    have hlt2 : (decide (r.p.length < n)) = false := decide_eq_false (by omega)
    obtain ⟨A, c, hblk, hN, hc, hS, hA⟩ := h.ex
    have hle := h.le
    have c0 := hblk.cell 0; have c1 := hblk.cell 1
    have f0 := hblk.frozen 0
    simp only [List.getElem?_cons_zero, List.getElem?_cons_succ] at c0 c1
    rw [hf] at c1
    have HBlk := Lib.hid hblk
    clear hx h hblk hok hf
    by_cases h0 : 0 < r.p.length
    · obtain ⟨b, o, rfl, hB⟩ := hS h0
      have hbt := hA h0 _ rfl
      simp only at hbt
      have HBy := Lib.hid hB
      clear hS hA hN hB
      by_cases hcap : c = n
      · subst hcap
        go_enter Tryd.func95, Tryd.ntmps95
        go_wp2_with fail
        go_ret
        have := take_close (n := c) (k := c) (c' := 0) (A' := some ⟨b, o, none⟩) HBlk.out HBy.out hbt hle hnl (fun a ha => by cases ha; rfl) (fun h => by omega) (fun h => by cases h) (by omega)
        rw [show r.p.length - c = 0 by omega] at this
        exact this
      · have hcap' : n < c := by omega
        go_enter Tryd.func95, Tryd.ntmps95
        go_wp2_with fail
        go_ret
        exact take_close (k := c) HBlk.out HBy.out hbt hle hnl (fun a ha => by cases ha; rfl) (fun _ => rfl) (fun h => by cases h) (by omega)
    · have hz : r.p.length = 0 := by omega
      have hp : r.p = [] := List.eq_nil_of_length_eq_zero hz
      obtain rfl : n = 0 := by omega
      rw [hz] at c0 HBlk
      have HP := Lib.hid hp
      clear hlt' hlt2 hp hS hnl
      have ht' : (decide ((0 : Int) < 0)) = false := rfl
      cases A with
      | none =>
        obtain rfl := hN rfl
        clear hN hA
        go_enter Tryd.func95, Tryd.ntmps95
        go_wp2_with fail
        go_ret
        exact take_empty (k := 0) HP.out HBlk.out hle (fun _ => rfl)
      | some a =>
        clear hN hA
        by_cases hcap : c = 0
        · subst hcap
          go_enter Tryd.func95, Tryd.ntmps95
          go_wp2_with fail
          go_ret
          exact take_empty (k := 0) HP.out HBlk.out hle (fun h => by cases h)
        · have hcap' : 0 < c := by omega
          go_enter Tryd.func95, Tryd.ntmps95
          go_wp2_with fail
          go_ret
          exact take_empty (k := c) HP.out HBlk.out hle (fun h => by cases h)
set_option maxRecDepth 100000 in
set_option maxHeartbeats 1000000 in
theorem iwide_any (top g n : Nat) (hn : n ≤ 8) (r : Rd) (hr : r.p.length ≤ 1000000) (hok : r.ok) (w : World) (h : RdIs w 125 top g r) :
    Calls Tryd.prog 71 #[.pointer (some ⟨g, 0, none⟩), .int .i64 n] w (NumPost .u64 (numR n r) w 125 top g n r) := by
  have H := Lib.hid h; have HK := Lib.hid hok; clear h hok
  go_enter Tryd.func71, Tryd.ntmps71
  go_wp2_with fail
  refine (itake_any top g n (by omega) r hr HK.out w H.out).mono ?_
  rintro e w1 ⟨A, c, rfl, hs, hr1, ho1⟩
  have HS := Lib.hid hs; have HR := Lib.hid hr1; have HO := Lib.hid ho1
  have htl := taken_length n r
  have HV : Hid (numR n r = val 256 (nat (taken n r))) := rfl
  clear hs hr1 ho1 H
  generalize taken n r = t at *
  generalize numR n r = v at *
  go_wp2_with fail
  go_loop [6, 7] (fun vx vi => ∃ k : Nat, k ≤ t.length ∧ vi = .int .i64 k ∧ vx = .int .u64 (val 256 (nat (t.take k)) : Nat)) (fun _ vi => t.length - (intOf vi).toNat)
  case atStart => exact ⟨0, Nat.zero_le _, rfl, rfl⟩
  case round =>
    obtain ⟨k, hk, rfl, rfl⟩ := hrel
    by_cases hlt : k < t.length
    · obtain ⟨b, o, rfl, hb⟩ := HS.out (by omega)
      have c0 : w1.cell? ⟨b, o + k, none⟩ = some (vb t[k]) := hb k hlt
      have hx := val_take_lt t k (by omega)
      have HVT := Lib.hid (val_take t k hlt)
      have hbb : t[k].toNat < 256 := t[k].toNat_lt
      clear hb
      generalize val 256 (nat (t.take k)) = x at *
      generalize t[k] = y at *
      have hx' : x ≤ 72057594037927935 := by omega
      clear hx
      go_wp2_with fail
      go_round
      case rel => exact ⟨k + 1, by omega, by go_num, by rw [HVT.out]; go_num⟩
      case measure => simp [intOf]; omega
    · obtain rfl : k = t.length := by omega
      rw [List.take_length, ← HV.out]
      go_wp2_with fail
      go_ret
      exact ⟨rfl, HR.out, HO.out⟩
set_option maxRecDepth 100000 in
set_option maxHeartbeats 1000000 in
theorem itext_any (top g : Nat) (r : Rd) (hr : r.p.length ≤ 1000000) (hok : r.ok) (w : World) (h : RdIs w 125 top g r) :
    Calls Tryd.prog 73 #[.pointer (some ⟨g, 0, none⟩)] w (TextPost w 125 top g r) := by
  have H := Lib.hid h; have HK := Lib.hid hok; have HK2 := Lib.hid (ok_after hok 2)
  clear h hok
  have hlt : numR 2 r < 65536 := numR_lt 2 r
  have hal := after_len 2 r
  go_enter Tryd.func73, Tryd.ntmps73
  go_wp2_with fail
  refine (iwide_any top g 2 (by decide) r hr HK.out w H.out).mono ?_
  rintro e w1 ⟨rfl, h1, h2⟩
  have HR := Lib.hid h1; have HO := Lib.hid h2
  obtain ⟨A, c, hblk, -, -, -, -⟩ := h1.ex
  have c1 := hblk.cell 1
  simp only [List.getElem?_cons_zero, List.getElem?_cons_succ] at c1
  clear h1 h2 hblk
  cases hf : (after 2 r).f with
  | true =>
    rw [hf] at c1
    have e := ok_failed HK2.out hf
    have HE : Hid (textR r = [] ∧ textA r = fails) := by
      show _ ∧ _
      unfold textR textA; rw [e]; exact fails_taken _
    rw [e] at HR
    clear hf e
    generalize numR 2 r = n at *
    go_wp2_with fail
    go_ret
    exact ⟨by rw [HE.out.1]; rfl, by rw [HE.out.2]; exact HR.out, HO.out⟩
  | false =>
    rw [hf] at c1
    clear hf
    have HT : Hid (taken (numR 2 r) (after 2 r) = textR r) := rfl
    have HT2 : Hid (after (numR 2 r) (after 2 r) = textA r) := rfl
    generalize numR 2 r = n at *
    go_wp2_with fail
    refine (itake_any top g n (by omega) (after 2 r) (by omega) HK2.out w1 HR.out).mono ?_
    rintro e w2 ⟨A, c, rfl, hs, hr2, ho2⟩
    have HR2 := Lib.hid hr2; have HO2 := Lib.hid ho2
    have hcv := run_text_src (cap := c) hs
    clear hs hr2 ho2
    rw [HT.out] at hcv ⊢
    rw [HT2.out] at HR2
    go_wp2_with fail
    go_ret
    exact ⟨rfl, HR2.out, HO.out.trans HO2.out⟩
/-- what Whole answers -/
def wholeR (r : Rd) : Bool := !r.f && decide (r.p.length = 0)
set_option maxRecDepth 100000 in
theorem whole_any (top g : Nat) (r : Rd) (w : World) (h : RdIs w 125 top g r) :
    Calls Tryd.prog 75 #[.pointer (some ⟨g, 0, none⟩)] w fun e w' => e = .returned (.bool (wholeR r)) ∧ w = w' := by
  obtain ⟨A, c, hblk, -, -, -, -⟩ := h.ex
  have c0 := hblk.cell 0; have c1 := hblk.cell 1
  simp only [List.getElem?_cons_zero, List.getElem?_cons_succ] at c0 c1
  clear h hblk
  cases hf : r.f with
  | true =>
    have HE : Hid (wholeR r = false) := by show _ = _; simp [wholeR, hf]
    rw [hf] at c1
    clear hf
    go_enter Tryd.func75, Tryd.ntmps75
    go_wp2_with fail
    go_ret
    exact ⟨by rw [HE.out]; rfl, rfl⟩
  | false =>
    have HE : Hid (wholeR r = ((r.p.length : Int) == 0)) := by
      show _ = _; unfold wholeR; rw [hf, Bool.eq_iff_iff]; simp
    rw [hf] at c1
    clear hf
    go_enter Tryd.func75, Tryd.ntmps75
    go_wp2_with fail
    go_ret
    refine ⟨?_, rfl⟩
    rw [HE.out]
    rfl
end Go.Proofs.YtghbabnekalgpaaDoor
