/- The contract of the reader's Texts. -/
import Derived.Test.YtghbabnekalgpaaDoorW5
namespace Go.Proofs.YtghbabnekalgpaaDoor
open Go.RowKit BaseMath WireMath

set_option maxRecDepth 100000 in
theorem OnlyAt.grown {g : Nat} {a w w' : World} {row : Option Nat} (h : OnlyAt g a w) (hg : w.grownBy w' row) (hr : ∀ k, row = some k → a.heap.size ≤ k) : OnlyAt g a w' :=
  ⟨hg.os.trans h.os, hg.tape.trans h.tape, hg.output.trans h.output, Nat.le_trans h.size hg.size, fun c hc hn => by
    rw [hg.block c (Nat.lt_of_lt_of_le hc h.size) (fun e => by have := hr c e.symm; omega)]; exact h.other c hc hn⟩
set_option maxRecDepth 100000 in
theorem OnlyAt.alloc {g : Nat} {a w : World} (h : OnlyAt g a w) (o : Obj) : OnlyAt g a (w.alloc o) := by
  refine ⟨h.os, h.tape, h.output, by simp; have := h.size; omega, fun c hc hn => ?_⟩
  rw [Below.heap_alloc w o c (Nat.lt_of_lt_of_le hc h.size)]; exact h.other c hc hn
set_option maxRecDepth 100000 in
theorem textsGo_end (n k : Nat) (acc : List (List By)) (r : Rd) (h : n ≤ k ∨ r.f = true) : textsGo (n - k) acc r = (acc, r) := by
  rcases h with h | h
  · rw [show n - k = 0 by omega]; rfl
  · exact textsGo_failed _ _ _ h
set_option maxRecDepth 100000 in
theorem new_cells (W : World) (e : TypeId) (ns : List Value) : ∀ j y, ns[j]? = some y → (W.alloc (.cells ns.toArray e)).cell? ((⟨W.heap.size, 0, none⟩ : Addr).add j) = some y := fun j y hj => by
  rw [Addr.add_mid, Nat.zero_add, (Blk.new W e ns.toArray).cell]; exact hj
/-- what stands ahead of a round -/
structure TxRel (w : World) (T : TypeId) (top g : Nat) (n : Nat) (all : List (List By) × Rd) (len k : Nat) (v : Value) (f : Bool) (wr : World) : Prop where
  ex : ∃ acc r, wr.ownsRow w.heap.size 9 1 v acc.length (acc.map vs) ∧ RdIs wr T top g r ∧ r.ok ∧ r.p.length ≤ len ∧ acc.length = k ∧ textsGo (n - k) acc r = all ∧ r.f = f
  only : OnlyAt g w wr
/-- what Texts comes to -/
def TextsPost (w : World) (T : TypeId) (top g : Nat) (ls : List (List By)) (ra : Rd) (e : Ending) (w' : World) : Prop :=
  ∃ v, e = .returned v ∧ w'.ownsRow w.heap.size 9 1 v ls.length (ls.map vs) ∧ RdIs w' T top g ra ∧ OnlyAt g w w'
set_option maxRecDepth 100000 in
theorem textA_len (r : Rd) : (textA r).p.length ≤ r.p.length := Nat.le_trans (after_len _ _) (after_len _ _)
set_option maxHeartbeats 2000000 in
set_option maxRecDepth 100000 in
theorem rtexts_any (top g : Nat) (most : Int) (r : Rd) (hr : r.p.length ≤ 1000000) (hok : r.ok) (w : World) (h : RdIs w 141 top g r) :
    Calls Tryd.prog 65 #[.pointer (some ⟨g, 0, none⟩), .int .i64 most] w (TextsPost w 141 top g (textsR most r) (textsA most r)) := by
  obtain ⟨i9, hi9, hz0, hz1, hz2⟩ := info_parts info9
  have H := Lib.hid h
  have hgw : g < w.heap.size := by obtain ⟨_, _, hb, _⟩ := h.ex; exact hb.lt
  have hlt : numR 1 r < 256 := numR_lt 1 r
  have hal := after_len 1 r
  have HI := Lib.hid hi9; have HZ0 := Lib.hid hz0; have HZ1 := Lib.hid hz1; have HZ2 := Lib.hid hz2
  have HOK := Lib.hid (ok_after hok 1)
  have HALL : Hid (textsAll most r = textsGo (numR 1 r - 0) [] (texts0 most r)) := rfl
  have HTR : Hid (textsR most r = if (textsAll most r).2.f then [] else (textsAll most r).1) := rfl
  have HTA : Hid (textsA most r = (textsAll most r).2) := rfl
  clear h hi9 hz0 hz1 hz2 hok
  go_enter Tryd.func65, Tryd.ntmps65
  go_wp2_with fail
  refine (byte_any top g r hr w H.out).mono ?_
  rintro e w1 ⟨rfl, h1, h2⟩
  have HR1 := Lib.hid h1; have HO1 := Lib.hid h2
  clear h1 h2 H
  by_cases hm : most < (numR 1 r : Int)
  · have HT0 : Hid (texts0 most r = fails) := by show _ = _; unfold texts0; rw [if_pos hm]
    rw [HT0.out] at HALL
    generalize textsAll most r = all at *
    generalize numR 1 r = n at *
    go_wp2_with fail
    refine (fail_any top g (after 1 r) w1 HR1.out).mono ?_
    rintro e w2 ⟨rfl, h1, h2⟩
    have HX : Hid (TxRel w 141 top g n all r.p.length 0 (.slice none 0 0) true w2) :=
      ⟨⟨[], fails, World.ownsRow_nil _ _ _ _, h1, ok_fails, Nat.zero_le _, rfl, HALL.out.symm, rfl⟩, HO1.out.trans h2⟩
    clear h1 h2 HR1 HO1 HALL HOK HT0
    go_wp2_with fail
    go_loopw [6, 7] (fun v vk wr => ∃ k : Nat, k ≤ n ∧ vk = .int .i64 k ∧ Hid (∃ f, TxRel w 141 top g n all r.p.length k v f wr)) (fun _ vk _ => n - (intOf vk).toNat)
    case atStart => exact ⟨0, Nat.zero_le _, rfl, _, HX.out⟩
    case round =>
      clear HX
      obtain ⟨k, hk, rfl, HXX⟩ := hrel
      rename World => W0
      obtain ⟨f, hx⟩ := HXX.out
      obtain ⟨acc, r1, ho, hr1, hok1, hlen, hacc, hgo, hf⟩ := hx.ex
      have HO := Lib.hid ho; have HR := Lib.hid hr1; have HK1 := Lib.hid hok1; have HACC := Lib.hid hacc; have HGO := Lib.hid hgo; have HF := Lib.hid hf; have HON := Lib.hid hx.only
      clear HXX hx ho hr1 hok1 hacc hgo hf
      by_cases hkn : k < n
      · cases f with
        | true =>
          have HE : Hid (all = (acc, r1)) := HGO.out.symm.trans (textsGo_end n k acc r1 (.inr HF.out))
          rw [HE.out] at HTR HTA
          simp only [HF.out, if_true] at HTR HTA
          go_wp2_with fail
          refine (ok_any top g r1 W0 HR.out).mono ?_
          rintro e w2 ⟨rfl, rfl⟩
          rw [HF.out]
          go_wp2_with fail
          refine (ok_any top g r1 W0 HR.out).mono ?_
          rintro e w2 ⟨rfl, rfl⟩
          rw [HF.out]
          go_wp2_with fail
          go_ret
          exact ⟨_, rfl, by rw [HTR.out]; exact World.ownsRow_nil _ _ _ _, by rw [HTA.out]; exact HR.out, HON.out⟩
        | false =>
          have HSTEP := Lib.hid (textsGo_step n k acc r1 hkn HF.out)
          rw [HGO.out] at HSTEP
          have hsz := HON.out.size
          go_wp2_with fail
          refine (ok_any top g r1 W0 HR.out).mono ?_
          rintro e w2 ⟨rfl, rfl⟩
          rw [HF.out]
          go_wp2_with fail
          refine (rtext_any top g r1 (by omega) W0 HR.out).mono ?_
          rintro e w3 ⟨rfl, h1, h2⟩
          have HR3 := Lib.hid h1; have HON3 := Lib.hid (HON.out.trans h2)
          have HO3 : Hid (w3.ownsRow w.heap.size 9 1 _ acc.length (acc.map vs)) := ownsRow_keep HO.out (fun c hc => h2.other c (HO.out.lt c hc).2 (by have := (HO.out.lt c hc).1; omega))
          have hsz3 := HON3.out.size
          have HTL := Lib.hid (textA_len r1)
          have HKA := Lib.hid (ok_textA HK1.out)
          clear h1 h2 HR HO HON HK1
          generalize textR r1 = tx at *
          generalize textA r1 = r2 at *
          go_wp2_with (refine wpList_append_own _ rfl (.tmp 25) (.tmp 28) 32 rfl w.heap.size 9 i9 (.string ⟨#[]⟩) 1 16 Tryd.underlying32 HI.out HZ0.out HZ1.out HZ2.out rfl (by decide) _ acc.length (acc.map vs) rfl (HO3.out.alloc _) ⟨w3.heap.size, 0, none⟩ 1 1 [vs tx] rfl rfl (new_cells w3 9 [vs tx]) (by intro y hy; rw [List.mem_singleton.1 hy]; rfl) (by unfold maxLen; have := HACC.out; omega) (by have := HACC.out; omega) (by simp; omega) ?_)
          intro v4 w4 ho4 hg4 _
          have hrow : ∀ c, _ → w.heap.size ≤ c := fun c hc => (HO3.out.lt c hc).1
          have HON4 : Hid (OnlyAt g w w4) := (HON3.out.alloc _).grown hg4 hrow
          have HR4 : Hid (RdIs w4 141 top g r2) := (HR3.out.below ((Below.refl w3.heap.size w3).alloc (Nat.le_refl _) _) (by omega)).below ((Below.refl w.heap.size _).grown hg4 (by simp; omega) hrow) hgw
          have HX4 : Hid (∃ f, TxRel w 141 top g n all r.p.length (k + 1) v4 f w4) := ⟨r2.f, ⟨acc ++ [tx], r2, by rw [List.length_append, List.map_append]; exact ho4, HR4.out, HKA.out, Nat.le_trans HTL.out hlen, by rw [List.length_append, HACC.out]; rfl, HSTEP.out.symm, rfl⟩, HON4.out⟩
          clear ho4 hg4 hrow HON4 HR4 HR3 HON3 HO3
          go_wp2_with fail
          go_roundw
          case rel => exact ⟨k + 1, by omega, by go_num, HX4.out⟩
          case measure => simp [intOf]; omega
      · obtain rfl : k = n := by omega
        have HE : Hid (all = (acc, r1)) := HGO.out.symm.trans (textsGo_end k k acc r1 (.inl (Nat.le_refl _)))
        rw [HE.out] at HTR HTA
        cases f with
        | true =>
          simp only [HF.out, if_true] at HTR HTA
          go_wp2_with fail
          refine (ok_any top g r1 W0 HR.out).mono ?_
          rintro e w2 ⟨rfl, rfl⟩
          rw [HF.out]
          go_wp2_with fail
          go_ret
          exact ⟨_, rfl, by rw [HTR.out]; exact World.ownsRow_nil _ _ _ _, by rw [HTA.out]; exact HR.out, HON.out⟩
        | false =>
          simp only [HF.out, Bool.false_eq_true, if_false] at HTR HTA
          go_wp2_with fail
          refine (ok_any top g r1 W0 HR.out).mono ?_
          rintro e w2 ⟨rfl, rfl⟩
          rw [HF.out]
          go_wp2_with fail
          go_ret
          exact ⟨_, rfl, by rw [HTR.out]; exact HO.out, by rw [HTA.out]; exact HR.out, HON.out⟩
  · have HT0 : Hid (texts0 most r = after 1 r) := by show _ = _; unfold texts0; rw [if_neg hm]
    rw [HT0.out] at HALL
    generalize textsAll most r = all at *
    generalize numR 1 r = n at *
    have HX : Hid (TxRel w 141 top g n all r.p.length 0 (.slice none 0 0) (after 1 r).f w1) :=
      ⟨⟨[], after 1 r, World.ownsRow_nil _ _ _ _, HR1.out, HOK.out, hal, rfl, HALL.out.symm, rfl⟩, HO1.out⟩
    clear HR1 HO1 HALL HOK HT0
    go_wp2_with fail
    go_loopw [6, 7] (fun v vk wr => ∃ k : Nat, k ≤ n ∧ vk = .int .i64 k ∧ Hid (∃ f, TxRel w 141 top g n all r.p.length k v f wr)) (fun _ vk _ => n - (intOf vk).toNat)
    case atStart => exact ⟨0, Nat.zero_le _, rfl, _, HX.out⟩
    case round =>
      clear HX
      obtain ⟨k, hk, rfl, HXX⟩ := hrel
      rename World => W0
      obtain ⟨f, hx⟩ := HXX.out
      obtain ⟨acc, r1, ho, hr1, hok1, hlen, hacc, hgo, hf⟩ := hx.ex
      have HO := Lib.hid ho; have HR := Lib.hid hr1; have HK1 := Lib.hid hok1; have HACC := Lib.hid hacc; have HGO := Lib.hid hgo; have HF := Lib.hid hf; have HON := Lib.hid hx.only
      clear HXX hx ho hr1 hok1 hacc hgo hf
      by_cases hkn : k < n
      · cases f with
        | true =>
          have HE : Hid (all = (acc, r1)) := HGO.out.symm.trans (textsGo_end n k acc r1 (.inr HF.out))
          rw [HE.out] at HTR HTA
          simp only [HF.out, if_true] at HTR HTA
          go_wp2_with fail
          refine (ok_any top g r1 W0 HR.out).mono ?_
          rintro e w2 ⟨rfl, rfl⟩
          rw [HF.out]
          go_wp2_with fail
          refine (ok_any top g r1 W0 HR.out).mono ?_
          rintro e w2 ⟨rfl, rfl⟩
          rw [HF.out]
          go_wp2_with fail
          go_ret
          exact ⟨_, rfl, by rw [HTR.out]; exact World.ownsRow_nil _ _ _ _, by rw [HTA.out]; exact HR.out, HON.out⟩
        | false =>
          have HSTEP := Lib.hid (textsGo_step n k acc r1 hkn HF.out)
          rw [HGO.out] at HSTEP
          have hsz := HON.out.size
          go_wp2_with fail
          refine (ok_any top g r1 W0 HR.out).mono ?_
          rintro e w2 ⟨rfl, rfl⟩
          rw [HF.out]
          go_wp2_with fail
          refine (rtext_any top g r1 (by omega) W0 HR.out).mono ?_
          rintro e w3 ⟨rfl, h1, h2⟩
          have HR3 := Lib.hid h1; have HON3 := Lib.hid (HON.out.trans h2)
          have HO3 : Hid (w3.ownsRow w.heap.size 9 1 _ acc.length (acc.map vs)) := ownsRow_keep HO.out (fun c hc => h2.other c (HO.out.lt c hc).2 (by have := (HO.out.lt c hc).1; omega))
          have hsz3 := HON3.out.size
          have HTL := Lib.hid (textA_len r1)
          have HKA := Lib.hid (ok_textA HK1.out)
          clear h1 h2 HR HO HON HK1
          generalize textR r1 = tx at *
          generalize textA r1 = r2 at *
          go_wp2_with (refine wpList_append_own _ rfl (.tmp 25) (.tmp 28) 32 rfl w.heap.size 9 i9 (.string ⟨#[]⟩) 1 16 Tryd.underlying32 HI.out HZ0.out HZ1.out HZ2.out rfl (by decide) _ acc.length (acc.map vs) rfl (HO3.out.alloc _) ⟨w3.heap.size, 0, none⟩ 1 1 [vs tx] rfl rfl (new_cells w3 9 [vs tx]) (by intro y hy; rw [List.mem_singleton.1 hy]; rfl) (by unfold maxLen; have := HACC.out; omega) (by have := HACC.out; omega) (by simp; omega) ?_)
          intro v4 w4 ho4 hg4 _
          have hrow : ∀ c, _ → w.heap.size ≤ c := fun c hc => (HO3.out.lt c hc).1
          have HON4 : Hid (OnlyAt g w w4) := (HON3.out.alloc _).grown hg4 hrow
          have HR4 : Hid (RdIs w4 141 top g r2) := (HR3.out.below ((Below.refl w3.heap.size w3).alloc (Nat.le_refl _) _) (by omega)).below ((Below.refl w.heap.size _).grown hg4 (by simp; omega) hrow) hgw
          have HX4 : Hid (∃ f, TxRel w 141 top g n all r.p.length (k + 1) v4 f w4) := ⟨r2.f, ⟨acc ++ [tx], r2, by rw [List.length_append, List.map_append]; exact ho4, HR4.out, HKA.out, Nat.le_trans HTL.out hlen, by rw [List.length_append, HACC.out]; rfl, HSTEP.out.symm, rfl⟩, HON4.out⟩
          clear ho4 hg4 hrow HON4 HR4 HR3 HON3 HO3
          go_wp2_with fail
          go_roundw
          case rel => exact ⟨k + 1, by omega, by go_num, HX4.out⟩
          case measure => simp [intOf]; omega
      · obtain rfl : k = n := by omega
        have HE : Hid (all = (acc, r1)) := HGO.out.symm.trans (textsGo_end k k acc r1 (.inl (Nat.le_refl _)))
        rw [HE.out] at HTR HTA
        cases f with
        | true =>
          simp only [HF.out, if_true] at HTR HTA
          go_wp2_with fail
          refine (ok_any top g r1 W0 HR.out).mono ?_
          rintro e w2 ⟨rfl, rfl⟩
          rw [HF.out]
          go_wp2_with fail
          go_ret
          exact ⟨_, rfl, by rw [HTR.out]; exact World.ownsRow_nil _ _ _ _, by rw [HTA.out]; exact HR.out, HON.out⟩
        | false =>
          simp only [HF.out, Bool.false_eq_true, if_false] at HTR HTA
          go_wp2_with fail
          refine (ok_any top g r1 W0 HR.out).mono ?_
          rintro e w2 ⟨rfl, rfl⟩
          rw [HF.out]
          go_wp2_with fail
          go_ret
          exact ⟨_, rfl, by rw [HTR.out]; exact HO.out, by rw [HTA.out]; exact HR.out, HON.out⟩
end Go.Proofs.YtghbabnekalgpaaDoor
