/- The walk of WireLong. -/
import Derived.Test.YtefifdejepafgaaW11
import Derived.Deep.RegionHeld3
namespace Go.Proofs.Ytefifdejepafgaa
open Go.RowKit BaseMath WireMath

/-- the first k bytes are c -/
def fillN (L : Nat) (c : By) (k : Nat) : List By := List.replicate k c ++ List.replicate (L - k) 0
theorem fillN_length (L : Nat) (c : By) (k : Nat) (h : k ≤ L) : (fillN L c k).length = L := by simp [fillN]; omega
theorem fillN_zero (L : Nat) (c : By) : fillN L c 0 = List.replicate L 0 := by simp [fillN]
theorem fillN_last (L : Nat) (c : By) : fillN L c L = List.replicate L c := by simp [fillN]
theorem fillN_step (L : Nat) (c : By) (k : Nat) (h : k < L) : (fillN L c k).set k c = fillN L c (k + 1) := by
  unfold fillN
  rw [List.set_append_right _ _ (by simp)]
  simp only [List.length_replicate, Nat.sub_self]
  rw [show L - k = (L - (k + 1)) + 1 by omega, List.replicate_succ, List.set_cons_zero, List.replicate_succ' (n := k), List.append_assoc]; rfl
/-- so many texts of one byte -/
def ones (k : Nat) : List (List By) := (List.range k).map fun i => [UInt8.ofNat i]
theorem ones_length (k : Nat) : (ones k).length = k := by simp [ones]
theorem ones_succ (k : Nat) : (ones (k + 1)).map vs = (ones k).map vs ++ [vs [UInt8.ofNat k]] := by simp [ones, List.range_succ]
theorem ones_flat (k : Nat) : ((ones k).flatMap textB).length = 3 * k := by
  induction k with
  | zero => rfl
  | succ k ih =>
    have e : ones (k + 1) = ones k ++ [[UInt8.ofNat k]] := by simp [ones, List.range_succ]
    rw [e, List.flatMap_append, List.length_append, ih]; simp [textB, numB]; omega
theorem ones_short (k : Nat) : ∀ s ∈ ones k, s.length < 65536 := by
  intro s hs; simp [ones] at hs; obtain ⟨i, _, rfl⟩ := hs; simp
theorem texts_n (A B : Option Addr) (ca cb n : Nat) (ls : List (List By)) (hn : ls.length = n) (hl : n ≤ 100000) (w : World) (hA : StrsIs w A ls) (hB : StrsIs w B ls) :
    Calls Try.prog 31 #[.slice A n ca, .slice B n cb] w fun e w' => e = .returned (.bool true) ∧ ∃ q, w' = w.drewN q := by subst hn; exact texts_same A B ca cb ls hl w hA hB
structure FillRel (w : World) (g L : Nat) (c : By) (k : Nat) (wr : World) : Prop where
  below : Below w.heap.size w wr
  blk : Blk wr g 5 ((fillN L c k).map vb)
set_option maxHeartbeats 2000000 in
set_option maxRecDepth 100000 in
theorem long_walk (n : Nat) (hn : n < 65536) (kk c : By) (w : World) :
    Calls Try.prog 14 #[.int .u16 n, vb kk, vb c] w fun e w' => e = .returned (.bool true) ∧ Below w.heap.size w w' := by
  obtain ⟨L, hL⟩ : ∃ L, L = n % 4000 := ⟨_, rfl⟩
  have hL1 : (n : Int) % 4000 = (L : Nat) := by omega
  have hL2 : L < 4000 := by omega
  have hK : kk.toNat < 256 := kk.toNat_lt
  clear hL
  have hmk : ∀ w, (Instr.makeSlice 22 (.int .i64 (L : Nat)) (.int .i64 (L : Nat))).run Try.prog w = .ok (.slice (some ⟨w.heap.size, 0, none⟩) L L) (w.alloc (.cells ((fillN L c 0).map vb).toArray 5)) := by
    intro w
    have := run_mk L L (Nat.le_refl _) (by omega) w
    rw [fillN_zero, List.map_replicate]; exact this
  go_enter Try.func14, Try.ntmps14
  go_wp2_with fail
  refine (lays_any w).mono ?_
  rintro e w1 ⟨rfl, hb1⟩
  have HB1 := Lib.hid hb1; clear hb1
  have HF0 : Hid (FillRel w1 w1.heap.size L c 0 (w1.alloc (.cells ((fillN L c 0).map vb).toArray 5))) := ⟨(Below.refl _ _).alloc (Nat.le_refl _) _, Blk.new w1 5 _⟩
  obtain ⟨z0, HZ⟩ : ∃ z, Hid (z = ((fillN L c 0).map vb).toArray) := ⟨_, rfl⟩
  rw [← HZ.out] at HF0 hmk
  clear HZ
  go_wp2_with fail
  clear hL1
  go_loopw [8] (fun vi wr => ∃ k : Nat, k ≤ L ∧ vi = .int .i64 k ∧ Hid (FillRel w1 w1.heap.size L c k wr)) (fun vi _ => L - (intOf vi).toNat)
  case atStart => exact ⟨0, Nat.zero_le _, rfl, HF0.out⟩
  case round =>
    clear HF0 hmk
    obtain ⟨k, hk, rfl, HR⟩ := hrel
    rename World => W0
    by_cases hlt : k < L
    · have hb := HR.out.blk
      have hlen : (fillN L c k).length = L := fillN_length L c k hk
      have c0 : W0.cell? ⟨w1.heap.size, k, none⟩ = some (vb ((fillN L c k)[k]'(by omega))) := by rw [hb.cell, List.getElem?_map, List.getElem?_eq_getElem (by omega)]; rfl
      have f0 := hb.frozen k
      have HS : Hid (FillRel w1 w1.heap.size L c (k + 1) (W0.setCell ⟨w1.heap.size, k, none⟩ (vb c))) :=
        ⟨HR.out.below.setCell (Nat.le_refl _) _, by have := hb.set k (vb c); rw [← List.map_set, fillN_step L c k hlt] at this; exact this⟩
      generalize (fillN L c k)[k]'(by omega) = old at *
      clear hb HR hlen
      go_wp2_with fail
      go_roundw
      case rel => exact ⟨k + 1, by omega, by go_num, HS.out⟩
      case measure => simp [intOf]; omega
    · obtain rfl : k = L := by omega
      have hb : Blk W0 w1.heap.size 5 ((List.replicate k c).map vb ++ []) := by have := HR.out.blk; rw [fillN_last] at this; simpa using this
      have HBy := Lib.hid (Blk.bytes hb)
      have HSL : Hid ((List.replicate k c).length = k) := by show _ = _; simp
      have hgl := hb.lt
      have HB2 : Hid (Below w.heap.size w W0) := HB1.out.trans (HR.out.below.mono HB1.out.size)
      clear hb HR HB1
      obtain ⟨s, HSs⟩ : ∃ s, Hid (s = List.replicate k c) := ⟨_, rfl⟩
      rw [← HSs.out] at HBy HSL
      obtain ⟨K, HKK⟩ : ∃ K, Hid (K = kk.toNat) := ⟨_, rfl⟩
      have hK2 : (kk.toNat : Int) = (K : Nat) := by rw [HKK.out]
      have hK3 : K < 256 := by rw [HKK.out]; exact hK
      go_wp2_with fail
      go_loopw [9, 10] (fun v vi wr => ∃ j : Nat, j ≤ K ∧ vi = .int .i64 j ∧ Hid (RowRel W0 9 ((ones j).map vs) v wr)) (fun _ vi _ => K - (intOf vi).toNat)
      case atStart => exact ⟨0, Nat.zero_le _, rfl, RowRel.none W0 9⟩
      case round =>
        obtain ⟨j, hj, rfl, HR⟩ := hrel
        rename World => W1
        by_cases hjl : j < K
        · have HOL := Lib.hid (ones_length j)
          have HOS := Lib.hid (ones_succ j)
          have HVB : Hid (vb (UInt8.ofNat j) = .int .u8 (j : Nat)) := by show _ = _; rw [vb_ofNat, Nat.mod_eq_of_lt (by omega)]
          have hsrc := new_src W1 [UInt8.ofNat j]
          rw [List.map_cons, List.map_nil, HVB.out] at hsrc
          have hcv : (convert 22 9 (.slice (some ⟨W1.heap.size, 0, none⟩) 1 1)).run Try.prog (W1.alloc (.cells #[.int .u8 (j : Nat)] 5)) = .ok (vs [UInt8.ofNat j]) (W1.alloc (.cells #[.int .u8 (j : Nat)] 5)) := run_text_src (cap := 1) hsrc
          generalize UInt8.ofNat j = bj at *
          have HR' := Lib.hid (HR.out.alloc (.cells [Value.int .u8 (j : Nat)].toArray 5))
          clear hsrc HR HVB
          go_wp2_with (refine wpList_push Try.underlying44 info9 rfl (by decide) rfl (.tmp 35) (.tmp 40) rfl HR'.out rfl [vs [bj]] 1 rfl (by simp [Act.eval]) rfl (by rw [List.length_map, HOL.out]; omega) ?_)
          intro v1 wx hr1
          rw [← HOS.out] at hr1
          have HN := Lib.hid hr1
          clear hr1 hcv HR'
          go_wp2_with fail
          go_roundw
          case rel => exact ⟨j + 1, by omega, by go_num, HN.out⟩
          case measure => simp [intOf]; omega
        · obtain rfl : j = K := by omega
          obtain ⟨A9, c9, hv9, hs9, hb9⟩ := own_strs (ls := ones j) (by have := HR.out.own; rwa [List.length_map] at this)
          rw [ones_length] at hv9
          subst hv9
          have hsz := HR.out.below.size
          have HB3 : Hid (Below w.heap.size w W1) := HB2.out.trans (HR.out.below.mono HB2.out.size)
          have HBy1 := Lib.hid (HBy.out.same (HR.out.below.block w1.heap.size hgl))
          have HS9 := Lib.hid hs9; have HB9 := Lib.hid hb9
          have HOL := Lib.hid (ones_length j); have HOF := Lib.hid (ones_flat j); have HOS := Lib.hid (ones_short j)
          generalize ones j = ls at *
          have HWN := Lib.hid (writer_new W1)
          have HB4 : Hid (Below W1.heap.size W1 (W1.alloc (.cells #[.slice none 0 0] 62))) := (Below.refl _ _).alloc (Nat.le_refl _) _
          have hcv := run_text (cap := k) (HBy1.out.same (HB4.out.block w1.heap.size (by omega))) HSL.out
          clear HR hs9 hb9 HBy HB2
          have HE : Hid (textB s ++ textsB ls = [] ++ textB s ++ textsB ls) := by show _ = _; simp
          obtain ⟨et1, et2⟩ := text_back s (textsB ls ++ []) false (by rw [HSL.out]; omega)
          obtain ⟨es1, es2⟩ := texts_back ls [] 255 (by rw [HOL.out]; omega) (by rw [HOL.out]; omega) HOS.out
          rw [List.append_nil] at et1 et2
          have HT1 := Lib.hid et1; have HT2 := Lib.hid et2; have HS1 := Lib.hid es1; have HS2 := Lib.hid es2
          rw [List.append_nil] at HS1 HS2
          have HLL : Hid ((textB s ++ textsB ls).length ≤ 10000) := by
            show _ ≤ _
            simp only [textB, textsB, List.length_append, HSL.out]
            have := HOF.out; simp only [List.length_cons, List.length_nil, numB]; omega
          clear et1 et2 es1 es2
          go_wp2_with fail
          refine (wtext_any W1.heap.size W1.heap.size (.slice none 0 0) [] s (by rw [HSL.out]; simp; omega) _ HWN.out).mono ?_
          rintro e w5 ⟨rfl, v5, h5, t5⟩
          have HW5 := Lib.hid h5
          have HB5 : Hid (Below W1.heap.size W1 w5) := HB4.out.trans (t5.below HWN.out HB4.out.size)
          clear h5 t5 HWN HB4 hcv
          have hwt := wtexts_any W1.heap.size W1.heap.size v5 ([] ++ textB s) A9 c9 ls (by rw [HOL.out]; omega) (by rw [HOF.out]; simp only [textB, numB, List.length_append, List.length_nil, List.length_cons, HSL.out]; omega) w5 HW5.out (HS9.out.below HB5.out (fun _ a ha => (HB9.out a ha).2)) (fun _ a ha => (HB9.out a ha).2)
          rw [HOL.out] at hwt
          have HWT := Lib.hid hwt; clear hwt
          go_wp2_with fail
          refine HWT.out.mono ?_
          rintro e w6 ⟨rfl, v6, h6, t6⟩
          rw [← HE.out] at h6
          have HW6 := Lib.hid h6
          have HB6 : Hid (Below W1.heap.size W1 w6) := HB5.out.trans (t6.below HW5.out HB5.out.size)
          clear h6 t6 HW5 HB5 HWT HE
          obtain ⟨all, HALL⟩ : ∃ all, Hid (textB s ++ textsB ls = all) := ⟨_, rfl⟩
          rw [HALL.out] at HW6 HLL HT1 HT2
          go_wp2_with fail
          refine (wbytes_any W1.heap.size W1.heap.size v6 all (by have := HLL.out; omega) w6 HW6.out).mono ?_
          rintro e w7 ⟨v7, rfl, hr7⟩
          obtain ⟨A7, c7, rfl, hs7, hn7, -, -⟩ := hr7.src
          have HB7 : Hid (Below W1.heap.size W1 w7) := HB6.out.trans (hr7.below.mono HB6.out.size)
          have HS7 := Lib.hid hs7; have HN7 := Lib.hid hn7
          clear hr7 hs7 hn7 HW6 HB6
          go_wp2_with fail
          refine (reader_any A7 c7 all (by have := HLL.out; omega) HN7.out w7 HS7.out).mono ?_
          rintro e w8 ⟨g, rfl, hg8, hr8, hb8⟩
          have HB8 : Hid (Below W1.heap.size W1 w8) := HB7.out.trans (hb8.mono HB7.out.size)
          have hgW : W1.heap.size ≤ g := Nat.le_trans HB7.out.size hg8
          have HR8 := Lib.hid hr8
          clear hr8 hb8 HB7 HS7
          go_wp2_with fail
          have HCV : Hid (∀ w' : World, w'.heap[w1.heap.size]? = W1.heap[w1.heap.size]? → (convert 22 9 (.slice (some ⟨w1.heap.size, 0, none⟩) k k)).run Try.prog w' = .ok (vs s) w') := fun w' h => run_text (cap := k) (HBy1.out.same h) HSL.out
          have hg1 : w1.heap.size < W1.heap.size := by omega
          have h8 : w8.drew.heap[w1.heap.size]? = W1.heap[w1.heap.size]? := HB8.out.block _ hg1
          have k8 := HCV.out w8.drew h8
          have H8 := Lib.hid h8; clear h8
          replace HR8 : Hid (RdIs w8.drew 82 g g ⟨all, false⟩) := ⟨HR8.out.ex, HR8.out.le⟩
          replace HB8 : Hid (Below W1.heap.size W1 w8.drew) := HB8.out.drew
          go_region_held3 (fun w' => (convert 22 9 (.slice (some ⟨w1.heap.size, 0, none⟩) k k)).run Try.prog w' = .ok (vs s) w')
            (first | exact k8 | exact k9 | exact k10 | exact k11 | exact k12)
            (first
              | (go_at_call 30
                 refine (rtext_any g g ⟨all, false⟩ (by show all.length ≤ _; have := HLL.out; omega) _ HR8.out).mono ?_
                 rintro e w9 ⟨rfl, h1, o1⟩
                 rw [HT1.out]
                 rw [HT2.out] at h1
                 have h9 : w9.heap[w1.heap.size]? = W1.heap[w1.heap.size]? := (o1.other _ (Nat.lt_of_lt_of_le hg1 HB8.out.size) (by omega)).trans H8.out
                 have k9 := HCV.out w9 h9
                 have H9 := Lib.hid h9; have HR9 := Lib.hid h1
                 have HB9' : Hid (Below W1.heap.size W1 w9) := HB8.out.trans (o1.below hgW HB8.out.size)
                 clear h9 h1 o1)
              | (go_at_call 32
                 refine (rtexts_any g g 255 ⟨textsB ls, false⟩ (by show (textsB ls).length ≤ _; have := HLL.out; rw [← HALL.out, List.length_append] at this; omega) (fun h => by cases h) _ HR9.out).mono ?_
                 rintro e w10 ⟨v10, rfl, ho10, h1, o1⟩
                 rw [HS1.out] at ho10
                 rw [HS2.out] at h1
                 have h10 : w10.heap[w1.heap.size]? = W1.heap[w1.heap.size]? := (o1.other _ (Nat.lt_of_lt_of_le hg1 HB9'.out.size) (by omega)).trans H9.out
                 have k10 := HCV.out w10 h10
                 have H10 := Lib.hid h10; have HR10 := Lib.hid h1
                 have HB10 : Hid (Below W1.heap.size W1 w10) := HB9'.out.trans (o1.below hgW HB9'.out.size)
                 obtain ⟨A10, c10, hv10, hs10, -⟩ := own_strs ho10
                 rw [HOL.out] at hv10
                 subst hv10
                 have HS10 := Lib.hid hs10
                 have HS9' := Lib.hid (HS9.out.below HB10.out (fun _ a ha => (HB9.out a ha).2))
                 clear h10 h1 o1 ho10 hs10)
              | (go_at_call 31
                 refine (texts_n A10 A9 c10 c9 j ls HOL.out (by omega) _ HS10.out HS9'.out).mono ?_
                 rintro e w11 ⟨rfl, q, hw11⟩
                 have HB11 : Hid (Below W1.heap.size W1 w11) := by show Below _ _ _; rw [hw11]; exact below_drewN HB10.out q
                 have HR11 : Hid (RdIs w11 82 g g ⟨[], false⟩) := by show RdIs _ _ _ _ _; rw [hw11]; exact HR10.out.drewN q
                 have k11 := HCV.out w11 (by rw [hw11]; exact H10.out)
                 clear hw11)
              | (go_at_call 34
                 refine (end_any g g ⟨[], false⟩ _ HR11.out).mono ?_
                 rintro e w12 ⟨rfl, hw12⟩
                 subst hw12
                 rw [show endR ⟨[], false⟩ = 0 from rfl]
                 have k12 := k11))
          go_wp2_with fail
          go_ret
          exact ⟨rfl, HB3.out.trans (HB11.out.mono HB3.out.size)⟩
end Go.Proofs.Ytefifdejepafgaa
