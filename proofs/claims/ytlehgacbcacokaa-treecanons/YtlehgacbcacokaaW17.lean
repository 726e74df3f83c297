/- The contracts of title and Small. -/
import Derived.Test.YtlehgacbcacokaaK5
namespace Go.Proofs.Ytlehgacbcacokaa
open Go.RowKit TreeMath RealMath

theorem title_cells (n : By) : #[Value.int .u8 (97 + (n.toNat : Int) % 26), .int .u8 (97 + (n.toNat : Int) / 26)] = ((titleN n).map vb).toArray := by
  have := n.toNat_lt
  unfold titleN
  simp only [List.map_cons, List.map_nil, vb]
  rw [show ((UInt8.ofNat (97 + n.toNat % 26)).toNat : Int) = 97 + (n.toNat : Int) % 26 by rw [UInt8.toNat_ofNat_of_lt' (by show _ < 256; omega)]; omega,
    show ((UInt8.ofNat (97 + n.toNat / 26)).toNat : Int) = 97 + (n.toNat : Int) / 26 by rw [UInt8.toNat_ofNat_of_lt' (by show _ < 256; omega)]; omega]
theorem title_conv (n : By) (W : World) : (convert 24 9 (.slice (some ⟨W.heap.size, 0, none⟩) 2 2)).run Try.prog (W.alloc (.cells #[.int .u8 (97 + (n.toNat : Int) % 26), .int .u8 (97 + (n.toNat : Int) / 26)] 5)) =
    .ok (vs (titleN n)) (W.alloc (.cells #[.int .u8 (97 + (n.toNat : Int) % 26), .int .u8 (97 + (n.toNat : Int) / 26)] 5)) := by
  rw [title_cells n]
  exact run_text_src (A := some ⟨W.heap.size, 0, none⟩) (cap := 2) (l := titleN n) (Blk.src (tl := []) (by simpa using Blk.new W 5 ((titleN n).map vb).toArray))
set_option maxHeartbeats 1000000 in
theorem title_any (n : By) (w : World) : Calls Try.prog 84 #[vb n] w fun e w' => e = .returned (vs (titleN n)) ∧ Below w.heap.size w w' := by
  have hcv := title_conv n w
  have hn := n.toNat_lt
  go_enter Try.func84, Try.ntmps84
  go_wp2_with fail
  go_ret
  exact ⟨rfl, (Below.refl _ _).alloc (Nat.le_refl _) _⟩
def smallB (l : List Md) : Bool := l.all (fun m => decide (m.data.length ≤ 200)) && decide (l.length ≤ 60)
set_option maxHeartbeats 1000000 in
theorem small_any (A : Option Addr) (c B : Nat) (l : List Md) (hl : l.length ≤ maxLen) (w : World) (h : Mades w B A l) : Calls Try.prog 24 #[.slice A l.length c] w fun e w' => e = .returned (.bool (smallB l)) ∧ w = w' := by
  have H := Lib.hid h
  clear h
  unfold maxLen at hl
  go_enter Try.func24, Try.ntmps24
  go_wp2_with fail
  go_loop [3] (fun vi => ∃ i : Nat, i ≤ l.length ∧ vi = .int .i64 i ∧ Hid (∀ j (h : j < l.length), j < i → l[j].data.length ≤ 200)) (fun vi => l.length - (intOf vi).toNat)
  case atStart => exact ⟨0, Nat.zero_le _, rfl, fun j _ h => by omega⟩
  case round =>
    obtain ⟨i, hi, rfl, HP⟩ := hrel
    by_cases hlt : i < l.length
    · obtain ⟨b, o, rfl, hb, hc⟩ := H.out.at_ (by omega)
      obtain ⟨c0, c1, c2, c3, c4, c5⟩ := (hc i hlt).six
      have hdl := (H.out.each _ (List.getElem_mem hlt)).dlen
      unfold maxLen at hdl
      clear hc
      by_cases h2 : l[i].data.length ≤ 200
      · have h2' : ¬ (200 : Int) < l[i].data.length := by omega
        have HP' : Hid (∀ j (h : j < l.length), j < i + 1 → l[j].data.length ≤ 200) := fun j hj hji => by
          by_cases e : j = i
          · subst e; exact h2
          · exact HP.out j hj (by omega)
        clear HP
        generalize l[i] = m at *
        go_wp2_with fail
        go_round
        case rel => exact ⟨i + 1, by omega, by go_num, HP'.out⟩
        case measure => simp [intOf]; omega
      · have h2' : (200 : Int) < l[i].data.length := by omega
        have HF : Hid (smallB l = false) := by
          show _ = _
          unfold smallB
          rw [show l.all (fun m => decide (m.data.length ≤ 200)) = false from List.all_eq_false.2 ⟨l[i], List.getElem_mem hlt, by simpa using h2⟩]; rfl
        clear HP
        generalize l[i] = m at *
        go_wp2_with fail
        go_ret
        exact ⟨by rw [HF.out]; rfl, rfl⟩
    · have HF : Hid (smallB l = decide (l.length ≤ 60)) := by
        show _ = _
        unfold smallB
        rw [show l.all (fun m => decide (m.data.length ≤ 200)) = true from List.all_eq_true.2 (fun m hm => by obtain ⟨j, hj, rfl⟩ := List.getElem_of_mem hm; exact decide_eq_true (HP.out j hj (by omega)))]; rfl
      obtain rfl : i = l.length := by omega
      clear HP
      by_cases h6 : l.length ≤ 60
      · have h6' : decide ((l.length : Int) ≤ 60) = true := decide_eq_true (by omega)
        rw [decide_eq_true h6] at HF
        go_wp2_with fail
        go_ret
        exact ⟨by rw [HF.out]; rfl, rfl⟩
      · have h6' : decide ((l.length : Int) ≤ 60) = false := decide_eq_false (by omega)
        rw [decide_eq_false h6] at HF
        go_wp2_with fail
        go_ret
        exact ⟨by rw [HF.out]; rfl, rfl⟩
end Go.Proofs.Ytlehgacbcacokaa
