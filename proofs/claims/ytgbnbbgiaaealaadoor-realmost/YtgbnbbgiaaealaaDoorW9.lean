/- The contracts of Most, of the program and of the reference. -/
import Derived.Test.YtgbnbbgiaaealaaDoorW8
import Derived.Test.YtgbnbbgiaaealaaDoorMostM
namespace Go.Proofs.YtgbnbbgiaaealaaDoor
open Go.RowKit RealMath

set_option maxHeartbeats 400000 in
theorem inf_neg (w : World) : Calls Tryd.prog 30 #[.int .i64 (-1)] w fun e w' => e = .returned (.float .f64 NINF) ∧ w = w' := by
  go_enter Tryd.func30, Tryd.ntmps30
  go_wp2
  go_ret
  exact ⟨rfl, rfl⟩

set_option maxHeartbeats 800000 in
theorem most_any (bs : List Nat) (hbs : ∀ b ∈ bs, b < 18446744073709551616) (blk off cap : Nat) (w : World) (hlen : bs.length ≤ 1000000)
    (hc : ∀ i (h : i < bs.length), w.cell? ⟨blk, off + i, none⟩ = some (.float .f64 bs[i])) :
    Calls Tryd.prog 21 #[.slice (some ⟨blk, off, none⟩) bs.length cap] w fun e w' => e = .returned (.float .f64 (canonB (mostL bs))) ∧ w = w' := by
  have HC := Lib.hid hc; have HB := Lib.hid hbs; clear hc hbs
  go_enter Tryd.func21, Tryd.ntmps21
  go_wp2_with (go_at_call 30; refine (inf_neg _).mono ?_; rintro e w' ⟨rfl, rfl⟩)
  go_loopw [3, 9] (fun vm vi wr => ∃ (k m : Nat), vm = .float .f64 m ∧ vi = .int .i64 k ∧ k ≤ bs.length ∧ Hid (w = wr) ∧ Hid (m = mostL (bs.take k))) (fun _ vi _ => bs.length - (intOf vi).toNat)
  case atStart => exact ⟨0, NINF, rfl, rfl, Nat.zero_le _, rfl, rfl⟩
  case round =>
    obtain ⟨k, m, rfl, rfl, hk, HW, HM⟩ := hrel
    obtain rfl := HW.out
    have hm : m < 18446744073709551616 := by rw [HM.out]; exact mostL_lt _ (fun b hb => HB.out b (List.mem_of_mem_take hb))
    by_cases hlt : k < bs.length
    · have hcell := HC.out k hlt
      have hx := HB.out bs[k] (List.getElem_mem hlt)
      have hsn : mostL (bs.take (k + 1)) = pick m bs[k] := by rw [List.take_succ_eq_append_getElem hlt, mostL_snoc, ← HM.out]
      have HS := Lib.hid hsn; clear hsn
      generalize bs[k] = x at *
      cases hl : lessB m x
      · have HS2 := Lib.hid (HS.out.trans (pick_no hl))
        go_wp2_with (go_at_call 19; refine (less_any _ _ (by assumption) (by assumption) _).mono ?_; rintro e w' ⟨rfl, rfl⟩)
        exact ⟨⟨k + 1, m, rfl, by go_num, hlt, True.intro, HS2.out.symm⟩, by simp [intOf]; omega⟩
      · have HS2 := Lib.hid (HS.out.trans (pick_yes hl))
        go_wp2_with (go_at_call 19; refine (less_any _ _ (by assumption) (by assumption) _).mono ?_; rintro e w' ⟨rfl, rfl⟩)
        exact ⟨⟨k + 1, x, rfl, by go_num, hlt, True.intro, HS2.out.symm⟩, by simp [intOf]; omega⟩
    · obtain rfl : k = bs.length := by omega
      rw [List.take_length] at HM
      go_wp2_with (go_at_call 11; refine (canon_any m hm _).mono ?_; rintro e w' ⟨rfl, rfl⟩)
      go_ret
      exact ⟨by rw [← HM.out]; rfl, rfl⟩
set_option maxHeartbeats 400000 in
theorem most_nil (a : Option Addr) (cap : Nat) (w : World) :
    Calls Tryd.prog 21 #[.slice a 0 cap] w fun e w' => e = .returned (.float .f64 (canonB (mostL []))) ∧ w = w' := by
  go_enter Tryd.func21, Tryd.ntmps21
  go_wp2_with (go_at_call 30; refine (inf_neg _).mono ?_; rintro e w' ⟨rfl, rfl⟩)
  go_loop [3, 9] (fun vs vi => vs = .float .f64 NINF ∧ vi = .int .i64 0) (fun _ _ => 0)
  case atStart => exact ⟨rfl, rfl⟩
  case round =>
    obtain ⟨rfl, rfl⟩ := hrel
    go_wp2_with (go_at_call 11; refine (canon_any NINF (by decide) _).mono ?_; rintro e w' ⟨rfl, rfl⟩)
    go_ret
    exact ⟨rfl, rfl⟩

set_option maxHeartbeats 800000 in
theorem refmost_any (bs : List Nat) (hbs : ∀ b ∈ bs, b < 18446744073709551616) (blk off cap : Nat) (w : World) (hlen : bs.length ≤ 1000000)
    (hc : ∀ i (h : i < bs.length), w.cell? ⟨blk, off + i, none⟩ = some (.float .f64 bs[i])) :
    Calls Tryd.prog 22 #[.slice (some ⟨blk, off, none⟩) bs.length cap] w fun e w' => e = .returned (.int .u64 (canonB (mostL bs))) ∧ w = w' := by
  have HC := Lib.hid hc; have HB := Lib.hid hbs; clear hc hbs
  go_enter Tryd.func22, Tryd.ntmps22
  go_wp2
  go_loopw [3, 4] (fun vm vi wr => ∃ (k m : Nat), vm = .float .f64 m ∧ vi = .int .i64 k ∧ k ≤ bs.length ∧ Hid (w = wr) ∧ Hid (m = mostL (bs.take k))) (fun _ vi _ => bs.length - (intOf vi).toNat)
  case atStart => exact ⟨0, NINF, rfl, rfl, Nat.zero_le _, rfl, rfl⟩
  case round =>
    obtain ⟨k, m, rfl, rfl, hk, HW, HM⟩ := hrel
    obtain rfl := HW.out
    have hm : m < 18446744073709551616 := by rw [HM.out]; exact mostL_lt _ (fun b hb => HB.out b (List.mem_of_mem_take hb))
    by_cases hlt : k < bs.length
    · have hcell := HC.out k hlt
      have hx := HB.out bs[k] (List.getElem_mem hlt)
      have hsn : mostL (bs.take (k + 1)) = pick m bs[k] := by rw [List.take_succ_eq_append_getElem hlt, mostL_snoc, ← HM.out]
      have HS := Lib.hid hsn; clear hsn
      generalize bs[k] = x at *
      have hg := rkey_lt m x hm hx
      have C1 := Lib.hid (key_any m hm); have C2 := Lib.hid (key_any x hx)
      generalize rkey m = rm at *
      generalize rkey x = rx at *
      cases hl : lessB m x
      · have HS2 := Lib.hid (HS.out.trans (pick_no hl))
        rw [hl] at hg
        clear hl
        go_wp2_with fail
        refine (C2.out _).mono ?_
        rintro e w' ⟨rfl, rfl⟩
        go_wp2_with fail
        refine (C1.out _).mono ?_
        rintro e w' ⟨rfl, rfl⟩
        go_wp2
        exact ⟨⟨k + 1, m, rfl, by go_num, hlt, True.intro, HS2.out.symm⟩, by simp [intOf]; omega⟩
      · have HS2 := Lib.hid (HS.out.trans (pick_yes hl))
        rw [hl] at hg
        clear hl
        go_wp2_with fail
        refine (C2.out _).mono ?_
        rintro e w' ⟨rfl, rfl⟩
        go_wp2_with fail
        refine (C1.out _).mono ?_
        rintro e w' ⟨rfl, rfl⟩
        go_wp2
        exact ⟨⟨k + 1, x, rfl, by go_num, hlt, True.intro, HS2.out.symm⟩, by simp [intOf]; omega⟩
    · obtain rfl : k = bs.length := by omega
      rw [List.take_length] at HM
      go_wp2_with (go_at_call 14; refine (refbits_any m _).mono ?_; rintro e w' ⟨rfl, rfl⟩)
      go_ret
      exact ⟨by rw [← HM.out]; rfl, rfl⟩
set_option maxHeartbeats 400000 in
theorem refmost_nil (a : Option Addr) (cap : Nat) (w : World) :
    Calls Tryd.prog 22 #[.slice a 0 cap] w fun e w' => e = .returned (.int .u64 (canonB (mostL []))) ∧ w = w' := by
  go_enter Tryd.func22, Tryd.ntmps22
  go_wp2
  go_loop [3, 4] (fun vs vi => vs = .float .f64 NINF ∧ vi = .int .i64 0) (fun _ _ => 0)
  case atStart => exact ⟨rfl, rfl⟩
  case round =>
    obtain ⟨rfl, rfl⟩ := hrel
    go_wp2_with (go_at_call 14; refine (refbits_any NINF _).mono ?_; rintro e w' ⟨rfl, rfl⟩)
    go_ret
    exact ⟨rfl, rfl⟩
end Go.Proofs.YtgbnbbgiaaealaaDoor
