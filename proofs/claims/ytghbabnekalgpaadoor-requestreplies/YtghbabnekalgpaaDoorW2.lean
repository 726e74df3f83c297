/- The contracts of the reader's numbers and text. -/
import Derived.Test.YtghbabnekalgpaaDoorW1
namespace Go.Proofs.YtghbabnekalgpaaDoor
open Go.RowKit BaseMath WireMath

set_option maxRecDepth 100000 in
theorem take_nil (n : Nat) (hn : n ≤ 1000000) (w : World) : Calls Tryd.prog 88 #[.pointer none, .int .i64 n] w fun e w' => e = .returned (.slice none 0 0) ∧ w = w' := by
  by_cases h0 : n = 0
  · subst h0
    go_enter Tryd.func88, Tryd.ntmps88
    go_wp2_with fail
    refine (left_nil w).mono ?_
    rintro e w1 ⟨rfl, rfl⟩
    go_wp2_with fail
    go_ret
    exact ⟨rfl, rfl⟩
  · have h0' : (0 : Int) < n := by omega
    go_enter Tryd.func88, Tryd.ntmps88
    go_wp2_with fail
    refine (left_nil w).mono ?_
    rintro e w1 ⟨rfl, rfl⟩
    go_wp2_with fail
    refine (fail_nil w).mono ?_
    rintro e w1 ⟨rfl, rfl⟩
    go_wp2_with fail
    go_ret
    exact ⟨rfl, rfl⟩
/-- what a number comes to -/
def NumPost (k : IntKind) (x : Nat) (w : World) (T : TypeId) (top g n : Nat) (r : Rd) (e : Ending) (w' : World) : Prop :=
  e = .returned (.int k (x : Nat)) ∧ RdIs w' T top g (after n r) ∧ OnlyAt g w w'
set_option maxRecDepth 100000 in
theorem val_take (t : List By) (k : Nat) (h : k < t.length) : val 256 (nat (t.take (k + 1))) = val 256 (nat (t.take k)) * 256 + t[k].toNat := by
  rw [List.take_succ_eq_append_getElem h]; unfold nat; rw [List.map_append, List.map_singleton, val_snoc]
set_option maxRecDepth 100000 in
theorem val_take_lt (t : List By) (k : Nat) (hk : k ≤ 7) : val 256 (nat (t.take k)) < 72057594037927936 := by
  refine Nat.lt_of_lt_of_le (val_lt 256 _ (nat_lt _)) (Nat.le_trans (Nat.pow_le_pow_right (by decide) (?_ : _ ≤ 7)) (by decide))
  rw [nat_length]; simp; omega
set_option maxRecDepth 100000 in
theorem or_byte (x b : Nat) (hx : x < 72057594037927936) (hb : b < 256) : bits .or .u64 ((x : Int) * 256) (b : Int) = ((x * 256 + b : Nat) : Int) := by
  rw [show (x : Int) * 256 = ((x * 256 : Nat) : Int) by omega, u64_or_nat _ _ (by omega) (by omega), nat_join 8 (x * 256) b (by omega) hb]
set_option maxRecDepth 100000 in
set_option maxHeartbeats 1000000 in
theorem number_any (top g n : Nat) (hn : n ≤ 8) (r : Rd) (hr : r.p.length ≤ 1000000) (w : World) (h : RdIs w 141 top g r) :
    Calls Tryd.prog 87 #[.pointer (some ⟨g, 0, none⟩), .int .i64 n] w (NumPost .u64 (numR n r) w 141 top g n r) := by
  have H := Lib.hid h; clear h
  go_enter Tryd.func87, Tryd.ntmps87
  go_wp2_with fail
  refine (take_any top g n (by omega) r hr w H.out).mono ?_
  rintro e w1 ⟨A, c, rfl, hs, hr1, ho1⟩
  have HS := Lib.hid hs; have HR := Lib.hid hr1; have HO := Lib.hid ho1
  have htl := taken_length n r
  have HV : Hid (numR n r = val 256 (nat (taken n r))) := rfl
  clear hs hr1 ho1 H
  generalize taken n r = t at *
  generalize numR n r = v at *
  go_wp2_with fail
  go_loop [5, 12] (fun vx vi => ∃ k : Nat, k ≤ t.length ∧ vi = .int .i64 k ∧ vx = .int .u64 (val 256 (nat (t.take k)) : Nat)) (fun _ vi => t.length - (intOf vi).toNat)
  case atStart => exact ⟨0, Nat.zero_le _, rfl, rfl⟩
  case round =>
    obtain ⟨k, hk, rfl, rfl⟩ := hrel
    by_cases hlt : k < t.length
    · obtain ⟨b, o, rfl, hb⟩ := HS.out (by omega)
      have c0 : w1.cell? ⟨b, o + k, none⟩ = some (vb t[k]) := hb k hlt
      have hx := val_take_lt t k (by omega)
      have HVT := Lib.hid (val_take t k hlt)
      have hbb : t[k].toNat < 256 := t[k].toNat_lt
      have hor := or_byte (val 256 (nat (t.take k))) t[k].toNat hx hbb
      clear hb
      generalize val 256 (nat (t.take k)) = x at *
      generalize t[k] = y at *
      have hx' : x ≤ 72057594037927935 := by omega
      obtain ⟨z, HZ⟩ : ∃ z, Hid (z = x * 256 + y.toNat) := ⟨_, rfl⟩
      rw [← HZ.out] at hor HVT
      clear hx
      go_wp2_with fail
      go_round
      case rel => exact ⟨k + 1, by omega, by go_num, by rw [HVT.out]⟩
      case measure => simp [intOf]; omega
    · obtain rfl : k = t.length := by omega
      rw [List.take_length, ← HV.out]
      go_wp2_with fail
      go_ret
      exact ⟨rfl, HR.out, HO.out⟩
set_option maxRecDepth 100000 in
theorem number_nil (n : Nat) (hn : n ≤ 8) (w : World) : Calls Tryd.prog 87 #[.pointer none, .int .i64 n] w fun e w' => e = .returned (.int .u64 0) ∧ w = w' := by
  go_enter Tryd.func87, Tryd.ntmps87
  go_wp2_with fail
  refine (take_nil n (by omega) w).mono ?_
  rintro e w1 ⟨rfl, rfl⟩
  go_wp2_with fail
  go_loop [5, 12] (fun vx vi => vi = .int .i64 0 ∧ vx = .int .u64 0) (fun _ vi => 0)
  case atStart => exact ⟨rfl, rfl⟩
  case round =>
    obtain ⟨rfl, rfl⟩ := hrel
    go_wp2_with fail
    go_ret
    exact ⟨rfl, rfl⟩
set_option maxRecDepth 100000 in
theorem byte_any (top g : Nat) (r : Rd) (hr : r.p.length ≤ 1000000) (w : World) (h : RdIs w 141 top g r) :
    Calls Tryd.prog 48 #[.pointer (some ⟨g, 0, none⟩)] w (NumPost .u8 (numR 1 r) w 141 top g 1 r) := by
  have H := Lib.hid h; clear h
  have hlt : numR 1 r < 256 := numR_lt 1 r
  go_enter Tryd.func48, Tryd.ntmps48
  go_wp2_with fail
  refine (number_any top g 1 (by decide) r hr w H.out).mono ?_
  rintro e w1 ⟨rfl, h1, h2⟩
  have HR := Lib.hid h1; have HO := Lib.hid h2
  clear h1 h2
  generalize numR 1 r = v at *
  go_wp2_with fail
  go_ret
  exact ⟨rfl, HR.out, HO.out⟩
set_option maxRecDepth 100000 in
theorem num_any (top g : Nat) (r : Rd) (hr : r.p.length ≤ 1000000) (w : World) (h : RdIs w 141 top g r) :
    Calls Tryd.prog 62 #[.pointer (some ⟨g, 0, none⟩)] w (NumPost .i64 (numR 2 r) w 141 top g 2 r) := by
  have H := Lib.hid h; clear h
  have hlt : numR 2 r < 65536 := numR_lt 2 r
  go_enter Tryd.func62, Tryd.ntmps62
  go_wp2_with fail
  refine (number_any top g 2 (by decide) r hr w H.out).mono ?_
  rintro e w1 ⟨rfl, h1, h2⟩
  have HR := Lib.hid h1; have HO := Lib.hid h2
  clear h1 h2
  generalize numR 2 r = v at *
  go_wp2_with fail
  go_ret
  exact ⟨rfl, HR.out, HO.out⟩
set_option maxRecDepth 100000 in
theorem wide_any (top g : Nat) (r : Rd) (hr : r.p.length ≤ 1000000) (w : World) (h : RdIs w 141 top g r) :
    Calls Tryd.prog 64 #[.pointer (some ⟨g, 0, none⟩)] w (NumPost .u64 (numR 8 r) w 141 top g 8 r) := by
  have H := Lib.hid h; clear h
  go_enter Tryd.func64, Tryd.ntmps64
  go_wp2_with fail
  refine (number_any top g 8 (by decide) r hr w H.out).mono ?_
  rintro e w1 ⟨rfl, h1, h2⟩
  have HR := Lib.hid h1; have HO := Lib.hid h2
  clear h1 h2
  generalize numR 8 r = v at *
  go_wp2_with fail
  go_ret
  exact ⟨rfl, HR.out, HO.out⟩
set_option maxRecDepth 100000 in
theorem byte_nil (w : World) : Calls Tryd.prog 48 #[.pointer none] w fun e w' => e = .returned (.int .u8 0) ∧ w = w' := by
  go_enter Tryd.func48, Tryd.ntmps48
  go_wp2_with fail
  refine (number_nil 1 (by decide) w).mono ?_
  rintro e w1 ⟨rfl, rfl⟩
  go_wp2_with fail
  go_ret
  exact ⟨rfl, rfl⟩
set_option maxRecDepth 100000 in
theorem num_nil (w : World) : Calls Tryd.prog 62 #[.pointer none] w fun e w' => e = .returned (.int .i64 0) ∧ w = w' := by
  go_enter Tryd.func62, Tryd.ntmps62
  go_wp2_with fail
  refine (number_nil 2 (by decide) w).mono ?_
  rintro e w1 ⟨rfl, rfl⟩
  go_wp2_with fail
  go_ret
  exact ⟨rfl, rfl⟩
set_option maxRecDepth 100000 in
theorem wide_nil (w : World) : Calls Tryd.prog 64 #[.pointer none] w fun e w' => e = .returned (.int .u64 0) ∧ w = w' := by
  go_enter Tryd.func64, Tryd.ntmps64
  go_wp2_with fail
  refine (number_nil 8 (by decide) w).mono ?_
  rintro e w1 ⟨rfl, rfl⟩
  go_wp2_with fail
  go_ret
  exact ⟨rfl, rfl⟩
def TextPost (w : World) (T : TypeId) (top g : Nat) (r : Rd) (e : Ending) (w' : World) : Prop :=
  e = .returned (.string ⟨(textR r).toArray⟩) ∧ RdIs w' T top g (textA r) ∧ OnlyAt g w w'
set_option maxRecDepth 100000 in
theorem after_len (n : Nat) (r : Rd) : (after n r).p.length ≤ r.p.length := by unfold after; split <;> simp
set_option maxRecDepth 100000 in
theorem rtext_any (top g : Nat) (r : Rd) (hr : r.p.length ≤ 1000000) (w : World) (h : RdIs w 141 top g r) :
    Calls Tryd.prog 49 #[.pointer (some ⟨g, 0, none⟩)] w (TextPost w 141 top g r) := by
  have H := Lib.hid h; clear h
  have hlt : numR 2 r < 65536 := numR_lt 2 r
  have hal := after_len 2 r
  go_enter Tryd.func49, Tryd.ntmps49
  go_wp2_with fail
  refine (num_any top g r hr w H.out).mono ?_
  rintro e w1 ⟨rfl, h1, h2⟩
  have HR := Lib.hid h1; have HO := Lib.hid h2
  clear h1 h2
  go_wp2_with fail
  refine (take_any top g (numR 2 r) (by omega) (after 2 r) (by omega) w1 HR.out).mono ?_
  rintro e w2 ⟨A, c, rfl, hs, hr2, ho2⟩
  have HR2 := Lib.hid hr2; have HO2 := Lib.hid ho2
  have hcv := run_text_src (cap := c) hs
  clear hs hr2 ho2
  have HT : Hid (taken (numR 2 r) (after 2 r) = textR r) := rfl
  have HT2 : Hid (after (numR 2 r) (after 2 r) = textA r) := rfl
  rw [HT.out] at hcv ⊢
  rw [HT2.out] at HR2
  go_wp2_with fail
  go_ret
  exact ⟨rfl, HR2.out, HO.out.trans HO2.out⟩
set_option maxRecDepth 100000 in
theorem rtext_nil (w : World) : Calls Tryd.prog 49 #[.pointer none] w fun e w' => e = .returned (.string ⟨#[]⟩) ∧ w = w' := by
  have hcv : (convert 37 9 (.slice none 0 0)).run Tryd.prog w = .ok (.string ⟨#[]⟩) w := run_text_src (w := w) (A := none) (cap := 0) (l := []) (fun h => absurd h (by simp))
  go_enter Tryd.func49, Tryd.ntmps49
  go_wp2_with fail
  refine (num_nil w).mono ?_
  rintro e w1 ⟨rfl, rfl⟩
  go_wp2_with fail
  refine (take_nil 0 (by decide) w).mono ?_
  rintro e w1 ⟨rfl, rfl⟩
  go_wp2_with fail
  go_ret
  exact ⟨rfl, rfl⟩
end Go.Proofs.YtghbabnekalgpaaDoor
