/- The contracts of the reference's tens and Dec. -/
import Derived.Test.YtgbnbbgiaaealaaDoorW1
import Derived.Test.YtgbnbbgiaaealaaDoorW10
namespace Go.Proofs.YtgbnbbgiaaealaaDoor
open Go.RowKit RealMath

/-- how many digits; none of 0 -/
def tn (v : Nat) : Nat := if v = 0 then 0 else Lib.nDigits v
theorem tn_step {v : Nat} (h : v ≠ 0) : tn v = tn (v / 10) + 1 := by
  unfold tn
  rw [if_neg h]
  by_cases h10 : v < 10
  · rw [Lib.nDigits_small h10, if_pos (by omega)]
  · rw [Lib.nDigits_big h10, if_neg (by omega)]
theorem tn_le (v : Nat) : tn v ≤ v := by
  induction v using Nat.strongRecOn with
  | _ v ih =>
    by_cases h : v = 0
    · subst h; exact Nat.le_refl _
    · rw [tn_step h]
      have := ih (v / 10) (by omega)
      omega

set_option maxHeartbeats 400000 in
theorem tens_any (u : Nat) (hu : u ≤ 9007199254740992) (w : World) :
    Calls Tryd.prog 36 #[.int .i64 (-(u : Int))] w fun e w' => e = .returned (.int .i64 (tn (u / 10))) ∧ w = w' := by
  have hT := tn_le (u / 10)
  obtain ⟨T, hT2⟩ : ∃ T, tn (u / 10) = T := ⟨_, rfl⟩
  rw [hT2] at hT ⊢
  have HT := Lib.hid hT2; clear hT2
  go_enter Tryd.func36, Tryd.ntmps36
  go_wp2
  go_loop [0, 3] (fun vn vk => ∃ v k : Nat, vn = .int .i64 (-(v : Int)) ∧ vk = .int .i64 k ∧ v ≤ 9007199254740992 ∧ Hid (k + tn v = T)) (fun vn _ => (-(intOf vn)).toNat)
  case atStart => exact ⟨u / 10, 0, by go_num, rfl, by omega, by show 0 + _ = _; rw [HT.out]; omega⟩
  case round =>
    obtain ⟨v, k, rfl, rfl, hv, HK⟩ := hrel
    have hk : k ≤ T := by have := HK.out; omega
    by_cases h0 : v = 0
    · subst h0
      go_wp2
      go_ret
      exact ⟨ret_int (by have := HK.out; unfold tn at this; simp at this; omega), rfl⟩
    · have HS := Lib.hid (tn_step h0)
      have hb : ((-(v : Int)) != 0) = true := by rw [bne_iff_ne]; omega
      have hp : 0 < v := by omega
      have H0 := Lib.hid h0; clear h0
      go_wp2
      exact ⟨⟨v / 10, k + 1, by go_num, by go_num, by omega, by show k + 1 + _ = _; have := HK.out; have := HS.out; omega⟩, by simp [intOf]; omega⟩

theorem dig_small {u : Nat} (h : u < 10) : Lib.decDigits u = [UInt8.ofNat (48 + u)] := Lib.decDigits_one h
theorem dig_big {u : Nat} (h : ¬ u < 10) : Lib.decDigits u = Lib.decDigits (u / 10) ++ [UInt8.ofNat (48 + u % 10)] := by rw [Lib.decDigits, dif_neg h]
theorem ofNat48 (d : Nat) (h : d < 10) : ((UInt8.ofNat (48 + d)).toNat : Int) = 48 + (d : Int) := by
  rw [UInt8.toNat_ofNat']
  rw [Nat.mod_eq_of_lt (by omega)]
  omega

set_option maxHeartbeats 400000 in
theorem dec_one (u : Nat) (h : u < 10) (w : World) :
    Calls Tryd.prog 26 #[.int .i64 (u : Int)] w fun e w' => e = .returned (.string ⟨(Lib.decDigits u).toArray⟩) ∧ Below w.heap.size w w' := by
  rw [dig_small h]
  have hcv := conv1 w (UInt8.ofNat (48 + u))
  rw [ofNat48 u h] at hcv
  have HC := Lib.hid (ofNat48 u h)
  generalize UInt8.ofNat (48 + u) = c at *
  go_enter Tryd.func26, Tryd.ntmps26
  go_wp2
  go_ret
  exact ⟨rfl, (Below.refl _ _).alloc (Nat.le_refl _) _⟩

theorem below_A {w w1 : World} (hb : Below w.drew.heap.size w.drew w1) (o : Obj) : Below w.heap.size w (w1.alloc o) :=
  (((Below.refl w.heap.size w).drew).trans hb).alloc hb.size o
theorem below_B {w w1 : World} {o : Obj} (hb : Below (w.alloc o).drew.heap.size (w.alloc o).drew w1) : Below w.heap.size w w1 :=
  ((((Below.refl w.heap.size w).alloc (Nat.le_refl _) o).drew)).trans (hb.mono (by simp))

set_option maxHeartbeats 1600000 in
set_option maxRecDepth 100000 in
theorem dec_step (u : Nat) (h : ¬ u < 10) (hu : u ≤ 9007199254740992) (w : World)
    (ih : ∀ w, Calls Tryd.prog 26 #[.int .i64 ((u / 10 : Nat) : Int)] w fun e w' => e = .returned (.string ⟨(Lib.decDigits (u / 10)).toArray⟩) ∧ Below w.heap.size w w') :
    Calls Tryd.prog 26 #[.int .i64 (u : Int)] w fun e w' => e = .returned (.string ⟨(Lib.decDigits u).toArray⟩) ∧ Below w.heap.size w w' := by
  rw [dig_big h]
  have IH := Lib.hid ih; clear ih
  have hl2 : (Lib.decDigits (u / 10)).length ≤ 9007199254740992 := by
    rw [Lib.decDigits_length]
    have := tn_le (u / 10)
    unfold tn at this
    split at this <;> omega
  have hc := ofNat48 (u % 10) (by omega)
  have g1 : (decide ((u : Int) < 0)) = false := decide_eq_false (by omega)
  have g2 : (decide ((u : Int) < 10)) = false := decide_eq_false (by omega)
  generalize Lib.decDigits (u / 10) = l at *
  have hcv := fun (W : World) (g : Nat) (h : W.cell? ⟨g, 0, none⟩ = some (.int .u8 ((UInt8.ofNat (48 + u % 10)).toNat : Int))) => conv1_at W g 1 (UInt8.ofNat (48 + u % 10)) h
  generalize UInt8.ofNat (48 + u % 10) = c at *
  have e1 : IntKind.i64.wrap ((u : Int) / 10) = ((u / 10 : Nat) : Int) := by rw [IntKind.wrap_i64]; omega
  have e2 : ((u : Int)).tmod 10 = ((u % 10 : Nat) : Int) := by rw [Int.tmod_eq_emod_of_nonneg (by omega)]; omega
  have e3 : IntKind.i64.wrap (48 + ((u % 10 : Nat) : Int)) = 48 + ((u % 10 : Nat) : Int) := by rw [IntKind.wrap_i64]; omega
  have e4 : IntKind.u8.wrap (48 + ((u % 10 : Nat) : Int)) = (c.toNat : Int) := by rw [hc, IntKind.wrap_u8]; omega
  have hd : u % 10 < 10 := by omega
  generalize u % 10 = d at *
  generalize u / 10 = q at *
  clear h hc
  go_enter Tryd.func26, Tryd.ntmps26
  go_wp2_with fail
  go_region_with (go_at_call 26; refine (IH.out _).mono ?_; rintro e w1 ⟨rfl, hb⟩; have hcl := bcell hb)
  all_goals (try go_wp2)
  all_goals go_ret
  all_goals refine ⟨congrArg (fun a => Ending.returned (Value.string a)) (cat_eq l [c]), ?_⟩
  all_goals first | exact below_A hb _ | exact below_B hb

theorem neg_eq (l : List UInt8) (T : Nat) (c : UInt8) : ((⟨#[45]⟩ ++ (⟨l.toArray⟩ : ByteArray).extract 0 T) ++ ⟨#[c]⟩ : ByteArray) = ⟨(45 :: (l.take T ++ [c])).toArray⟩ := by
  apply ByteArray.ext
  simp [ByteArray.data_append, ByteArray.data_extract]

theorem dec_nat (u : Nat) : u ≤ 9007199254740992 → ∀ w, Calls Tryd.prog 26 #[.int .i64 (u : Int)] w fun e w' => e = .returned (.string ⟨(Lib.decDigits u).toArray⟩) ∧ Below w.heap.size w w' := by
  induction u using Nat.strongRecOn with
  | _ u ih =>
    intro hu w
    by_cases h : u < 10
    · exact dec_one u h w
    · exact dec_step u h hu w (ih (u / 10) (by omega) (by omega))

set_option maxHeartbeats 1600000 in
set_option maxRecDepth 100000 in
theorem dec_neg (u : Nat) (h1 : 1 ≤ u) (hu : u ≤ 9007199254740992) (w : World) :
    Calls Tryd.prog 26 #[.int .i64 (-(u : Int))] w fun e w' => e = .returned (.string ⟨(45 :: Lib.decDigits u).toArray⟩) ∧ Below w.heap.size w w' := by
  have g1 : (decide (0 < u)) = true := decide_eq_true (by omega)
  have hfin : (Lib.decDigits (u / 10)).take (tn (u / 10)) ++ [UInt8.ofNat (48 + u % 10)] = Lib.decDigits u := by
    by_cases h : u < 10
    · rw [dig_small h, show u / 10 = 0 by omega, show u % 10 = u by omega]; rfl
    · rw [dig_big h, List.take_of_length_le]
      rw [Lib.decDigits_length]
      unfold tn
      rw [if_neg (by omega)]
      exact Nat.le_refl _
  have hl1 : (Lib.decDigits (u / 10)).length ≤ 9007199254740993 := by
    rw [Lib.decDigits_length]
    have := tn_le (u / 10)
    unfold tn at this
    split at this
    · rename_i h0
      rw [h0, Lib.nDigits_small (by decide)]; decide
    · omega
  have hl2 : tn (u / 10) ≤ (Lib.decDigits (u / 10)).length := by
    rw [Lib.decDigits_length]
    unfold tn
    split <;> omega
  have hc := ofNat48 (u % 10) (by omega)
  have CT := Lib.hid (tens_any u hu)
  have CD := Lib.hid (dec_nat (u / 10) (by omega))
  have HF := Lib.hid hfin; clear hfin
  generalize Lib.decDigits (u / 10) = l at *
  generalize tn (u / 10) = T at *
  have hcv := fun (W : World) (g : Nat) (h : W.cell? ⟨g, 0, none⟩ = some (.int .u8 ((UInt8.ofNat (48 + u % 10)).toNat : Int))) => conv1_at W g 1 (UInt8.ofNat (48 + u % 10)) h
  generalize UInt8.ofNat (48 + u % 10) = c at *
  have e1 : IntKind.i64.wrap (-((u : Int) / 10)) = -((u / 10 : Nat) : Int) := by rw [IntKind.wrap_i64]; omega
  have e1b : IntKind.i64.wrap ((u / 10 : Nat) : Int) = ((u / 10 : Nat) : Int) := by rw [IntKind.wrap_i64]; omega
  have e2 : ((u : Int)).tmod 10 = ((u % 10 : Nat) : Int) := by rw [Int.tmod_eq_emod_of_nonneg (by omega)]; omega
  have e3 : IntKind.i64.wrap (48 + ((u % 10 : Nat) : Int)) = 48 + ((u % 10 : Nat) : Int) := by rw [IntKind.wrap_i64]; omega
  have e4 : IntKind.u8.wrap (48 + ((u % 10 : Nat) : Int)) = (c.toNat : Int) := by rw [hc, IntKind.wrap_u8]; omega
  generalize u % 10 = d at *
  generalize u / 10 = q at *
  clear hc
  go_enter Tryd.func26, Tryd.ntmps26
  go_wp2_with fail
  go_region_with (first | (go_at_call 26; refine (CD.out _).mono ?_; rintro e w1 ⟨rfl, hb⟩; have hcl := bcell hb) | (go_at_call 36; refine (CT.out _).mono ?_; rintro e w' ⟨rfl, rfl⟩))
  all_goals (try go_wp2)
  all_goals go_ret
  all_goals refine ⟨congrArg (fun a => Ending.returned (Value.string a)) ((neg_eq l T c).trans (by rw [HF.out])), ?_⟩
  all_goals first | exact below_A hb _ | exact below_B hb

theorem dec_any (n : Int) (h1 : -9007199254740992 ≤ n) (h2 : n ≤ 9007199254740992) (w : World) :
    Calls Tryd.prog 26 #[.int .i64 n] w fun e w' => e = .returned (.string ⟨(Lib.itoa n).toArray⟩) ∧ Below w.heap.size w w' := by
  by_cases h : n < 0
  · obtain ⟨u, rfl⟩ : ∃ u : Nat, n = -(u : Int) := ⟨n.natAbs, by omega⟩
    rw [Lib.itoa_neg u (by omega)]
    exact dec_neg u (by omega) (by omega) w
  · obtain ⟨u, rfl⟩ : ∃ u : Nat, n = (u : Int) := ⟨n.toNat, by omega⟩
    rw [Lib.itoa_nonneg u]
    exact dec_nat u (by omega) w
end Go.Proofs.YtgbnbbgiaaealaaDoor
