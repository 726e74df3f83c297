/- Plain facts: what is laid is read as it was; what is cut off fails. No program is named. -/
import Derived.Test.YtghbabnekalgpaaDoorWMath
namespace WireMath
open BaseMath

set_option maxRecDepth 100000 in
theorem app_back (n : Nat) (x y : List By) (f : Bool) (h : x.length = n) : taken n ⟨x ++ y, f⟩ = x ∧ after n ⟨x ++ y, f⟩ = ⟨y, f⟩ := by
  subst h
  obtain ⟨h1, h2⟩ := taken_all x.length ⟨x ++ y, f⟩ (by simp)
  exact ⟨by rw [h1]; simp, by rw [h2]; simp⟩
set_option maxRecDepth 100000 in
theorem numB_val (n : Int) : val 256 (nat (numB n)) = (n % 65536).toNat := by
  have h1 : (n / 256 % 256).toNat < 256 := by omega
  have h2 : (n % 256).toNat < 256 := by omega
  unfold numB nat
  simp only [List.map_cons, List.map_nil, UInt8.toNat_ofNat_of_lt' h1, UInt8.toNat_ofNat_of_lt' h2, val, List.foldl_cons, List.foldl_nil]
  omega
set_option maxRecDepth 100000 in
theorem num_back (n : Int) (y : List By) (f : Bool) : numR 2 ⟨numB n ++ y, f⟩ = (n % 65536).toNat ∧ after 2 ⟨numB n ++ y, f⟩ = ⟨y, f⟩ := by
  obtain ⟨h1, h2⟩ := app_back 2 (numB n) y f rfl
  exact ⟨by unfold numR; rw [h1, numB_val], h2⟩
set_option maxRecDepth 100000 in
theorem byte_back (b : By) (y : List By) (f : Bool) : numR 1 ⟨[b] ++ y, f⟩ = b.toNat ∧ after 1 ⟨[b] ++ y, f⟩ = ⟨y, f⟩ := by
  obtain ⟨h1, h2⟩ := app_back 1 [b] y f rfl
  exact ⟨by unfold numR; rw [h1]; simp [nat, val], h2⟩
set_option maxRecDepth 100000 in
theorem wideN (x : Nat) (k : Nat) (hk : k ≤ 8) : val 256 (nat ((List.range k).map fun i => UInt8.ofNat (x / 2 ^ (56 - 8 * i)))) = x / 2 ^ (64 - 8 * k) % 2 ^ (8 * k) := by
  induction k with
  | zero => simp [nat, val, Nat.mod_one]
  | succ k ih =>
    have ih' := ih (by omega)
    unfold nat at ih' ⊢
    rw [List.range_succ, List.map_append, List.map_append, List.map_singleton, List.map_singleton, val_snoc, ih', UInt8.toNat_ofNat']
    have e1 : 64 - 8 * k = (56 - 8 * k) + 8 := by omega
    have e2 : 64 - 8 * (k + 1) = 56 - 8 * k := by omega
    rw [e1, e2, Nat.pow_add, ← Nat.div_div_eq_div_mul, show 8 * (k + 1) = 8 + 8 * k by omega, Nat.pow_add 2 8]
    generalize x / 2 ^ (56 - 8 * k) = z
    rw [Nat.mod_mul, show (2 : Nat) ^ 8 = 256 by rfl]
    omega
set_option maxRecDepth 100000 in
theorem wide_back (x : Nat) (hx : x < 18446744073709551616) (y : List By) (f : Bool) : numR 8 ⟨wideB x ++ y, f⟩ = x ∧ after 8 ⟨wideB x ++ y, f⟩ = ⟨y, f⟩ := by
  obtain ⟨h1, h2⟩ := app_back 8 (wideB x) y f rfl
  refine ⟨?_, h2⟩
  unfold numR; rw [h1]
  have := wideN x 8 (Nat.le_refl _)
  simp only [Nat.reduceMul, Nat.sub_self, Nat.pow_zero, Nat.div_one] at this
  unfold wideB; rw [this]
  exact Nat.mod_eq_of_lt hx
set_option maxRecDepth 100000 in
theorem text_back (s y : List By) (f : Bool) (hs : s.length < 65536) : textR ⟨textB s ++ y, f⟩ = s ∧ textA ⟨textB s ++ y, f⟩ = ⟨y, f⟩ := by
  unfold textB
  rw [List.append_assoc]
  obtain ⟨h1, h2⟩ := num_back s.length (s ++ y) f
  have e : ((s.length : Int) % 65536).toNat = s.length := by omega
  rw [e] at h1
  obtain ⟨h3, h4⟩ := app_back s.length s y f rfl
  exact ⟨by unfold textR; rw [h1, h2, h3], by unfold textA; rw [h1, h2, h4]⟩
set_option maxRecDepth 100000 in
theorem textsGo_back : ∀ (ls acc : List (List By)) (y : List By), (∀ s ∈ ls, s.length < 65536) → textsGo ls.length acc ⟨ls.flatMap textB ++ y, false⟩ = (acc ++ ls, ⟨y, false⟩)
  | [], acc, y, _ => by simp [textsGo]
  | s :: ls, acc, y, h => by
    rw [List.length_cons]
    unfold textsGo
    rw [List.flatMap_cons, List.append_assoc]
    obtain ⟨h1, h2⟩ := text_back s (ls.flatMap textB ++ y) false (h s (by simp))
    rw [h1, h2]
    simp only [Bool.false_eq_true, if_false]
    rw [textsGo_back ls (acc ++ [s]) y (fun t ht => h t (by simp [ht]))]
    simp
set_option maxRecDepth 100000 in
theorem texts_back (ls : List (List By)) (y : List By) (most : Int) (hl : ls.length ≤ 255) (hm : (ls.length : Int) ≤ most) (h : ∀ s ∈ ls, s.length < 65536) :
    textsR most ⟨textsB ls ++ y, false⟩ = ls ∧ textsA most ⟨textsB ls ++ y, false⟩ = ⟨y, false⟩ := by
  have e : textsB ls ++ y = [UInt8.ofNat ls.length] ++ (ls.flatMap textB ++ y) := by unfold textsB; rw [List.append_assoc]
  obtain ⟨h1, h2⟩ := byte_back (UInt8.ofNat ls.length) (ls.flatMap textB ++ y) false
  rw [UInt8.toNat_ofNat_of_lt' (by show ls.length < 256; omega)] at h1
  have ha : textsAll most ⟨textsB ls ++ y, false⟩ = (ls, ⟨y, false⟩) := by
    unfold textsAll texts0
    rw [e, h1, h2, if_neg (by omega), textsGo_back ls [] y h]
    simp
  unfold textsR textsA
  rw [ha]; simp
set_option maxRecDepth 100000 in
/-- a reader that has failed tells nothing -/
theorem fails_taken (n : Nat) : taken n fails = [] ∧ after n fails = fails := by
  unfold taken after fails; by_cases h : 0 < n <;> simp [h]
set_option maxRecDepth 100000 in
theorem fails_num (n : Nat) : numR n fails = 0 := by unfold numR; rw [(fails_taken n).1]; rfl
set_option maxRecDepth 100000 in
theorem fails_texts (most : Int) : textsR most fails = [] ∧ textsA most fails = fails := by
  have h0 : texts0 most fails = fails := by unfold texts0; split; rfl; exact (fails_taken 1).2
  have ha : textsAll most fails = ([], fails) := by
    unfold textsAll; rw [h0, fails_num]; rfl
  unfold textsR textsA; rw [ha]; simp [fails]
set_option maxRecDepth 100000 in
theorem cut_text (s : List By) (hs : s.length < 65536) (k : Nat) (hk : k < (textB s).length) : textR ⟨(textB s).take k, false⟩ = [] ∧ textA ⟨(textB s).take k, false⟩ = fails := by
  have hl : (textB s).length = 2 + s.length := by simp [textB, numB]; omega
  by_cases h2 : k < 2
  · obtain ⟨h3, h4⟩ := taken_few 2 ⟨(textB s).take k, false⟩ (by simp; omega)
    have h5 : numR 2 ⟨(textB s).take k, false⟩ = 0 := by unfold numR; rw [h3]; rfl
    unfold textR textA; rw [h5, h4]; exact fails_taken 0
  · have e : (textB s).take k = numB s.length ++ s.take (k - 2) := by
      unfold textB; rw [List.take_append, List.take_of_length_le (show (numB s.length).length ≤ k by show 2 ≤ k; omega)]; rfl
    obtain ⟨h3, h4⟩ := num_back s.length (s.take (k - 2)) false
    have e2 : ((s.length : Int) % 65536).toNat = s.length := by omega
    rw [e2] at h3
    unfold textR textA; rw [e, h3, h4]
    exact taken_few s.length ⟨s.take (k - 2), false⟩ (by simp; omega)
end WireMath
