/- Plain facts for RequestMany: of an Add with too many refs there is no request. No program is named. -/
import Derived.Test.YtghbabnekalgpaaDoorRqMath2
namespace ReqMath
open BaseMath WireMath

def manyA (m : Nat) : ReqV := ⟨1, [110], [], [], List.replicate m [114], []⟩
theorem flat_rep (m : Nat) : ((List.replicate m [114]).flatMap textB).length = 3 * m := by
  induction m with
  | zero => rfl
  | succ m ih => rw [List.replicate_succ, List.flatMap_cons, List.length_append, ih]; simp [textB, numB]; omega
theorem many_len (m : Nat) : (encB (manyA m)).length = 7 + 3 * m := by
  have h : restB (hasK (manyA m).kind.toNat) (manyA m) = itemB [110] [] (List.replicate m [114]) := rfl
  unfold encB
  rw [h, List.length_append]
  unfold itemB textsB
  simp only [List.length_append, List.length_cons, List.length_nil, flat_rep]
  simp [textB, numB]; omega
theorem many_ok (m : Nat) (h : m ≤ 16) : (decV (encB (manyA m))).2 = 0 := by
  rw [dec_enc (manyA m) ⟨by show hasK 1 ≠ 0; decide, by simp [manyA], fun _ => ⟨by simp [manyA], by simp [manyA], by simp [manyA]; exact h, fun s hs => by
    simp [manyA] at hs; rw [hs.2]; simp⟩, fun h => absurd h (by show hasK 1 ≠ 4; decide)⟩ (by rw [many_len]; omega)]
theorem many_no (m : Nat) (h : 16 < m) (h2 : m ≤ 255) : (decV (encB (manyA m))).2 = 2 := by
  have hb := byte_back (manyA m).kind (restB (hasK (manyA m).kind.toNat) (manyA m)) false
  have hk : kindR (encB (manyA m)) = 1 := by
    unfold kindR encB; rw [hb.1]; rfl
  have ha : after 1 ⟨encB (manyA m), false⟩ = ⟨itemB [110] [] (List.replicate m [114]), false⟩ := by unfold encB; exact hb.2
  have e : itemB [110] [] (List.replicate m [114]) = textB [110] ++ (textB [] ++ textsB (List.replicate m [114])) := by unfold itemB; simp
  have t1 := text_back [110] (textB [] ++ textsB (List.replicate m [114])) false (by simp)
  have t2 := text_back [] (textsB (List.replicate m [114])) false (by simp)
  have hc : numR 1 ⟨textsB (List.replicate m [114]), false⟩ = m := by
    have h1 := byte_back (UInt8.ofNat (List.replicate m ([114] : List By)).length) ((List.replicate m ([114] : List By)).flatMap textB) false
    have h3 := h1.1
    rw [UInt8.toNat_ofNat_of_lt' (by show (List.replicate m _).length < 256; simp; omega), List.length_replicate] at h3
    unfold textsB; rw [List.length_replicate]; exact h3
  have hi : itemA ⟨itemB [110] [] (List.replicate m [114]), false⟩ = fails := by
    unfold itemA
    rw [e, t1.2, t2.2]
    unfold textsA textsAll texts0
    rw [hc, if_pos (by omega), textsGo_failed _ _ _ rfl]
  unfold decV
  by_cases hl : 2048 < (encB (manyA m)).length
  · rw [many_len] at hl; omega
  · rw [if_neg hl, hk, ha]
    unfold decK
    have h0 : hasK (1 : By).toNat = 3 := rfl
    rw [if_neg (by rw [h0]; decide), if_neg (by rw [h0]; decide), if_neg (by rw [h0]; decide), if_pos h0, hi]
    rfl
end ReqMath
