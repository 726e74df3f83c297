/- A reply is read as it was written; what is read is small. -/
import Derived.Test.YtghbabnekalgpaaDoorG6
import Derived.Test.YtghbabnekalgpaaDoorA1
import Derived.Test.YtghbabnekalgpaaDoorRqMath2
namespace Go.Proofs.YtghbabnekalgpaaDoor
open Go.RowKit BaseMath WireMath RealMath ReqMath

theorem flag_nat (b : Bool) : (flagB b).toNat ≤ 1 ∧ (((flagB b).toNat : Int) == 1) = b := by cases b <;> simp [flagB]
theorem decRep_eq (p : List By) : decRep p = if 1 < numR 1 (after 1 ⟨p, false⟩) ∨ ofE (numR 8 (after 2 (after 1 (after 1 ⟨p, false⟩)))) ≠ 0 ∨ whole (textsA 255 (textA (after 8 (after 2 (after 1 (after 1 ⟨p, false⟩)))))) = false then (zeroRep, 2)
    else (⟨numR 1 ⟨p, false⟩, ((numR 1 (after 1 ⟨p, false⟩) : Nat) : Int) == 1, numR 2 (after 1 (after 1 ⟨p, false⟩)), ofV (numR 8 (after 2 (after 1 (after 1 ⟨p, false⟩)))), textR (after 8 (after 2 (after 1 (after 1 ⟨p, false⟩)))), textsR 255 (textA (after 8 (after 2 (after 1 (after 1 ⟨p, false⟩)))))⟩, 0) := rfl
theorem decRep_back (x : RepV) (he : 0 ≤ x.e ∧ x.e < 256) (hn : 0 ≤ x.n ∧ x.n < 65536) (hs : x.stamp < 18446744073709551616) (hsum : x.sum.length < 65536) (hp : x.paths.length ≤ 255) (hpp : ∀ s ∈ x.paths, s.length < 65536) :
    decRep (encRep x) = (⟨x.e, x.is, x.n, canonB x.stamp, x.sum, x.paths⟩, 0) := by
  have e0 : encRep x = [byteI x.e] ++ ([flagB x.is] ++ (numB x.n ++ (wideB (canonB x.stamp) ++ (textB x.sum ++ (textsB x.paths ++ []))))) := by unfold encRep; simp
  have a0 := byte_back (byteI x.e) ([flagB x.is] ++ (numB x.n ++ (wideB (canonB x.stamp) ++ (textB x.sum ++ (textsB x.paths ++ []))))) false
  have a1 := byte_back (flagB x.is) (numB x.n ++ (wideB (canonB x.stamp) ++ (textB x.sum ++ (textsB x.paths ++ [])))) false
  have a2 := num_back x.n (wideB (canonB x.stamp) ++ (textB x.sum ++ (textsB x.paths ++ []))) false
  have a3 := wide_back (canonB x.stamp) (canonB_lt x.stamp hs) (textB x.sum ++ (textsB x.paths ++ [])) false
  have a4 := text_back x.sum (textsB x.paths ++ []) false hsum
  have a5 := texts_back x.paths [] 255 hp (by omega) hpp
  have hb := byteI_nat x.e he.1 he.2
  have hf := flag_nat x.is
  have hm : (x.n % 65536).toNat = x.n.toNat := by omega
  have ho : ofE (canonB x.stamp) = 0 ∧ ofV (canonB x.stamp) = canonB x.stamp := by unfold ofE ofV; rw [ofOk_yes (canonB_canonB _)]; exact ⟨rfl, rfl⟩
  rw [decRep_eq, e0, a0.1, a0.2, a1.1, a1.2, a2.1, a2.2, a3.1, a3.2, a4.1, a4.2, a5.1, a5.2]
  rw [if_neg]
  · rw [hf.2, ho.2, hb, hm]
    congr 2
    omega
  · rintro (h | h | h)
    · omega
    · exact h ho.1
    · cases h
theorem same_back (x : RepV) : sameR ⟨x.e, x.is, x.n, canonB x.stamp, x.sum, x.paths⟩ x = true := by
  unfold sameR; simp [canonB_canonB]
theorem same_self (x : RepV) : sameR x x = true := by unfold sameR; simp
theorem mk_small (e : Int) (b : Bool) (n : Int) (v : Nat) (sm : List By) (ps : List (List By)) (h1 : sm.length ≤ 100000) (h2 : ps.length ≤ 100000) (h3 : v < 18446744073709551616) : RepV.small (⟨e, b, n, v, sm, ps⟩ : RepV) := ⟨h1, h2, h3⟩
theorem ite_small (c : Prop) [Decidable c] (x : RepV) (h : RepV.small x) : RepV.small (if c then (zeroRep, (2 : Int)) else (x, 0)).1 := by
  by_cases hc : c
  · rw [if_pos hc]; exact mk_small _ _ _ _ _ _ (Nat.zero_le _) (Nat.zero_le _) (by decide)
  · rw [if_neg hc]; exact h
theorem decRep_small (p : List By) : RepV.small (decRep p).1 :=
  ite_small _ _ (mk_small _ _ _ _ _ _ (textR_len (after 8 (after 2 (after 1 (after 1 ⟨p, false⟩))))) (textsR_len 255 (textA (after 8 (after 2 (after 1 (after 1 ⟨p, false⟩)))))) (ofV_lt _ (numR_u64 8 (by decide) (after 2 (after 1 (after 1 ⟨p, false⟩))))))
end Go.Proofs.YtghbabnekalgpaaDoor
