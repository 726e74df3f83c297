/- Plain facts on numbers and texts laid as bytes, and on their reading. No program is named. -/
import Derived.Test.YtkmjknehbaofcaaBMath
namespace WireMath
open BaseMath

def numB (n : Int) : List By := [UInt8.ofNat (n / 256 % 256).toNat, UInt8.ofNat (n % 256).toNat]
def wideB (x : Nat) : List By := (List.range 8).map fun i => UInt8.ofNat (x / 2 ^ (56 - 8 * i))
def textB (s : List By) : List By := numB s.length ++ s
def textsB (l : List (List By)) : List By := [UInt8.ofNat l.length] ++ l.flatMap textB

/-- what a reader has: the rest, and has it failed -/
structure Rd where
  p : List By
  f : Bool
def Rd.ok (r : Rd) : Prop := r.f = true → r.p = []
def taken (n : Nat) (r : Rd) : List By := if r.p.length < n then [] else r.p.take n
def after (n : Nat) (r : Rd) : Rd := if r.p.length < n then ⟨[], true⟩ else ⟨r.p.drop n, r.f⟩
def fails : Rd := ⟨[], true⟩
def numR (n : Nat) (r : Rd) : Nat := val 256 (nat (taken n r))
def textR (r : Rd) : List By := taken (numR 2 r) (after 2 r)
def textA (r : Rd) : Rd := after (numR 2 r) (after 2 r)
/-- k texts, as long as none fails -/
def textsGo : Nat → List (List By) → Rd → List (List By) × Rd
  | 0, acc, r => (acc, r)
  | k + 1, acc, r => if r.f then (acc, r) else textsGo k (acc ++ [textR r]) (textA r)
def texts0 (most : Int) (r : Rd) : Rd := if most < (numR 1 r : Int) then fails else after 1 r
def textsAll (most : Int) (r : Rd) : List (List By) × Rd := textsGo (numR 1 r) [] (texts0 most r)
def textsR (most : Int) (r : Rd) : List (List By) := if (textsAll most r).2.f then [] else (textsAll most r).1
def textsA (most : Int) (r : Rd) : Rd := (textsAll most r).2

theorem taken_length (n : Nat) (r : Rd) : (taken n r).length ≤ n := by unfold taken; split <;> simp; omega
theorem taken_few (n : Nat) (r : Rd) (h : r.p.length < n) : taken n r = [] ∧ after n r = fails := by simp [taken, after, fails, h]
theorem taken_all (n : Nat) (r : Rd) (h : n ≤ r.p.length) : taken n r = r.p.take n ∧ after n r = ⟨r.p.drop n, r.f⟩ := by
  simp [taken, after, show ¬ r.p.length < n by omega]
theorem ok_after {r : Rd} (h : r.ok) (n : Nat) : (after n r).ok := by
  unfold after; split
  · intro _; rfl
  · intro hf; simp at hf; simp [h hf]
theorem ok_fails : fails.ok := fun _ => rfl
theorem ok_textA {r : Rd} (h : r.ok) : (textA r).ok := ok_after (ok_after h 2) _
theorem ok_textsGo : ∀ (k : Nat) (acc : List (List By)) (r : Rd), r.ok → (textsGo k acc r).2.ok
  | 0, _, _, h => h
  | k + 1, acc, r, h => by
    unfold textsGo; split
    · exact h
    · exact ok_textsGo k _ _ (ok_textA h)
theorem ok_textsA {r : Rd} (h : r.ok) (most : Int) : (textsA most r).ok := by
  unfold textsA textsAll
  refine ok_textsGo _ _ _ ?_
  unfold texts0; split
  · exact ok_fails
  · exact ok_after h 1
theorem numR_lt (n : Nat) (r : Rd) : numR n r < 256 ^ n := by
  unfold numR
  refine Nat.lt_of_lt_of_le (val_lt 256 _ (nat_lt _)) (Nat.pow_le_pow_right (by decide) ?_)
  rw [nat_length]; exact taken_length n r
theorem textsGo_failed (k : Nat) (acc : List (List By)) (r : Rd) (h : r.f = true) : textsGo k acc r = (acc, r) := by
  cases k with
  | zero => rfl
  | succ k => unfold textsGo; rw [if_pos h]
/-- one round of the loop -/
theorem textsGo_step (n k : Nat) (acc : List (List By)) (r : Rd) (hk : k < n) (h : r.f = false) : textsGo (n - k) acc r = textsGo (n - (k + 1)) (acc ++ [textR r]) (textA r) := by
  rw [show n - k = (n - (k + 1)) + 1 by omega]
  conv => lhs; unfold textsGo
  simp [h]
end WireMath
