/- Plain facts on the greatest of some float64 words. No program is named. -/
import Derived.Test.YtgbnbbgiaaealaaDoorOrder
namespace RealMath

def pick (m x : Nat) : Nat := if lessB m x then x else m
/-- the greatest, from the infinity below 0 on -/
def mostL (l : List Nat) : Nat := l.foldl pick NINF

theorem mostL_snoc (l : List Nat) (x : Nat) : mostL (l ++ [x]) = pick (mostL l) x := by unfold mostL; rw [List.foldl_append]; rfl
theorem pick_yes {m x : Nat} (h : lessB m x = true) : pick m x = x := by unfold pick; rw [h]; rfl
theorem pick_no {m x : Nat} (h : lessB m x = false) : pick m x = m := by unfold pick; rw [h]; rfl
theorem pick_lt {m x : Nat} (hm : m < 18446744073709551616) (hx : x < 18446744073709551616) : pick m x < 18446744073709551616 := by unfold pick; split <;> assumption
theorem foldl_lt (l : List Nat) (m : Nat) (hm : m < 18446744073709551616) (h : ∀ b ∈ l, b < 18446744073709551616) : l.foldl pick m < 18446744073709551616 := by
  induction l generalizing m with
  | nil => exact hm
  | cons x l ih => exact ih _ (pick_lt hm (h x (by simp))) (fun b hb => h b (List.mem_cons_of_mem _ hb))
theorem mostL_lt (l : List Nat) (h : ∀ b ∈ l, b < 18446744073709551616) : mostL l < 18446744073709551616 := foldl_lt l NINF (by decide) h

theorem less_not_trans {x y z : Nat} (h : lessB x y = false) (h2 : lessB y z = false) : lessB x z = false := by
  unfold lessB at *
  cases hx : isNan x <;> cases hy : isNan y <;> cases hz : isNan z <;> simp_all
  omega
theorem pick_ge (m x : Nat) : lessB (pick m x) x = false ∧ lessB (pick m x) m = false := by
  cases h : lessB m x
  · rw [pick_no h]; exact ⟨h, less_irr m⟩
  · rw [pick_yes h]; exact ⟨less_irr x, less_asym h⟩
theorem foldl_ge (l : List Nat) (m : Nat) : lessB (l.foldl pick m) m = false ∧ ∀ x ∈ l, lessB (l.foldl pick m) x = false := by
  induction l generalizing m with
  | nil => exact ⟨less_irr m, fun x hx => by cases hx⟩
  | cons y l ih =>
    have hp := pick_ge m y
    obtain ⟨h1, h2⟩ := ih (pick m y)
    refine ⟨less_not_trans h1 hp.2, fun x hx => ?_⟩
    rcases List.mem_cons.1 hx with rfl | hx
    · exact less_not_trans h1 hp.1
    · exact h2 x hx
theorem foldl_in (l : List Nat) (m : Nat) : l.foldl pick m = m ∨ l.foldl pick m ∈ l := by
  induction l generalizing m with
  | nil => exact Or.inl rfl
  | cons y l ih =>
    rcases ih (pick m y) with h | h
    · rw [List.foldl_cons, h]
      unfold pick
      split
      · exact Or.inr (by simp)
      · exact Or.inl rfl
    · exact Or.inr (List.mem_cons_of_mem _ h)

theorem less_canon_left (m x : Nat) : lessB (canonB m) x = lessB m x := by
  cases h : isNan m
  · unfold lessB
    rw [isNan_canonB, h, canon_ikey h]
  · rw [less_nan x h, less_nan x (by rw [isNan_canonB]; exact h)]
theorem same_canon_left (m x : Nat) : sameB (canonB m) x = sameB m x := by unfold sameB; rw [canonB_canonB]
theorem same_self (x : Nat) : sameB x x = true := by unfold sameB; simp

/-- none is greater -/
theorem most_ge (l : List Nat) {x : Nat} (h : x ∈ l) : lessB (canonB (mostL l)) x = false := by
  rw [less_canon_left]; exact (foldl_ge l NINF).2 x h
theorem ninf_least {x : Nat} (hx : x < 18446744073709551616) : lessB x NINF = false := by
  cases h : isNan x
  · rw [less_num h (by decide)]
    have := (ikey_le x h hx).2
    rw [show ikey NINF = -9218868437227405312 by decide]
    simp only [decide_eq_false_iff_not]
    omega
  · exact less_nan _ h
/-- one of them is it -/
theorem most_in (l : List Nat) (h : ∀ b ∈ l, b < 18446744073709551616) (hne : l ≠ []) : l.any (sameB (canonB (mostL l))) = true := by
  rw [List.any_eq_true]
  rcases foldl_in l NINF with hi | hi
  · obtain ⟨x, hx⟩ := List.exists_mem_of_ne_nil l hne
    refine ⟨x, hx, ?_⟩
    have h1 := (foldl_ge l NINF).2 x hx
    have h2 := ninf_least (h x hx)
    rw [same_canon_left, same_iff _ _ (mostL_lt l h) (h x hx)]
    unfold mostL
    rw [h1, hi, h2]; rfl
  · exact ⟨_, hi, by rw [same_canon_left]; exact same_self _⟩

/-- found, behind some of them -/
def foundL (m : Nat) (l : List Nat) (k : Nat) : Bool := decide (l.length = 0) || (l.take k).any (sameB m)
theorem foundL_step (m : Nat) (l : List Nat) (k : Nat) (hk : k < l.length) : foundL m l (k + 1) = (foundL m l k || sameB m l[k]) := by
  unfold foundL
  rw [List.take_succ_eq_append_getElem hk, List.any_append]
  simp [Bool.or_assoc]
theorem foundL_start (m : Nat) (l : List Nat) : foundL m l 0 = decide (l.length = 0) := by unfold foundL; simp
theorem foundL_end (l : List Nat) (h : ∀ b ∈ l, b < 18446744073709551616) : foundL (canonB (mostL l)) l l.length = true := by
  unfold foundL
  rw [List.take_length]
  by_cases hne : l = []
  · subst hne; rfl
  · rw [most_in l h hne, Bool.or_true]
end RealMath
