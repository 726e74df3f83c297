/- Texts sorted and compacted are those that rise; where an instance stands: as mathematics. No program is named. -/
import Derived.Test.YtkmjknehbaofcaaNMath
import Derived.Sort.LotA
import Derived.Lib.SlicesCompact
import Derived.Lib.IndexMore
namespace ScanMath
open Go BaseMath NameMath Go.Lib

theorem bl_lt : ∀ a b : List By, Op.bytesLess a b = decide (a < b)
  | [], [] => by simp [Op.bytesLess]
  | [], _ :: _ => by simp [Op.bytesLess]
  | _ :: _, [] => by simp [Op.bytesLess]
  | x :: a, y :: b => by
    have ih := bl_lt a b
    unfold Op.bytesLess
    rw [ih]
    by_cases h1 : x < y
    · simp [h1, List.cons_lt_cons_iff]
    · by_cases h2 : x = y
      · subst h2; simp
      · simp [h1, h2, List.cons_lt_cons_iff]
theorem le_bl (a b : List By) : decide (a ≤ b) = !(Op.bytesLess b a) := by
  rw [bl_lt]
  by_cases h : b < a
  · have : ¬ a ≤ b := List.not_le.2 h
    simp [h, this]
  · have : a ≤ b := List.not_lt.1 h
    simp [h, this]
/-- a ≤ b -/
def leB (a b : List By) : Prop := Op.bytesLess b a = false
theorem le_lt {a b c : List By} (h : leB a b) (h2 : Op.bytesLess b c = true) : Op.bytesLess a c = true := by
  by_cases e : b = a
  · subst e; exact h2
  · have : Op.bytesLess a b = true := bl_total b a (by rw [h, Bool.false_or, beq_eq_false_iff_ne]; exact e)
    exact bl_trans this h2
theorem le_ne {a b : List By} (h : leB a b) (hne : b ≠ a) : Op.bytesLess a b = true :=
  bl_total b a (by rw [h, Bool.false_or, beq_eq_false_iff_ne]; exact hne)
def Sorted (d : Array (List By)) : Prop := ∀ i j, i ≤ j → j < d.size → leB d[i]! d[j]!
theorem compact_upto (d : Array (List By)) (hs : Sorted d) : ∀ m, m ≤ d.size → Rises (compactUpTo d m) ∧ ∀ q, q ∈ compactUpTo d m ↔ ∃ j, j < m ∧ d[j]! = q
  | 0, _ => ⟨by simp [compactUpTo, Rises], fun q => by simp [compactUpTo]⟩
  | m + 1, hm => by
    obtain ⟨h1, h2⟩ := compact_upto d hs m (by omega)
    rw [compactUpTo_succ]
    cases hk : keeps d m with
    | true =>
      refine ⟨?_, fun q => ?_⟩
      · rw [if_pos rfl]
        refine List.pairwise_append.2 ⟨h1, by simp, fun p hp q hq => ?_⟩
        obtain ⟨j, hj, rfl⟩ := (h2 p).1 hp
        obtain rfl : q = d[m]! := by simpa using hq
        have hne : d[m]! ≠ d[m - 1]! := by
          have : m = 0 ∨ d[m]! ≠ d[m - 1]! := by simpa [keeps] using hk
          rcases this with h | h
          · omega
          · exact h
        exact le_lt (hs j (m - 1) (by omega) (by omega)) (le_ne (hs (m - 1) m (by omega) (by omega)) hne)
      · rw [if_pos rfl, List.mem_append, h2, List.mem_singleton]
        constructor
        · rintro (⟨j, hj, rfl⟩ | rfl)
          · exact ⟨j, by omega, rfl⟩
          · exact ⟨m, by omega, rfl⟩
        · rintro ⟨j, hj, rfl⟩
          by_cases e : j = m
          · subst e; exact .inr rfl
          · exact .inl ⟨j, by omega, rfl⟩
    | false =>
      rw [if_neg (by simp), List.append_nil]
      refine ⟨h1, fun q => ?_⟩
      rw [h2]
      have hk' : ¬ (m = 0 ∨ d[m]! ≠ d[m - 1]!) := by simpa [keeps] using hk
      have hm0 : m ≠ 0 := fun e => hk' (.inl e)
      have he : d[m]! = d[m - 1]! := Decidable.byContradiction fun e => hk' (.inr e)
      constructor
      · rintro ⟨j, hj, rfl⟩; exact ⟨j, by omega, rfl⟩
      · rintro ⟨j, hj, rfl⟩
        by_cases e : j = m
        · subst e; exact ⟨j - 1, by omega, he.symm⟩
        · exact ⟨j, by omega, rfl⟩
theorem sorted_merge (l : List (List By)) : Sorted (l.mergeSort fun x y => decide (x ≤ y)).toArray := by
  have hp := List.pairwise_mergeSort (le := fun x y : List By => decide (x ≤ y)) (fun a b c h1 h2 => by simp only [decide_eq_true_eq] at h1 h2 ⊢; exact List.le_trans h1 h2)
    (fun a b => by simp only [Bool.or_eq_true, decide_eq_true_eq]; exact List.le_total a b) l
  intro i j hij hj
  have hj' : j < (l.mergeSort fun x y => decide (x ≤ y)).length := by simpa using hj
  by_cases e : i = j
  · subst e; exact bl_irrefl _
  · have := List.pairwise_iff_getElem.1 hp i j (by omega) hj' (by omega)
    rw [le_bl] at this
    have h3 : ∀ k (hk : k < (l.mergeSort fun x y => decide (x ≤ y)).length), (l.mergeSort fun x y => decide (x ≤ y)).toArray[k]! = (l.mergeSort fun x y => decide (x ≤ y))[k] := fun k hk => by
      rw [getElem!_pos _ k (by simpa using hk)]; simp
    unfold leB
    rw [h3 i (by omega), h3 j hj']
    simpa using this
/-- SORTED AND COMPACTED IS WHAT RISES -/
theorem compact_sort (l : List (List By)) : compact (l.mergeSort fun x y => decide (x ≤ y)) = rise l := by
  have h := compact_upto _ (sorted_merge l) (l.mergeSort fun x y => decide (x ≤ y)).length (by simp)
  refine rises_ext h.1 (rise_rises l) fun q => ?_
  rw [mem_rise]
  refine (h.2 q).trans ?_
  rw [← List.mem_mergeSort (le := fun x y : List By => decide (x ≤ y)) (l := l)]
  constructor
  · rintro ⟨j, hj, rfl⟩
    rw [getElem!_pos _ j (by simpa using hj)]
    simp
  · intro hq
    obtain ⟨j, hj, rfl⟩ := List.getElem_of_mem hq
    exact ⟨j, hj, by rw [getElem!_pos _ j (by simpa using hj)]; simp⟩
end ScanMath
