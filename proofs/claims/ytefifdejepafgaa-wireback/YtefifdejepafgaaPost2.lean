/- Items that came in, opened. -/
import Derived.Test.YtefifdejepafgaaPost
import Derived.Test.YtefifdejepafgaaW15
import Derived.Deep.Slices
import Derived.Deep.Fields
import Derived.ChangeSame
import Derived.SliceStrings
namespace Go.Proofs.Ytefifdejepafgaa
open Go.ChangeShapes Go.WideShapes Go.ChangeAt Go.RowKit Go.WideElems Go.Deep BaseMath

theorem cells43 : Try.prog.cellsOf 43 = 1 := by kernel_rfl
theorem cells9 : Try.prog.cellsOf 9 = 1 := by kernel_rfl
theorem cells44 : Try.prog.cellsOf 44 = 1 := by kernel_rfl
theorem cells46 : Try.prog.cellsOf 46 = 4 := by kernel_rfl
theorem list_of {P : Nat → It → Prop} : ∀ (n : Nat), (∀ i, i < n → ∃ x, P i x) → ∃ l : List It, l.length = n ∧ ∀ i (h : i < l.length), P i l[i]
  | 0, _ => ⟨[], rfl, fun i h => absurd h (by simp)⟩
  | n + 1, key => by
    obtain ⟨l, hlen, hl⟩ := list_of n (fun i hin => key i (by omega))
    obtain ⟨x, hx⟩ := key n (by omega)
    refine ⟨l ++ [x], by simp [hlen], fun i h => ?_⟩
    by_cases e : i < l.length
    · rw [List.getElem_append_left e]; exact hl i e
    · have : i = l.length := by simp at h; omega
      subst this
      rw [List.getElem_concat_length rfl, hlen]; exact hx
section
variable {H : Type} {enc : TypeId × Value → H}
/-- texts that came in -/
theorem open_strs {W : World} {fuel : Nat} {v : Value} {x : DataW H × List MemPlace} (h : DataW.trod enc Try.prog W 0 (fun _ => true) true fuel 44 [v] = some x) :
    ∃ (A : Option Addr) (c : Nat) (ls : List (List By)), v = .slice A ls.length c ∧ ls.length ≤ maxLen ∧ StrsIs W A ls ∧ ∀ t ∈ ls, t.length ≤ maxLen := by
  rcases open_strings Try.underlying44 Try.underlying9 cells9 h with ⟨hcs, _⟩ | ⟨a, len, cap, ss, hcs, _, hl, hm, hz, _, hcell, hall⟩
  · obtain rfl : v = .slice none 0 0 := by simpa using hcs
    exact ⟨none, 0, [], rfl, by unfold maxLen; simp, fun h => absurd h (by simp), by simp⟩
  · obtain rfl : v = .slice (some a) len cap := by simpa using hcs
    simp only [if_true] at hz
    have hlen : ((ss.take len).map fun s => s.data.toList).length = len := by simp; omega
    refine ⟨some a, cap, (ss.take len).map fun s => s.data.toList, by rw [hlen], by omega, ?_, ?_⟩
    · intro hpos
      rw [hlen] at hpos
      obtain ⟨b, off, spot⟩ := a
      have hspot : spot = none := by simpa [Addr.add] using World.cell?_spot (hcell 0 (by omega))
      subst hspot
      refine ⟨b, off, rfl, fun k hk => ?_⟩
      rw [hlen] at hk
      have hk' : k < ss.length := by omega
      rw [← Addr.add_mid, hcell k hk']
      simp only [List.getElem_map, List.getElem_take, List.getD_eq_getElem?_getD, List.getElem?_eq_getElem hk', Option.getD_some]
    · intro t ht
      obtain ⟨s, hs, rfl⟩ := List.mem_map.1 ht
      have := hall s (List.mem_of_mem_take hs)
      simpa using this
/-- one item -/
theorem open_item {W : World} {fuel : Nat} {cs : List Value} {x : DataW H × List MemPlace} (h : DataW.trod enc Try.prog W 0 (fun _ => true) true fuel 46 cs = some x) :
    ∃ it : It, cs = it.vals ∧ it.Ok W := by
  obtain ⟨xs, n, _, _, hcl, hxl, hg⟩ := DataW.trod_struct Try.underlying46 h
  rw [cells46] at hcl
  match cs, hcl with
  | [v0, v1, v2, v3], _ =>
    have g0 : DataW.trod enc Try.prog W 0 (fun _ => true) true n 5 (([v0, v1, v2, v3].drop 0).take (Try.prog.cellsOf 5)) = xs[0]? := hg 0 _ rfl
    have g1 : DataW.trod enc Try.prog W 0 (fun _ => true) true n 43 (([v0, v1, v2, v3].drop 1).take (Try.prog.cellsOf 43)) = xs[1]? := hg 1 _ rfl
    have g2 : DataW.trod enc Try.prog W 0 (fun _ => true) true n 9 (([v0, v1, v2, v3].drop 2).take (Try.prog.cellsOf 9)) = xs[2]? := hg 2 _ rfl
    have g3 : DataW.trod enc Try.prog W 0 (fun _ => true) true n 44 (([v0, v1, v2, v3].drop 3).take (Try.prog.cellsOf 44)) = xs[3]? := hg 3 _ rfl
    rw [cells5] at g0
    rw [cells43] at g1
    rw [cells9] at g2
    rw [cells44] at g3
    have hx4 : xs.length = 4 := hxl
    replace g0 : DataW.trod enc Try.prog W 0 (fun _ => true) true n 5 [v0] = some (xs[0]'(by omega)) := by rw [List.getElem?_eq_getElem (by omega)] at g0; exact g0
    replace g1 : DataW.trod enc Try.prog W 0 (fun _ => true) true n 43 [v1] = some (xs[1]'(by omega)) := by rw [List.getElem?_eq_getElem (by omega)] at g1; exact g1
    replace g2 : DataW.trod enc Try.prog W 0 (fun _ => true) true n 9 [v2] = some (xs[2]'(by omega)) := by rw [List.getElem?_eq_getElem (by omega)] at g2; exact g2
    replace g3 : DataW.trod enc Try.prog W 0 (fun _ => true) true n 44 [v3] = some (xs[3]'(by omega)) := by rw [List.getElem?_eq_getElem (by omega)] at g3; exact g3
    obtain ⟨n0, e0, _, w0⟩ := DataW.trod_int Try.underlying5 g0
    obtain ⟨n1, e1, _, w1⟩ := DataW.trod_int Try.underlying43 g1
    obtain ⟨s2, e2, _, hs2⟩ := DataW.trod_string Try.underlying9 g2
    obtain ⟨A, c, ls, e3, hl3, hsr, hea⟩ := open_strs g3
    obtain ⟨kb, rfl⟩ := byte_of w0
    have b1 := bounds_u64 w1
    obtain ⟨m, rfl⟩ : ∃ m : Nat, n1 = m := ⟨n1.toNat, by omega⟩
    obtain rfl : v0 = vb kb := by simpa using e0
    obtain rfl : v1 = .int .u64 (m : Nat) := by simpa using e1
    obtain rfl : v2 = .string s2 := by simpa using e2
    subst e3
    exact ⟨⟨kb, m, s2.data.toList, A, c, ls⟩, rfl, by show m ≤ _; omega, by simpa using hs2, hl3, hsr, hea⟩
/-- a slice of items -/
theorem open_items {W : World} {base : Nat} {v : Value} {d : DataW H} {ps : List MemPlace}
    (hv : Value.okWide Try.prog W .any base 37 v) (h : DataW.Trod enc Try.prog W 0 (fun _ => true) true 37 v d ps) :
    ∃ A cap, ∃ its : List It, v = .slice A its.length cap ∧ its.length ≤ maxLen ∧ ItemsIs W A its := by
  obtain ⟨A, n, cap, rfl⟩ := okWide_slice Try.underlying37 hv
  obtain ⟨fuel, hf⟩ := h
  rcases open_slice Try.underlying37 hf with ⟨hcs, _⟩ | ⟨a, len, cap', m, f, D, Pl, hcs, _, hl, hm, hmm, _, hi⟩
  · simp [Value.cells] at hcs
    obtain ⟨rfl, rfl, rfl⟩ := hcs
    exact ⟨none, 0, [], rfl, by unfold maxLen; simp, fun h => absurd h (by simp)⟩
  · simp [Value.cells] at hcs
    obtain ⟨rfl, rfl, rfl⟩ := hcs
    simp only [if_true] at hmm
    rw [cells46] at hi
    have key : ∀ i, i < n → ∃ it : It, (∀ j u, it.vals[j]? = some u → W.cell? ((a.add (i * 4)).add j) = some u) ∧ it.Ok W := by
      intro i hin
      obtain ⟨cs, hc, ht⟩ := hi i (by omega)
      obtain ⟨it, rfl, hok⟩ := open_item ht
      obtain ⟨_, hcl, hat⟩ := World.cells?_some hc
      refine ⟨it, fun j u hj => ?_, hok⟩
      have hjl : j < 4 := by have := (List.getElem?_eq_some_iff.1 hj).1; simpa [It.vals] using this
      rw [hat j hjl, hj]
    obtain ⟨its, rfl, hits⟩ := list_of n key
    refine ⟨some a, cap, its, rfl, by omega, fun h0 => ?_⟩
    obtain ⟨b, off, spot⟩ := a
    have hspot : spot = none := by
      have := (hits 0 h0).1 0 _ rfl
      simpa [Addr.add] using World.cell?_spot this
    subst hspot
    refine ⟨b, off, rfl, fun i h => ⟨fun j u hj => ?_, (hits i h).2⟩⟩
    have := (hits i h).1 j u hj
    rwa [Addr.add_mid, Addr.add_mid] at this
end
end Go.Proofs.Ytefifdejepafgaa
