/- Lists of Made that came in, opened. -/
import Derived.Test.YtlehgacbcacokaaPost
import Derived.Test.YtlehgacbcacokaaK5
namespace Go.Proofs.Ytlehgacbcacokaa
open Go.ChangeShapes Go.WideShapes Go.ChangeAt Go.RowKit Go.WideElems Go.ChangeMaps Go.Deep TreeMath

theorem cells71 : Try.prog.cellsOf 71 = 6 := by kernel_rfl
section
variable {H : Type} {enc : TypeId × Value → H}
set_option maxRecDepth 100000 in
theorem open_made {W : World} {fuel : Nat} {cs : List Value} {x : DataW H × List MemPlace} (h : DataW.trod enc Try.prog W 0 (fun _ => true) true fuel 71 cs = some x) : ∃ m : Md, cs = mdCells m ∧ MdOk W m := by
  obtain ⟨xs, n, _, _, hcl, hxl, hg⟩ := DataW.trod_struct Try.underlying71 h
  rw [cells71] at hcl
  match cs, hcl with
  | [v0, v1, v2, v3, v4, v5], _ =>
    have g0 : DataW.trod enc Try.prog W 0 (fun _ => true) true n 5 (([v0, v1, v2, v3, v4, v5].drop 0).take (Try.prog.cellsOf 5)) = xs[0]? := hg 0 _ rfl
    have g1 : DataW.trod enc Try.prog W 0 (fun _ => true) true n 5 (([v0, v1, v2, v3, v4, v5].drop 1).take (Try.prog.cellsOf 5)) = xs[1]? := hg 1 _ rfl
    have g2 : DataW.trod enc Try.prog W 0 (fun _ => true) true n 5 (([v0, v1, v2, v3, v4, v5].drop 2).take (Try.prog.cellsOf 5)) = xs[2]? := hg 2 _ rfl
    have g3 : DataW.trod enc Try.prog W 0 (fun _ => true) true n 24 (([v0, v1, v2, v3, v4, v5].drop 3).take (Try.prog.cellsOf 24)) = xs[3]? := hg 3 _ rfl
    have g4 : DataW.trod enc Try.prog W 0 (fun _ => true) true n 4 (([v0, v1, v2, v3, v4, v5].drop 4).take (Try.prog.cellsOf 4)) = xs[4]? := hg 4 _ rfl
    have g5 : DataW.trod enc Try.prog W 0 (fun _ => true) true n 25 (([v0, v1, v2, v3, v4, v5].drop 5).take (Try.prog.cellsOf 25)) = xs[5]? := hg 5 _ rfl
    rw [cells5] at g0 g1 g2
    rw [cells24] at g3
    rw [cells4] at g4
    rw [cells25] at g5
    have hx6 : xs.length = 6 := hxl
    replace g0 : DataW.trod enc Try.prog W 0 (fun _ => true) true n 5 [v0] = some (xs[0]'(by omega)) := by rw [List.getElem?_eq_getElem (by omega)] at g0; exact g0
    replace g1 : DataW.trod enc Try.prog W 0 (fun _ => true) true n 5 [v1] = some (xs[1]'(by omega)) := by rw [List.getElem?_eq_getElem (by omega)] at g1; exact g1
    replace g2 : DataW.trod enc Try.prog W 0 (fun _ => true) true n 5 [v2] = some (xs[2]'(by omega)) := by rw [List.getElem?_eq_getElem (by omega)] at g2; exact g2
    replace g3 : DataW.trod enc Try.prog W 0 (fun _ => true) true n 24 [v3] = some (xs[3]'(by omega)) := by rw [List.getElem?_eq_getElem (by omega)] at g3; exact g3
    replace g4 : DataW.trod enc Try.prog W 0 (fun _ => true) true n 4 [v4] = some (xs[4]'(by omega)) := by rw [List.getElem?_eq_getElem (by omega)] at g4; exact g4
    replace g5 : DataW.trod enc Try.prog W 0 (fun _ => true) true n 25 [v5] = some (xs[5]'(by omega)) := by rw [List.getElem?_eq_getElem (by omega)] at g5; exact g5
    obtain ⟨n0, e0, _, w0⟩ := DataW.trod_int Try.underlying5 g0
    obtain ⟨n1, e1, _, w1⟩ := DataW.trod_int Try.underlying5 g1
    obtain ⟨n2, e2, _, w2⟩ := DataW.trod_int Try.underlying5 g2
    obtain ⟨k0, rfl⟩ := byte_of w0
    obtain ⟨k1, rfl⟩ := byte_of w1
    obtain ⟨k2, rfl⟩ := byte_of w2
    obtain rfl : v0 = vb k0 := by simpa using e0
    obtain rfl : v1 = vb k1 := by simpa using e1
    obtain rfl : v2 = vb k2 := by simpa using e2
    obtain ⟨DA, dc, bs, rfl, hd1, hd2, hd3, hd4⟩ := open_bys g3
    obtain ⟨rb, e4, _⟩ := DataW.trod_bool Try.underlying4 g4
    obtain rfl : v4 = .bool rb := by simpa using e4
    obtain ⟨st, e5, hst⟩ := trod_float Try.underlying25 g5
    obtain rfl : v5 = .float .f64 st := by simpa using e5
    exact ⟨⟨k0, k1, k2, DA, dc, bs, rb, st⟩, rfl, ⟨hd4, hd3, hd2, hd1, hst⟩⟩
set_option maxRecDepth 100000 in
theorem open_text {W : World} {base : Nat} {v : Value} {d : DataW H} {ps : List MemPlace}
    (hv : Value.okWide Try.prog W .any base 9 v) (h : DataW.Trod enc Try.prog W 0 (fun _ => true) true 9 v d ps) :
    ∃ l : List By, v = .string ⟨l.toArray⟩ ∧ d = .lit (.string l) ∧ ps = [] ∧ l.length ≤ maxLen := by
  obtain ⟨s, rfl, rfl, rfl, hs⟩ := open_string Try.underlying9 hv h
  exact ⟨s.data.toList, rfl, rfl, rfl, by simpa using hs⟩
set_option maxRecDepth 100000 in
theorem shut_text {W : World} {base : Nat} {sp : Nat → Bool} {l : List By} (hl : l.length ≤ maxLen) : DataW.Trod enc Try.prog W base sp true 9 (.string ⟨l.toArray⟩) (.lit (.string l)) [] := by
  have := shut_string (enc := enc) (w := W) (base := base) (sp := sp) (held := true) Try.underlying9 (s := ⟨l.toArray⟩) (by simpa [ByteArray.size] using hl)
  simpa using this
set_option maxRecDepth 100000 in
theorem open_mades {W : World} {base : Nat} {v : Value} {d : DataW H} {ps : List MemPlace} (hv : Value.okWide Try.prog W .any base 33 v) (h : DataW.Trod enc Try.prog W 0 (fun _ => true) true 33 v d ps) :
    ∃ A cap, ∃ l : List Md, v = .slice A l.length cap ∧ l.length ≤ maxLen ∧ Mades W W.heap.size A l ∧ l.length ≤ cap ∧ cap ≤ maxLen := by
  obtain ⟨A, n, cap, rfl⟩ := okWide_slice Try.underlying33 hv
  obtain ⟨fuel, hf⟩ := h
  rcases open_slice Try.underlying33 hf with ⟨hcs, _⟩ | ⟨a, len, cap', m, f, D, Pl, hcs, _, hl, hm, hmm, _, hi⟩
  · simp [Value.cells] at hcs
    obtain ⟨rfl, rfl, rfl⟩ := hcs
    exact ⟨none, 0, [], rfl, by unfold maxLen; simp, ⟨fun h => absurd h (by simp), (fun m hm => by cases hm), (fun m hm => by cases hm), Nat.le_refl _⟩, by simp, by unfold maxLen; omega⟩
  · simp [Value.cells] at hcs
    obtain ⟨rfl, rfl, rfl⟩ := hcs
    simp only [if_true] at hmm
    rw [cells71] at hi
    have key : ∀ i, i < n → ∃ it : Md, (∀ j u, (mdCells it)[j]? = some u → W.cell? ((a.add (i * 6)).add j) = some u) ∧ MdOk W it := by
      intro i hin
      obtain ⟨cs, hc, ht⟩ := hi i (by omega)
      obtain ⟨it, rfl, hok⟩ := open_made ht
      obtain ⟨_, hcl, hat⟩ := World.cells?_some hc
      refine ⟨it, fun j u hj => ?_, hok⟩
      have hjl : j < 6 := by have := (List.getElem?_eq_some_iff.1 hj).1; simpa [mdCells] using this
      rw [hat j hjl, hj]
    obtain ⟨its, rfl, hits⟩ := list_of n key
    have hev : ∀ m ∈ its, MdOk W m := fun m hm => by obtain ⟨i, hi', rfl⟩ := List.getElem_of_mem hm; exact (hits i hi').2
    refine ⟨some a, cap, its, rfl, by omega, ⟨fun h0 => ?_, hev, fun m hm => (hev m hm).dsrc.lt, Nat.le_refl _⟩, by omega, by omega⟩
    obtain ⟨b, off, spot⟩ := a
    have c0 := (hits 0 h0).1 0 _ rfl
    have hspot : spot = none := by simpa [Addr.add] using World.cell?_spot c0
    subst hspot
    refine ⟨b, off, rfl, ?_, fun i h j u hj => ?_⟩
    · have := block_of_cell c0; simpa [Addr.add_mid] using this
    · have := (hits i h).1 j u hj
      rwa [Addr.add_mid, Addr.add_mid] at this
end
end Go.Proofs.Ytlehgacbcacokaa
