/- A slice of uint64 that came in, opened: its numbers, and that the walk may read them; and a text for rows over one such slice. -/
import Derived.Test.YtgbnbbgiaaealaaDoorPost
import Derived.Test.YtgbnbbgiaaealaaDoorL5
import Derived.Carry
namespace Go.Proofs.YtgbnbbgiaaealaaDoor
open Go.ChangeShapes Go.WideShapes Go.ChangeAt Go.RowKit Go.WideElems RealMath

theorem cells22 : Tryd.prog.cellsOf 22 = 1 := by kernel_rfl
theorem laidOut : laidOutB Tryd.prog = true := by kernel_rfl

theorem block_of_cell {W : World} {b off : Nat} {v : Value} (h : W.cell? ⟨b, off, none⟩ = some v) : b < W.heap.size := by
  by_cases hs : b < W.heap.size
  · exact hs
  · have : W.heap[b]? = none := Array.getElem?_eq_none (by omega)
    simp [World.cell?, this] at h

section
variable {H : Type} {enc : TypeId × Value → H}
theorem open_u64s {W : World} {base : Nat} {v : Value} {d : DataW H} {ps : List MemPlace}
    (hv : Value.okWide Tryd.prog W .any base 34 v) (h : DataW.Trod enc Tryd.prog W 0 (fun _ => true) true 34 v d ps) :
    ∃ A n cap, ∃ bs : List Nat, v = .slice A n cap ∧ bs.length = n ∧ n ≤ maxLen ∧ (∀ b ∈ bs, b < 18446744073709551616) ∧ ArgIs W A bs := by
  obtain ⟨A, n, cap, rfl⟩ := okWide_slice Tryd.underlying34 hv
  obtain ⟨fuel, hf⟩ := h
  rcases open_ints Tryd.underlying34 Tryd.underlying22 cells22 hf with ⟨hcs, hx⟩ | ⟨a, len', cap', zs, hcs, _, hl, hm, hz, hx, hcell, hwz⟩
  · simp [Value.cells] at hcs
    obtain ⟨rfl, rfl, rfl⟩ := hcs
    exact ⟨none, 0, 0, [], rfl, rfl, by unfold maxLen; omega, by simp, fun h => absurd h (by simp)⟩
  · simp [Value.cells] at hcs
    obtain ⟨rfl, rfl, rfl⟩ := hcs
    simp only [if_true] at hz
    refine ⟨some a, n, cap, (zs.take n).map Int.toNat, rfl, by simp; omega, by omega, ?_, ?_⟩
    · intro b hb
      obtain ⟨z, hz1, rfl⟩ := List.mem_map.1 hb
      have := bounds_u64 (hwz z (List.mem_of_mem_take hz1))
      omega
    · intro hpos
      have hp : 0 < zs.length := by simp at hpos; omega
      obtain ⟨b, off, rfl, hc⟩ := ints_at hcell hp
      refine ⟨b, off, rfl, block_of_cell (hc 0 hp), ?_⟩
      intro k hk
      have hk' : k < zs.length := by simp at hk; omega
      rw [hc k hk']
      simp only [List.getElem_map, List.getElem_take, List.getD_eq_getElem?_getD, List.getElem?_eq_getElem hk', Option.getD_some]
      have := bounds_u64 (hwz zs[k] (List.getElem_mem hk'))
      congr 2
      omega

/-- THE STEP FROM A LAW's WALKS TO THE ROW: a law over one slice of uint64 -/
theorem slice_law {f : Func} {fid : FuncId} {s : ChangeSpec} (hp : f.params = #[34]) (hv : s.vars = []) (hr : f.resultTypes = #[4])
    (hs : ∀ d : DataW H, s.fn H ([d] ++ []) = { results := [.lit (.bool true)], args := [d] })
    (walk : ∀ (A : Option Addr) (cap : Nat) (bs : List Nat) (w : World), Tab w → bs.length ≤ maxLen → (∀ b ∈ bs, b < 18446744073709551616) → ArgIs w A bs →
      Calls Tryd.prog fid #[.slice A bs.length cap] w fun e w' => e = .returned (.bool true) ∧ Below w.heap.size w w')
    (W : World) (base : Nat) (args : Array Value) (ds gs : List (DataW H)) (before : List MemPlace)
    (hval : ∀ (j : Nat) t v, f.params[j]? = some t → args[j]? = some v → Value.okWide Tryd.prog W .any base t v)
    (hW : DataW.Whole enc Tryd.prog f.params.toList s.vars false W args.toList ds gs before) (hT : Tab W) :
    Calls Tryd.prog fid args W fun e W' => ∃ v, e = .returned v ∧ s.post enc Tryd.prog f false true false false W args v W' := by
  have hW' := hW
  obtain ⟨p, q, hA0, hV, rfl, hfz, hnd⟩ := hW
  have hA : DataW.TrodAll enc Tryd.prog W 0 (fun _ => true) true f.params.toList args.toList ds p := hA0
  have hval' : ∀ (j : Nat) t v, (#[34] : Array TypeId)[j]? = some t → args[j]? = some v → Value.okWide Tryd.prog W .any base t v := fun j t v h1 h2 => hval j t v (by rw [hp]; exact h1) h2
  rw [hp] at hA
  obtain ⟨v0, vs0, d0, ds0, p0, q0, hargs, rfl, rfl, h0, r0⟩ := trodAll_cons hA
  obtain ⟨rfl, rfl, rfl⟩ := trodAll_nil r0
  obtain rfl : args = #[v0] := by cases args; simp_all
  rw [hv] at hV
  obtain ⟨rfl, rfl⟩ := trodVars_none hV
  obtain ⟨A, n, cap, bs, rfl, rfl, hm, hb, hA1⟩ := open_u64s (hval' 0 34 v0 rfl rfl) h0
  clear hA0
  simp only [List.append_nil] at hW'
  have hlt : ∀ x ∈ p0, x.block < W.heap.size := fun x hx => by simpa using hW'.lt x (by simpa using hx)
  refine (walk A cap bs W hT hm hb hA1).mono fun e W' ⟨he, hb'⟩ => ?_
  subst he
  refine ⟨_, rfl, post_law hW' hv hr (by rw [hs]) (by rw [hs]) (by rw [hs]) ?_ hb'⟩
  rw [hp]
  have := trodAll_cons_mk (Below.trod laidOut (by kernel_rfl) (of_decide_eq_true (by kernel_rfl)) h0 hb' hlt) trodAll_mk0
  simpa using this
end
end Go.Proofs.YtgbnbbgiaaealaaDoor
