/- The contract of slices.Backward at formers, and of what it hands back. -/
import Derived.Test.YtkmjknehbaofcaaR3
import Derived.RangeFuncNested
import Derived.RangeFuncBound
import Derived.RangeFuncCalls
import Derived.RangeFuncLeaves
import Derived.Shelf.Abstract
import Derived.Shelf.RegionOpen
import Derived.OwnWalkIn
import Derived.TacticsInMore
import Derived.LoopNIn
import Derived.LoopIn
namespace Go.Proofs.Ytkmjknehbaofcaa
open Go.RowKit Go.Shelf Go.Maps Go.WideShapes Go.MapKept Go.WideMaps Go.ChangeMaps BaseMath WireMath NameMath
attribute [local go_sem] Oper.semAt_some

/-- what a round that goes on keeps: all blocks that lay ahead of the loop, but the map's -/
structure KpM (n0 mb : Nat) (W W' : World) : Prop where
  size : W.heap.size ≤ W'.heap.size
  block : ∀ c : Nat, c < n0 → c ≠ mb → W'.heap[c]? = W.heap[c]?
theorem KpM.refl (n0 mb : Nat) (W : World) : KpM n0 mb W W := ⟨Nat.le_refl _, fun _ _ _ => rfl⟩
theorem KpM.trans {n0 mb : Nat} {A B C : World} (h : KpM n0 mb A B) (k : KpM n0 mb B C) : KpM n0 mb A C := ⟨Nat.le_trans h.size k.size, fun c h1 h2 => (k.block c h1 h2).trans (h.block c h1 h2)⟩
/-- formers in memory, in a slice: block, offset -/
def FosAt (n0 mb : Nat) (W : World) (b o : Nat) (L : List Fo) : Prop := b < n0 ∧ b ≠ mb ∧ ∀ i (h : i < L.length) j v, (L[i].vals)[j]? = some v → W.cell? ⟨b, o + i * 3 + j, none⟩ = some v
theorem FosAt.kp {n0 mb : Nat} {W W' : World} {b o : Nat} {L : List Fo} (h : FosAt n0 mb W b o L) (k : KpM n0 mb W W') : FosAt n0 mb W' b o L :=
  ⟨h.1, h.2.1, fun i hi j v hv => by rw [World.cell?_of_block (w := W) (k.block b h.1 h.2.1)]; exact h.2.2 i hi j v hv⟩
def fo0 : Fo := ⟨[], 0, false, Nat.zero_le _, by decide⟩
/-- from the last on, the first k of them -/
def backs (L : List Fo) (k : Nat) : List (Nat × Fo) := (List.range k).map fun i => (L.length - 1 - i, L.getD (L.length - 1 - i) fo0)
theorem backs_length (L : List Fo) (k : Nat) : (backs L k).length = k := by unfold backs; simp
theorem backs_succ (L : List Fo) (k : Nat) : backs L (k + 1) = backs L k ++ [(L.length - 1 - k, L.getD (L.length - 1 - k) fo0)] := by unfold backs; rw [List.range_succ, List.map_append]; rfl
def encF (x : Nat × Fo) : Array Value := #[.int .i64 (x.1 : Int), x.2.val]
set_option maxRecDepth 100000 in
set_option maxHeartbeats 4000000 in
theorem back1_in (F : Fence) (n : Nat) (h8 : F.fn 47) (hro : F.round = none) (hn : 1 ≤ n) (l Bs n0 mb b o c : Nat) (L : List Fo) (hl : L.length ≤ 1000) (hBs : Bs < n0) (hBm : Bs ≠ mb) (J Jx : List (Nat × Fo) → World → Prop)
    (hY : ∀ pre x W, J pre W → pre.length < L.length → YieldAt F (n - 1) Try.prog l (encF x) W fun e W' =>
      (e = .returned (.bool true) ∧ J (pre ++ [x]) W' ∧ KpM n0 mb W W') ∨ (e = .returned (.bool false) ∧ Jx (pre ++ [x]) W'))
    (W : World) (hb : W.cell? ⟨Bs, 0, none⟩ = some (.slice (some ⟨b, o, none⟩) L.length c)) (hF : FosAt n0 mb W b o L) (h0 : J [] W) :
    CallsIn F n Try.prog 47 #[.func (.yield l) #[] #[], .pointer (some ⟨Bs, 0, none⟩)] W fun e W' => (∃ v, e = .returned v) ∧
      ((∃ ys, ys = backs L L.length ∧ J ys W') ∨ (∃ pre, (∃ k, k ≤ L.length ∧ pre = backs L k) ∧ Jx pre W')) := by
  refine callsIn_of_wp Try.func47 rfl h8 ?_ hro
  simp only [Try.ntmps47, List.size_toArray, List.length_cons, List.length_nil, Nat.reduceAdd, Nat.reduceSub, Array.replicate_succ, Array.replicate_zero, List.push_toArray, List.append_toArray, List.nil_append, List.cons_append]
  gi_wp2
  gi_loopw [3] (fun i wr => ∃ (k : Nat) (z : Int), k ≤ L.length ∧ i = .int .i64 z ∧ Hid (z = (L.length : Int) - 1 - k) ∧ J (backs L k) wr ∧ KpM n0 mb W wr)
    (fun i _ => (intOf i + 1).toNat)
  case atStart => exact ⟨0, _, Nat.zero_le _, rfl, (show _ = _ by simp), h0, KpM.refl _ _ _⟩
  case round =>
    obtain ⟨k, z, hk, rfl, HZ, hJs, hkp⟩ := hrel
    have hcs : wr.cell? ⟨Bs, 0, none⟩ = some (.slice (some ⟨b, o, none⟩) L.length c) := by rw [World.cell?_of_block (w := W) (hkp.block Bs hBs hBm)]; exact hb
    by_cases hlt : k < L.length
    · have HSU := Lib.hid (backs_succ L k)
      have hbl := backs_length L k
      obtain rfl : z = ((L.length - 1 - k : Nat) : Int) := by have := HZ.out; omega
      have hil : L.length - 1 - k < L.length := by omega
      have hg : L.getD (L.length - 1 - k) fo0 = L[L.length - 1 - k] := by rw [List.getD_eq_getElem?_getD, List.getElem?_eq_getElem hil]; rfl
      rw [hg] at HSU
      have hcl := (hF.kp hkp).2.2 (L.length - 1 - k) hil
      have HIK : Hid (L.length - 1 - k + (k + 1) = L.length) := by show _ = _; omega
      clear hg HZ
      generalize L[L.length - 1 - k] = f at *
      generalize L.length - 1 - k = i at *
      have k0 : wr.cell? ⟨b, o + i * 3, none⟩ = some (vs f.k) := hcl 0 _ rfl
      have k1 : wr.cell? ⟨b, o + i * 3 + 1, none⟩ = some (.int .i64 f.v) := hcl 1 _ rfl
      have k2 : wr.cell? ⟨b, o + i * 3 + 2, none⟩ = some (.bool f.t) := hcl 2 _ rfl
      obtain ⟨fn, tmps, assign, body, hy, hR⟩ := hY _ (i, f) wr hJs (by rw [hbl]; exact hlt)
      dsimp only [encF, Fo.val] at hy
      clear hcl hbl
      gi_wp2
      refine hR.mono ?_
      rintro e W3 (⟨rfl, hJ3, hk3⟩ | ⟨rfl, hJx3⟩)
      · gi_wp2
        go_roundw
        case rel => exact ⟨k + 1, _, by omega, rfl, (show _ = _ by have := HIK.out; omega), by rw [HSU.out]; exact hJ3, hkp.trans hk3⟩
        case measure => simp [intOf]
      · gi_wp2
        refine bodyPost_ret (results_none rfl _ _ _) rfl ?_
        exact ⟨⟨_, rfl⟩, .inr ⟨_, ⟨k + 1, by omega, HSU.out.symm⟩, hJx3⟩⟩
    · obtain rfl : k = L.length := by omega
      obtain rfl : z = -1 := by have := HZ.out; omega
      gi_wp2
      go_end0
      exact ⟨⟨_, rfl⟩, .inl ⟨_, rfl, hJs⟩⟩
set_option maxRecDepth 100000 in
set_option maxHeartbeats 1000000 in
theorem back_in (F : Fence) (n : Nat) (h6 : F.fn 37) (hro : F.round = none) (a : Option Addr) (len cap : Nat) (w : World) :
    CallsIn F n Try.prog 37 #[.slice a len cap] w fun e w' => e = .returned (.func (.func 47) #[] #[.pointer (some ⟨w.heap.size, 0, none⟩)]) ∧ w' = w.alloc (.cells #[.slice a len cap] 63) := by
  refine callsIn_of_wp Try.func37 rfl h6 ?_ hro
  simp only [Try.ntmps37, List.size_toArray, List.length_cons, List.length_nil, Nat.reduceAdd, Nat.reduceSub, Array.replicate_succ, Array.replicate_zero, List.push_toArray, List.append_toArray, List.nil_append, List.cons_append]
  gi_wp2
  go_ret
  exact ⟨rfl, rfl⟩
theorem kp_of_below {n0 mb : Nat} {W W' : World} (h : Below n0 W W') : KpM n0 mb W W' := ⟨h.size, fun c hc _ => h.block c hc⟩
theorem back_stops (F : Fence) (n : Nat) (h8 : F.fn 47) (hro : F.round = none) (hn : 1 ≤ n) (Bs n0 mb b o c : Nat) (L : List Fo) (hl : L.length ≤ 1000) (w : World) (hBs : Bs < n0) (hBm : Bs ≠ mb) (hn0 : n0 ≤ w.heap.size)
    (hc : w.cell? ⟨Bs, 0, none⟩ = some (.slice (some ⟨b, o, none⟩) L.length c)) (hF : FosAt n0 mb w b o L) :
    SeqStopsK F n Try.prog 47 #[.pointer (some ⟨Bs, 0, none⟩)] encF (KpM n0 mb) (fun ys => ys = backs L L.length) (fun pre => ∃ k, k ≤ L.length ∧ pre = backs L k) L.length w := fun l J Jx W hW _ _ hY h0 => by
  have hk : KpM n0 mb w W := kp_of_below (hW.mono hn0)
  exact back1_in F n h8 hro hn l Bs n0 mb b o c L hl hBs hBm J Jx hY W (by rw [World.cell?_of_block (w := w) (hk.block Bs hBs hBm)]; exact hc) (hF.kp hk) h0
end Go.Proofs.Ytkmjknehbaofcaa
