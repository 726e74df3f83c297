/- RowsPlays: what holds between its rounds. -/
import Derived.Test.YtkmjknehbaofcaaR20
import Derived.Test.YtkmjknehbaofcaaR10
import Derived.Test.YtkmjknehbaofcaaOX
import Derived.Deep.CutBlock
import Derived.Deep.CutRange
namespace Go.Proofs.Ytkmjknehbaofcaa
open Go.RowKit Go.Maps Go.WideShapes Go.MapKept Go.WideMaps Go.ChangeMaps BaseMath WireMath NameMath ScanMath

set_option maxHeartbeats 1000000 in
set_option maxRecDepth 100000 in
theorem key_all (d : By) (k : List By) (v : Int) (b : Bool) (w : World) (hk : k.length ≤ maxLen) : Calls Try.prog 11 #[.agg #[vb d, vs k, .int .i64 v], .bool b] w fun e w' => (∃ s : List By, s.length ≤ maxLen ∧ e = .returned (vs s)) ∧ Below w.heap.size w w' := by
  cases b with
  | true => exact (key_near d k v w).mono fun e w' h => ⟨⟨[nearB d], by unfold maxLen; simp, h.1⟩, h.2⟩
  | false =>
    have h : Calls Try.prog 11 #[.agg #[vb d, vs k, .int .i64 v], .bool false] w fun e w' => e = .returned (vs k) ∧ Below w.heap.size w w' := by
      clear hk
      go_enter Try.func11, Try.ntmps11
      go_wp2_with fail
      go_ret
      exact ⟨rfl, (Below.refl _ _).alloc (Nat.le_refl _) _⟩
    exact h.mono fun e w' h => ⟨⟨k, hk, h.1⟩, h.2⟩
theorem blk_step {base b : Nat} {w w' : World} {cs : List Value} (h : Blk w b 29 cs) (hs : Step base w w') : Blk w' b 29 cs := hs.other b _ h (by simp) (by simp) (by simp)
theorem tab_box {base : Nat} {w : World} {tb bm n i : Nat} {D : DU} {J : List Fo} {cs : List Value} (h : Tab base w tb D J n) (hb : Blk w bm 29 cs) (v : Value) : Tab base (w.setCell ⟨bm, i, none⟩ v) tb D J n :=
  h.grown (grown_set w bm i v) fun r hr => by
    injection hr with hr
    subst hr
    exact ⟨_, 29, hb, by decide, by decide⟩
/-- between the rounds -/
def PR (w1 : World) (bm tb i : Nat) (wr : World) : Prop := ∃ (D : DU) (J : List Fo) (n : Nat) (l : List It) (was : List (List It)) (A : Option Addr) (c : Nat) (WA : Option Addr) (wc : Nat),
  Says D J l was ∧ Tab w1.heap.size wr tb D J n ∧ J.length ≤ i ∧ l.length ≤ i ∧ (∀ x ∈ was, x.length ≤ i) ∧ n ≤ 1001 * i ∧ Blk wr bm 29 [.slice A l.length c, .slice WA was.length wc] ∧ RT wr (.agg #[.slice A l.length c, .slice WA was.length wc]) l was ∧ Below w1.heap.size w1 wr
theorem PR.below {w1 w w' : World} {bm tb i : Nat} (h : PR w1 bm tb i w) (hb : Below w.heap.size w w') : PR w1 bm tb i w' := by
  obtain ⟨D, J, n, l, was, A, c, WA, wc, h1, h2, h3, h4, h5, h6, h7, h8, h9⟩ := h
  exact ⟨D, J, n, l, was, A, c, WA, wc, h1, h2.below hb, h3, h4, h5, h6, h7.below hb h7.lt, h8.kept (Kept2.of_below hb), h9.trans (hb.mono h9.size)⟩
/-- what the reference answered is put into its box -/
theorem PR.put {w1 W : World} {bm tb i n : Nat} {D : DU} {J : List Fo} {l : List It} {was : List (List It)} {A WA : Option Addr} {c wc : Nat} {x y : Value} (hbm : w1.heap.size ≤ bm) (hS : Says D J l was) (hT : Tab w1.heap.size W tb D J n) (hJ : J.length ≤ i) (hl : l.length ≤ i) (hw : ∀ x ∈ was, x.length ≤ i) (hn : n ≤ 1001 * i)
    (hb : Blk W bm 29 [x, y]) (hi : ItsT W A l) (hw2 : WasT W WA was) (hw3 : (WA = none → wc = 0) ∧ was.length ≤ wc) (hB : Below w1.heap.size w1 W) : PR w1 bm tb i ((W.setCell ⟨bm, 0, none⟩ (.slice A l.length c)).setCell ⟨bm, 1, none⟩ (.slice WA was.length wc)) := by
  have hb1 : Blk (W.setCell ⟨bm, 0, none⟩ (.slice A l.length c)) bm 29 [.slice A l.length c, y] := by have := hb.set 0 (.slice A l.length c); simpa using this
  have hb2 : Blk ((W.setCell ⟨bm, 0, none⟩ (.slice A l.length c)).setCell ⟨bm, 1, none⟩ (.slice WA was.length wc)) bm 29 [.slice A l.length c, .slice WA was.length wc] := by have := hb1.set 1 (.slice WA was.length wc); simpa using this
  have hk := kept_two (u := .slice A l.length c) (v := .slice WA was.length wc) hb
  exact ⟨D, J, n, l, was, A, c, WA, wc, hS, tab_box (tab_box hT hb _) hb1 _, hJ, hl, hw, hn, hb2, ⟨A, c, WA, wc, rfl, hi.kept hk, hw2.kept hk, hw3⟩, (hB.setCell hbm _).setCell hbm _⟩
theorem PR.empty {w1 W : World} {bm tb i n : Nat} {D : DU} {l : List It} {A : Option Addr} {c : Nat} {y : Value} (hbm : w1.heap.size ≤ bm) (hS : Says D [] l []) (hT : Tab w1.heap.size W tb D [] n) (hl : l.length ≤ i) (hn : n ≤ 1001 * i)
    (hb : Blk W bm 29 [.slice A l.length c, y]) (hi : ItsT W A l) (hB : Below w1.heap.size w1 W) : PR w1 bm tb i (W.setCell ⟨bm, 1, none⟩ ns) := by
  have hb2 : Blk (W.setCell ⟨bm, 1, none⟩ ns) bm 29 [.slice A l.length c, ns] := by have := hb.set 1 ns; simpa using this
  have hk : Kept2 W (W.setCell ⟨bm, 1, none⟩ ns) := Kept2.set hb (by decide) (by decide) _
  exact ⟨D, [], n, l, [], A, c, none, 0, hS, tab_box hT hb _, Nat.zero_le _, hl, (fun x hx => by cases hx), hn, hb2, ⟨A, c, none, 0, rfl, hi.kept hk, WasT.nil _ _, fun _ => rfl, by simp⟩, hB.setCell hbm _⟩
theorem was_more {was : List (List It)} {l : List It} {i : Nat} (hw : ∀ x ∈ was, x.length ≤ i) (hl : l.length ≤ i) : ∀ x ∈ was ++ [l], x.length ≤ i + 1 := fun x hx => by
  rcases List.mem_append.1 hx with h | h
  · have := hw x h; omega
  · rw [List.mem_singleton.1 h]; omega
theorem without_len (l : List It) (k : List By) : (withoutR l k).length ≤ l.length := List.length_filter_le _ _
theorem tmod8 (v : Int) : -8 < Int.tmod v 8 ∧ Int.tmod v 8 < 8 := by
  have h1 := Int.tmod_lt_of_pos v (show (0 : Int) < 8 by decide)
  have h2 := Int.lt_tmod_of_pos v (show (0 : Int) < 8 by decide)
  omega
end Go.Proofs.Ytkmjknehbaofcaa
