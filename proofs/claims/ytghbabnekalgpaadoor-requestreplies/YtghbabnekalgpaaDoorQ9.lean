/- Frames for the reference's Decode; its pathed. -/
import Derived.Test.YtghbabnekalgpaaDoorQ8
import Derived.Test.YtghbabnekalgpaaDoorW11
import Derived.Maps.AppendAt
namespace Go.Proofs.YtghbabnekalgpaaDoor
open Go.RowKit BaseMath WireMath ReqMath

theorem has_cases (n : Nat) : (hasK n = 0 ∧ (n = 0 ∨ 13 ≤ n)) ∨ (hasK n = 1 ∧ (n = 11 ∨ n = 12)) ∨ (hasK n = 2 ∧ (2 ≤ n ∧ n ≤ 6 ∨ 8 ≤ n ∧ n ≤ 10)) ∨ (hasK n = 3 ∧ n = 1) ∨ (hasK n = 4 ∧ n = 7) := by
  by_cases h : 13 ≤ n
  · exact .inl ⟨hasK_big n h, .inr h⟩
  · match n, h with
    | 0, _ => exact .inl ⟨rfl, .inl rfl⟩
    | 1, _ => exact .inr (.inr (.inr (.inl ⟨rfl, rfl⟩)))
    | 2, _ | 3, _ | 4, _ | 5, _ | 6, _ => exact .inr (.inr (.inl ⟨rfl, .inl ⟨by decide, by decide⟩⟩))
    | 7, _ => exact .inr (.inr (.inr (.inr ⟨rfl, rfl⟩)))
    | 8, _ | 9, _ | 10, _ => exact .inr (.inr (.inl ⟨rfl, .inr ⟨by decide, by decide⟩⟩))
    | 11, _ => exact .inr (.inl ⟨rfl, .inl rfl⟩)
    | 12, _ => exact .inr (.inl ⟨rfl, .inr rfl⟩)
    | n + 13, h => exact absurd (by omega) h
set_option maxRecDepth 100000 in
theorem pathed_yes (n : Nat) (hn : n < 256) (h : 2 ≤ n ∧ n ≤ 6 ∨ 8 ≤ n ∧ n ≤ 10) (w : World) : Calls Tryd.prog 46 #[.int .u8 (n : Int)] w fun e w' => e = .returned (.bool true) ∧ w = w' := by
  rcases h with ⟨h1, h2⟩ | ⟨h1, h2⟩
  · have a1 : (2 : Int) ≤ n := by omega
    have a2 : (n : Int) ≤ 6 := by omega
    go_enter Tryd.func46, Tryd.ntmps46
    go_wp2_with fail
    go_ret
    exact ⟨rfl, rfl⟩
  · have a1 : (2 : Int) ≤ n := by omega
    have a2 : ¬ (n : Int) ≤ 6 := by omega
    have a3 : (8 : Int) ≤ n := by omega
    have a4 : (n : Int) ≤ 10 := by omega
    go_enter Tryd.func46, Tryd.ntmps46
    go_wp2_with fail
    go_ret
    exact ⟨rfl, rfl⟩
set_option maxRecDepth 100000 in
theorem pathed_no (n : Nat) (hn : n < 256) (h : ¬ (2 ≤ n ∧ n ≤ 6 ∨ 8 ≤ n ∧ n ≤ 10)) (w : World) : Calls Tryd.prog 46 #[.int .u8 (n : Int)] w fun e w' => e = .returned (.bool false) ∧ w = w' := by
  have hc : n < 2 ∨ n = 7 ∨ 10 < n := by omega
  clear h
  rcases hc with h | rfl | h
  · have a1 : ¬ (2 : Int) ≤ n := by omega
    have a2 : ¬ (8 : Int) ≤ n := by omega
    go_enter Tryd.func46, Tryd.ntmps46
    go_wp2_with fail
    go_ret
    exact ⟨rfl, rfl⟩
  · go_enter Tryd.func46, Tryd.ntmps46
    go_wp2_with fail
    go_ret
    exact ⟨rfl, rfl⟩
  · have a1 : (2 : Int) ≤ n := by omega
    have a2 : ¬ (n : Int) ≤ 6 := by omega
    have a3 : (8 : Int) ≤ n := by omega
    have a4 : ¬ (n : Int) ≤ 10 := by omega
    go_enter Tryd.func46, Tryd.ntmps46
    go_wp2_with fail
    go_ret
    exact ⟨rfl, rfl⟩

/- what keeps data -/
theorem SrcIs.sameAt {W W' : World} {A : Option Addr} {p : List By} (h : SrcIs W A p) (hs : ∀ a, A = some a → W'.heap[a.block]? = W.heap[a.block]?) : SrcIs W' A p := fun h0 => by
  obtain ⟨b, o, rfl, hc⟩ := h h0
  exact ⟨b, o, rfl, hc.same (hs _ rfl)⟩
theorem StrsIs.sameAt {W W' : World} {A : Option Addr} {p : List (List By)} (h : StrsIs W A p) (hs : ∀ a, A = some a → W'.heap[a.block]? = W.heap[a.block]?) : StrsIs W' A p := fun h0 => by
  obtain ⟨b, o, rfl, hc⟩ := h h0
  refine ⟨b, o, rfl, fun k hk => ?_⟩
  rw [World.cell?_of_block (w := W) (a := ⟨b, o + k, none⟩) (hs ⟨b, o, none⟩ rfl)]; exact hc k hk
theorem NeedsAt.sameAt {W W' : World} {A : Option Addr} {p : List Int} (h : NeedsAt W A p) (hs : ∀ a, A = some a → W'.heap[a.block]? = W.heap[a.block]?) : NeedsAt W' A p := fun h0 => by
  obtain ⟨b, o, rfl, hc⟩ := h h0
  refine ⟨b, o, rfl, fun k hk => ?_⟩
  rw [World.cell?_of_block (w := W) (a := ⟨b, o + k, none⟩) (hs ⟨b, o, none⟩ rfl)]; exact hc k hk
/-- data behind q, not in the row v -/
def Dat (W : World) (q : Nat) (v : Value) (A : Option Addr) : Prop := ∀ a, A = some a → q < a.block ∧ a.block < W.heap.size ∧ v.ownBlock ≠ some a.block
def OutD (W : World) (q : Nat) (v : Value) (cs : List Value) (o : Nat) (x : OutV) : Prop := ∃ A ca R cr M cm, cs[o]? = some (vs x.name) ∧ cs[o + 1]? = some (.slice A x.arch.length ca) ∧ cs[o + 2]? = some (.slice R x.refs.length cr) ∧ cs[o + 3]? = some (.slice M x.needs.length cm) ∧
  OutV4 W x A R M ∧ Dat W q v A ∧ Dat W q v R ∧ Dat W q v M
/-- what a step keeps: all behind q but the row v; the row may have moved -/
structure Keep (q : Nat) (v v' : Value) (W W' : World) : Prop where
  size : W.heap.size ≤ W'.heap.size
  same : ∀ c, q < c → c < W.heap.size → v.ownBlock ≠ some c → W'.heap[c]? = W.heap[c]?
  own : ∀ k, v'.ownBlock = some k → v.ownBlock = some k ∨ W.heap.size ≤ k
theorem Dat.keep {q : Nat} {v v' : Value} {W W' : World} {A : Option Addr} (h : Dat W q v A) (k : Keep q v v' W W') : Dat W' q v' A := fun a ha => by
  obtain ⟨h1, h2, h3⟩ := h a ha
  refine ⟨h1, Nat.lt_of_lt_of_le h2 k.size, fun e => ?_⟩
  rcases k.own _ e with h4 | h4
  · exact h3 h4
  · omega
theorem OutD.keep {q : Nat} {v v' : Value} {W W' : World} {cs : List Value} {o : Nat} {x : OutV} (h : OutD W q v cs o x) (k : Keep q v v' W W') : OutD W' q v' cs o x := by
  obtain ⟨A, ca, R, cr, M, cm, h0, h1, h2, h3, h4, d1, d2, d3⟩ := h
  exact ⟨A, ca, R, cr, M, cm, h0, h1, h2, h3, ⟨h4.1.sameAt fun a ha => k.same _ (d1 a ha).1 (d1 a ha).2.1 (d1 a ha).2.2, h4.2.1.sameAt fun a ha => k.same _ (d2 a ha).1 (d2 a ha).2.1 (d2 a ha).2.2, h4.2.2.sameAt fun a ha => k.same _ (d3 a ha).1 (d3 a ha).2.1 (d3 a ha).2.2⟩, d1.keep k, d2.keep k, d3.keep k⟩
theorem OutD.app {W : World} {q : Nat} {v : Value} {cs : List Value} {o : Nat} {x : OutV} (h : OutD W q v cs o x) (cs' : List Value) : OutD W q v (cs ++ cs') o x := by
  obtain ⟨A, ca, R, cr, M, cm, h0, h1, h2, h3, h4⟩ := h
  have hh : ∀ i y, cs[i]? = some y → (cs ++ cs')[i]? = some y := fun i y hi => by rw [List.getElem?_append_left (List.getElem?_eq_some_iff.1 hi).1]; exact hi
  exact ⟨A, ca, R, cr, M, cm, hh _ _ h0, hh _ _ h1, hh _ _ h2, hh _ _ h3, h4⟩
/-- two blocks may have turned -/
structure But2 (g o : Nat) (w w' : World) : Prop where
  os : w'.os = w.os
  tape : w'.tape = w.tape
  output : w'.output = w.output
  size : w.heap.size ≤ w'.heap.size
  other : ∀ c, c < w.heap.size → c ≠ g → c ≠ o → w'.heap[c]? = w.heap[c]?
theorem But2.refl (g o : Nat) (w : World) : But2 g o w w := ⟨rfl, rfl, rfl, Nat.le_refl _, fun _ _ _ _ => rfl⟩
theorem But2.trans {g o : Nat} {a b c : World} (h : But2 g o a b) (k : But2 g o b c) : But2 g o a c :=
  ⟨k.os.trans h.os, k.tape.trans h.tape, k.output.trans h.output, Nat.le_trans h.size k.size, fun i hi h1 h2 => (k.other i (Nat.lt_of_lt_of_le hi h.size) h1 h2).trans (h.other i hi h1 h2)⟩
theorem But2.of1 {g o : Nat} {a b : World} (h : OnlyAt g a b) : But2 g o a b := ⟨h.os, h.tape, h.output, h.size, fun i hi h1 _ => h.other i hi h1⟩
theorem But2.of2 {g o : Nat} {a b : World} (h : OnlyAt o a b) : But2 g o a b := ⟨h.os, h.tape, h.output, h.size, fun i hi _ h2 => h.other i hi h2⟩
theorem But2.of_below {g o : Nat} {a b : World} (h : Below a.heap.size a b) : But2 g o a b := .of1 (OnlyAt.of_below h)
/-- of what was there ahead of the block o only g has turned -/
theorem But2.only {g o : Nat} {w0 a b : World} (h0 : OnlyAt g w0 a) (h : But2 g o a b) (ho : w0.heap.size ≤ o) : OnlyAt g w0 b :=
  ⟨h.os.trans h0.os, h.tape.trans h0.tape, h.output.trans h0.output, Nat.le_trans h0.size h.size, fun c hc hne => (h.other c (Nat.lt_of_lt_of_le hc h0.size) hne (by omega)).trans (h0.other c hc hne)⟩
theorem But2.grown {g o : Nat} {a w w' : World} {row : Option Nat} (h : But2 g o a w) (hg : w.grownBy w' row) (hr : ∀ k, row = some k → a.heap.size ≤ k) : But2 g o a w' :=
  ⟨hg.os.trans h.os, hg.tape.trans h.tape, hg.output.trans h.output, Nat.le_trans h.size hg.size, fun c hc h1 h2 => by
    rw [hg.block c (Nat.lt_of_lt_of_le hc h.size) (fun e => by have := hr c e.symm; omega)]; exact h.other c hc h1 h2⟩
theorem But2.blk {g o b : Nat} {w w' : World} {t : TypeId} {cs : List Value} (h : But2 g o w w') (hb : Blk w b t cs) (h1 : b ≠ g) (h2 : b ≠ o) : Blk w' b t cs := by
  unfold Blk; rw [h.other b hb.lt h1 h2]; exact hb
theorem numR_u64 (n : Nat) (hn : n ≤ 8) (r : Rd) : numR n r < 18446744073709551616 := by
  have h := numR_lt n r
  exact Nat.lt_of_lt_of_le h (Nat.le_trans (Nat.pow_le_pow_right (by decide) hn) (by decide))
end Go.Proofs.YtghbabnekalgpaaDoor
