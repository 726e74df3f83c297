/- Rows of numbers and of slices beside a table. -/
import Derived.Test.YtkmjknehbaofcaaR11
import Derived.Maps.AppendAt
namespace Go.Proofs.Ytkmjknehbaofcaa
open Go.RowKit Go.Maps Go.WideShapes Go.MapKept Go.WideMaps Go.ChangeMaps BaseMath WireMath NameMath ScanMath

theorem info45 : (Try.prog.info? 45).map (fun i => (i.zero, i.size, i.bytes)) = some (some (.slice none 0 0), 1, 24) := by kernel_rfl
theorem row_type {w : World} {base e s n : Nat} {v : Value} {xs : List Value} (h : w.ownsRow base e s v n xs) {r : Nat} (hr : v.ownBlock = some r) : base ≤ r ∧ ∃ cs, w.heap[r]? = some (.cells cs e (0, 0)) := by
  rcases h.2 with ⟨rfl, _⟩ | ⟨k, cap, cur, rfl, hb, hc, _⟩
  · cases hr
  · obtain rfl : k = r := by simpa [Value.ownBlock] using hr
    exact ⟨hb, _, hc⟩
theorem row_step {w w' : World} {base b e n : Nat} {v : Value} {xs : List Value} (h : w.ownsRow base e 1 v n xs) (hs : Step b w w') (h1 : e ≠ 65) (h2 : e ≠ 76) : w'.ownsRow base e 1 v n xs := by
  refine ownsRow_keep h fun k hk => ?_
  obtain ⟨-, cs, hc⟩ := row_type h hk
  rw [hc]
  exact hs.other k _ hc (by simp; omega) (by simp; omega) (by simp)
abbrev Kx := Option Addr × Nat × List (List By)
def kvals (ks : List Kx) : List Value := ks.map fun x => .slice x.1 x.2.2.length x.2.1
structure RowsAt (base : Nat) (w : World) (mv kv : Value) (ms : List Nat) (ks : List Kx) : Prop where
  m : w.ownsRow base 3 1 mv ms.length (ms.map fun (m : Nat) => Value.int .i64 (m : Int))
  k : w.ownsRow base 45 1 kv ks.length (kvals ks)
  s : ∀ x ∈ ks, StrT w x.1 x.2.2
theorem RowsAt.step {base b : Nat} {w w' : World} {mv kv : Value} {ms : List Nat} {ks : List Kx} (h : RowsAt base w mv kv ms ks) (hs : Step b w w') : RowsAt base w' mv kv ms ks :=
  ⟨row_step h.m hs (by decide) (by decide), row_step h.k hs (by decide) (by decide), fun x hx => (h.s x hx).step hs⟩
theorem RowsAt.below {base : Nat} {w w' : World} {mv kv : Value} {ms : List Nat} {ks : List Kx} (h : RowsAt base w mv kv ms ks) (hb : Below w.heap.size w w') : RowsAt base w' mv kv ms ks := h.step (Step.of_below hb (Nat.le_refl _))
/-- memory of another type turns -/
theorem Tab.grown {base : Nat} {w w' : World} {tb : Nat} {D : DU} {J : List Fo} {n : Nat} (h : Tab base w tb D J n) {row : Option Nat} (hg : w.grownBy w' row) (hr : ∀ r, row = some r → ∃ cs e, w.heap[r]? = some (.cells cs e (0, 0)) ∧ e ≠ 65 ∧ e ≠ 76) : Tab base w' tb D J n := by
  obtain ⟨mb, jv, h⟩ := h
  refine ⟨mb, jv, h.kept hg (fun e => ?_) (fun e => ?_) (fun r hr2 e => ?_)⟩
  · obtain ⟨cs, t, hc, h1, -⟩ := hr _ e
    have hb := h.blk; unfold Blk at hb; rw [hb] at hc; simp at hc; exact h1 hc.2.symm
  · obtain ⟨cs, t, hc, -, -⟩ := hr _ e
    obtain ⟨es, ck, hm⟩ := map_blk h.map
    rw [hm] at hc; cases hc
  · obtain ⟨cs, t, hc, -, h2⟩ := hr _ e
    obtain ⟨-, cs2, hc2⟩ := row_type h.row hr2
    rw [hc2] at hc; simp at hc; exact h2 hc.2.symm
theorem StrT.grown {w w' : World} {A : Option Addr} {l : List (List By)} (h : StrT w A l) {row : Option Nat} (hg : w.grownBy w' row) (hr : ∀ r, row = some r → ∃ cs e, w.heap[r]? = some (.cells cs e (0, 0)) ∧ e ≠ 9) : StrT w' A l := fun h0 => by
  obtain ⟨b, o, cs, rfl, hb, hc⟩ := h h0
  refine ⟨b, o, cs, rfl, (hg.block b (Array.getElem?_eq_some_iff.1 hb).1 (fun e => ?_)).trans hb, hc⟩
  obtain ⟨cs2, t, hc2, h1⟩ := hr b e.symm
  rw [hb] at hc2; simp at hc2; exact h1 hc2.2.symm
theorem row_grown {w w' : World} {base e n : Nat} {v : Value} {xs : List Value} (h : w.ownsRow base e 1 v n xs) {row : Option Nat} (hg : w.grownBy w' row) (hr : ∀ r, row = some r → ∃ cs t, w.heap[r]? = some (.cells cs t (0, 0)) ∧ t ≠ e) : w'.ownsRow base e 1 v n xs := by
  refine ownsRow_keep h fun k hk => ?_
  obtain ⟨-, cs, hc⟩ := row_type h hk
  refine hg.block k (Array.getElem?_eq_some_iff.1 hc).1 (fun e2 => ?_)
  obtain ⟨cs2, t, hc2, h1⟩ := hr k e2.symm
  rw [hc] at hc2; simp at hc2; exact h1 hc2.2.symm
/-- A MARK IS APPENDED -/
theorem wpList_mark {base : Nat} {w2 W0 : World} {tb : Nat} {D : DU} {J : List Fo} {nn : Nat} {mv kv : Value} {ms : List Nat} {ks : List Kx} {ops : Array Oper} {rest : List Oper} {o : Oper} {a : Act} {Q : Exit → Act → World → Prop}
    (hgd : o.guard = .none) (s x : Operand) (ho : o.op = .call { callee := .builtin .append, args := #[s, x], argTypes := #[59, 59] }) (r : RowsAt base W0 mv kv ms ks) (t : Tab base W0 tb D J nn) (hb : Below base w2 W0) (hs : a.eval s = mv)
    (m : Nat) (hx : a.eval x = .slice (some ⟨W0.heap.size, 0, .none⟩) 1 1) (hl : ms.length ≤ 1000)
    (h : ∀ v' w', RowsAt base w' v' kv (ms ++ [m]) ks → Tab base w' tb D J nn → Below base w2 w' → wpList Try.prog ops Q rest (a.put o.dst v') w') : wpList Try.prog ops Q (o :: rest) a (W0.alloc (.cells #[.int .i64 (m : Int)] 3)) := by
  obtain ⟨i0, hi, hz0, hz1, hz2⟩ := info_parts info3
  have hbl := t.base_le
  have ra := r.below ((Below.refl _ _).alloc (Nat.le_refl _) (.cells #[.int .i64 (m : Int)] 3))
  have ta := t.below ((Below.refl _ _).alloc (Nat.le_refl _) (.cells #[.int .i64 (m : Int)] 3))
  refine wpList_append_own_at _ hgd s x 59 ho base 3 i0 (.int .i64 0) 1 8 Try.underlying59 hi hz0 hz1 hz2 rfl (by decide) mv ms.length _ hs ra.m ⟨W0.heap.size, 0, .none⟩ 1 1 [.int .i64 (m : Int)] hx rfl (cell_one_new _ _ _) (by simp [Value.oneCell']) (by unfold maxLen; omega) (by omega) (by simp; omega) ?_
  intro v' w' h2 h3 _ _
  have hr : ∀ r, mv.ownBlock = some r → ∃ cs, (W0.alloc (.cells #[.int .i64 (m : Int)] 3)).heap[r]? = some (.cells cs 3 (0, 0)) := fun r hr => (row_type ra.m hr).2
  refine h v' w' ⟨by rw [List.length_append, List.map_append]; exact h2, row_grown ra.k h3 (fun r e => by obtain ⟨cs, hc⟩ := hr r e; exact ⟨cs, 3, hc, by decide⟩), fun y hy => (ra.s y hy).grown h3 (fun r e => by obtain ⟨cs, hc⟩ := hr r e; exact ⟨cs, 3, hc, by decide⟩)⟩
    (ta.grown h3 (fun r e => by obtain ⟨cs, hc⟩ := hr r e; exact ⟨cs, 3, hc, by decide, by decide⟩)) ((hb.alloc hbl _).grown h3 (by simp; omega) (fun r e => (row_type ra.m e).1))
/-- KEYS ARE APPENDED -/
theorem wpList_keys {base : Nat} {w2 W0 : World} {tb : Nat} {D : DU} {J : List Fo} {nn : Nat} {mv kv : Value} {ms : List Nat} {ks : List Kx} {ops : Array Oper} {rest : List Oper} {o : Oper} {a : Act} {Q : Exit → Act → World → Prop}
    (hgd : o.guard = .none) (s x : Operand) (ho : o.op = .call { callee := .builtin .append, args := #[s, x], argTypes := #[60, 60] }) (r : RowsAt base W0 mv kv ms ks) (t : Tab base W0 tb D J nn) (hb : Below base w2 W0) (hs : a.eval s = kv)
    (A : Option Addr) (c : Nat) (K : List (List By)) (hK : StrT W0 A K) (hx : a.eval x = .slice (some ⟨W0.heap.size, 0, .none⟩) 1 1) (hl : ks.length ≤ 1000)
    (h : ∀ v' w', RowsAt base w' mv v' ms (ks ++ [(A, c, K)]) → Tab base w' tb D J nn → Below base w2 w' → wpList Try.prog ops Q rest (a.put o.dst v') w') : wpList Try.prog ops Q (o :: rest) a (W0.alloc (.cells #[.slice A K.length c] 45)) := by
  obtain ⟨i0, hi, hz0, hz1, hz2⟩ := info_parts info45
  have hbl := t.base_le
  have hba := (Below.refl W0.heap.size W0).alloc (Nat.le_refl _) (.cells #[.slice A K.length c] 45)
  have ra := r.below hba
  have ta := t.below hba
  have sa := hK.below hba
  refine wpList_append_own_at _ hgd s x 60 ho base 45 i0 (.slice none 0 0) 1 24 Try.underlying60 hi hz0 hz1 hz2 rfl (by decide) kv ks.length _ hs ra.k ⟨W0.heap.size, 0, .none⟩ 1 1 [.slice A K.length c] hx rfl (cell_one_new _ _ _) (by simp [Value.oneCell']) (by unfold maxLen; omega) (by omega) (by simp; omega) ?_
  intro v' w' h2 h3 _ _
  have hr : ∀ r, kv.ownBlock = some r → ∃ cs, (W0.alloc (.cells #[.slice A K.length c] 45)).heap[r]? = some (.cells cs 45 (0, 0)) := fun r hr => (row_type ra.k hr).2
  refine h v' w' ⟨row_grown ra.m h3 (fun r e => by obtain ⟨cs, hc⟩ := hr r e; exact ⟨cs, 45, hc, by decide⟩), by unfold kvals; rw [List.length_append, List.map_append]; exact h2, fun y hy => ?_⟩
    (ta.grown h3 (fun r e => by obtain ⟨cs, hc⟩ := hr r e; exact ⟨cs, 45, hc, by decide, by decide⟩)) ((hb.alloc hbl _).grown h3 (by simp; omega) (fun r e => (row_type ra.k e).1))
  rw [List.mem_append] at hy
  rcases hy with hy | hy
  · exact (ra.s y hy).grown h3 (fun r e => by obtain ⟨cs, hc⟩ := hr r e; exact ⟨cs, 45, hc, by decide⟩)
  · obtain rfl := List.mem_singleton.1 hy
    exact sa.grown h3 (fun r e => by obtain ⟨cs, hc⟩ := hr r e; exact ⟨cs, 45, hc, by decide⟩)
end Go.Proofs.Ytkmjknehbaofcaa
