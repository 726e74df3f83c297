/- TreeMade: names and kids that are copied, and one more. -/
import Derived.Test.YtlehgacbcacokaaK8
namespace Go.Proofs.Ytlehgacbcacokaa
open Go.RowKit TreeMath RealMath

/-- TEXTS APPENDED, wherever they come from: nil, empty or not -/
theorem wpList_append_strs_any {w : World} {ops : Array Oper} {rest : List Oper} {o : Oper} {a : Act} {Q : Exit → Act → World → Prop} (hgd : o.guard = none) (s x : Operand)
    (ho : o.op = .call { callee := .builtin .append, args := #[s, x], argTypes := #[22, 22] }) (base : Nat) (v : Value) (ls : List (List By)) (hs : a.eval s = v) (hown : Strs w base v ls)
    (A : Option Addr) (c : Nat) (ms : List (List By)) (hx : a.eval x = .slice A ms.length c) (hN : A = none → c = 0) (hsrc : StrsIs w A ms) (hbd : ls.length + ms.length ≤ 1000000) (hbase : base ≤ w.heap.size)
    (h : ∀ v' w', Strs w' base v' (ls ++ ms) → w.grownBy w' v.ownBlock → wpList Try.prog ops Q rest (a.put o.dst v') w') : wpList Try.prog ops Q (o :: rest) a w := by
  cases A with
  | none =>
    have hl : ms = [] := by
      cases ms with
      | nil => rfl
      | cons y r => obtain ⟨b, o, he, _⟩ := hsrc (by simp); cases he
    subst hl
    obtain rfl := hN rfl
    obtain ⟨i0, hi, hz0, hz1, hz2⟩ := info_parts info9
    exact wpList_append_own_none hgd s x 22 ho base 9 i0 1 Try.underlying22 hi v ls.length (ls.map vs) hs hown hx (h v w (by simpa using hown) ⟨rfl, rfl, rfl, Nat.le_refl _, fun _ _ _ => rfl⟩)
  | some ad =>
    refine wpList_append_strs hgd s x ho base v ls hs hown ad c ms.length ms rfl hx ?_ hbd hbase h
    intro j u hj
    have h0 : 0 < ms.length := by have := (List.getElem?_eq_some_iff.1 hj).1; simp at this; omega
    obtain ⟨b, off, he, hc⟩ := hsrc h0
    cases he
    have hjl : j < ms.length := by have := (List.getElem?_eq_some_iff.1 hj).1; simpa using this
    rw [Addr.add_mid, hc j hjl, ← hj]; simp [hjl]
/-- NODES APPENDED, wherever they come from: nil, empty or not -/
theorem wpList_append_nodes_any {w : World} {ops : Array Oper} {rest : List Oper} {o : Oper} {a : Act} {Q : Exit → Act → World → Prop} (hgd : o.guard = none) (s x : Operand)
    (ho : o.op = .call { callee := .builtin .append, args := #[s, x], argTypes := #[23, 23] }) (base : Nat) (v : Value) (ts : List T) (hs : a.eval s = v) (hown : Nodes w base v ts)
    (A : Option Addr) (c top : Nat) (ks : List T) (hx : a.eval x = .slice A ks.length c) (hN : A = none → c = 0) (hsrc : KidsAt w top A ks) (hbd : ts.length + ks.length ≤ 1000000) (hbase : base ≤ w.heap.size)
    (h : ∀ v' w', Nodes w' base v' (ts ++ ks) → w.grownBy w' v.ownBlock → wpList Try.prog ops Q rest (a.put o.dst v') w') : wpList Try.prog ops Q (o :: rest) a w := by
  cases A with
  | none =>
    have hl : ks = [] := by
      cases ks with
      | nil => rfl
      | cons y r => obtain ⟨b, o, he, _⟩ := hsrc (by simp); cases he
    subst hl
    obtain rfl := hN rfl
    obtain ⟨i0, hi, hz0, hz1, hz2⟩ := info_parts info27
    exact wpList_append_own_none hgd s x 23 ho base 27 i0 7 Try.underlying23 hi v ts.length (ts.flatMap cellsT) hs hown hx (h v w (by simpa using hown) ⟨rfl, rfl, rfl, Nat.le_refl _, fun _ _ _ => rfl⟩)
  | some ad =>
    refine wpList_append_nodes hgd s x ho base v ts hs hown ad c ks.length ks rfl hx ?_ hbd hbase h
    intro j u hj
    have hjl : j < ks.length * 7 := by have := (List.getElem?_eq_some_iff.1 hj).1; rw [flat_length] at this; exact this
    obtain ⟨b, off, he, _, hc⟩ := hsrc (by omega)
    cases he
    have hd : j / 7 < ks.length := by omega
    have hm : j % 7 < 7 := Nat.mod_lt _ (by decide)
    have hjj : j / 7 * 7 + j % 7 = j := by omega
    rw [← hjj, flat_get ks (j / 7) hd (j % 7) hm] at hj
    have := hc (j / 7) hd (j % 7) u hj
    rw [Addr.add_mid, show off + j = off + j / 7 * 7 + j % 7 by omega]; exact this
def fileN : T := .mk (fileHd none 0 [] false 0) []
/-- names are copied, and one more: the box holds them -/
structure Half (w : World) (g9 g10 B : Nat) (y : Hd) (ly : List T) (v : Value) (ls : List (List By)) (W : World) : Prop where
  b9 : Blk W g9 27 (cellsT (.mk y ly))
  b10 : Blk W g10 27 [vb y.kind, v, .slice y.ka ly.length y.kc, .slice y.da y.data.length y.dc, .bool y.run, .float .f64 y.stamp, vs y.target]
  ok : Ok W g9 (.mk y ly)
  names : Strs W B v ls
  ne : g9 < g10
  lt : g10 < B
  wg : w.heap.size ≤ g9
  made : MadeR (.mk y ly)
  below : Below w.heap.size w W
theorem half_of {w W w2 : World} {g9 g10 : Nat} {y : Hd} {ly : List T} {v : Value} {ls : List (List By)} (h : Sw w g9 g10 y ly W) (hb : Below W.heap.size W w2) (hn : Strs w2 W.heap.size v ls) : Half w g9 g10 W.heap.size y ly v ls (w2.setCell ⟨g10, 1, none⟩ v) := by
  have h2 := h.keep hb
  have hne := h.ne; have hwg := h.wg
  refine ⟨h2.b9.other (by show g9 ≠ g10; omega) _, ?_, h2.ok.keep ((Below.refl _ _).setCell (by show g9 ≤ g10; omega) _), own_same hn fun c h1 _ => Below.heap_setCell w2 ⟨g10, 1, none⟩ v c (fun e => by have := h.b10.lt; simp only at e; omega), hne, h.b10.lt, hwg, h.made, h2.below.setCell (by show _ ≤ g10; omega) _⟩
  have := h2.b10.set 1 v; exact this
theorem Half.keep {w W W' : World} {g9 g10 B : Nat} {y : Hd} {ly : List T} {v : Value} {ls : List (List By)} (h : Half w g9 g10 B y ly v ls W) (hb : Below B W W') (hn : Strs W' B v ls) : Half w g9 g10 B y ly v ls W' := by
  have hne := h.ne; have hlt := h.lt; have hwg := h.wg
  exact ⟨h.b9.below hb (by omega), h.b10.below hb (by omega), h.ok.keep (hb.mono (by omega)), hn, hne, hlt, hwg, h.made, h.below.trans (hb.mono (by omega))⟩
theorem half_ready {w W : World} {g9 g10 B : Nat} {y : Hd} {ly : List T} {v v4 : Value} {ls : List (List By)} (h : Half w g9 g10 B y ly v ls W) (hk : Nodes W B v4 (ly ++ [fileN])) (hls : ls.length ≤ 1000) (hle : ∀ t ∈ ls, t.length ≤ maxLen) :
    ∃ z, v4.ownBlock = v4.ownBlock ∧ Ready w g9 g10 y z ly (ly ++ [fileN]) (W.setCell ⟨g10, 2, none⟩ v4) := by
  have hne := h.ne; have hlt := h.lt; have hwg := h.wg
  have hg9 := h.b9.lt
  have hoth : ∀ c, c ≠ g10 → (W.setCell ⟨g10, 2, none⟩ v4).heap[c]? = W.heap[c]? := fun c hc => Below.heap_setCell W ⟨g10, 2, none⟩ v4 c (fun e => hc (by simpa using e))
  have hn' : Strs (W.setCell ⟨g10, 2, none⟩ v4) B v ls := own_same h.names fun c h1 _ => hoth c (by omega)
  have hk' : Nodes (W.setCell ⟨g10, 2, none⟩ v4) B v4 (ly ++ [fileN]) := own_same hk fun c h1 _ => hoth c (by omega)
  obtain ⟨An, cn, hvn, hns, hnn, hnc, hnb⟩ := hn'.src
  obtain ⟨Ak, ck, hvk, hks, hkn, hkc, hkb⟩ := hk'.src
  have hok' : Ok (W.setCell ⟨g10, 2, none⟩ v4) g9 (.mk y ly) := h.ok.keep ((Below.refl _ _).setCell (by show g9 ≤ g10; omega) _)
  have hsz : (W.setCell ⟨g10, 2, none⟩ v4).heap.size = W.heap.size := World.size_setCell _ _ _
  have hoku := hok'.up (show g9 ≤ (W.setCell ⟨g10, 2, none⟩ v4).heap.size by rw [hsz]; omega)
  have hcn := h.made.count
  have hkl := kids_le (x := y) (ks := ly)
  refine ⟨{ y with na := An, nc := cn, names := ls, ka := Ak, kc := ck }, rfl, h.b9.other (by show g9 ≠ g10; omega) _, ?_, hoku, ?_, ?_, ?_, h.below.setCell (by show _ ≤ g10; omega) _⟩
  · have := h.b10.set 2 v4
    rw [hvn, hvk] at this
    rw [hvk]; exact this
  · refine .mk _ _ ⟨hns, fun _ a ha => (hnb a ha).2, hnn, hnc, by show ls.length ≤ _; unfold maxLen; omega, hle, hoku.hd.dsrc, hoku.hd.dlt, hoku.hd.dnil, hoku.hd.dcap, hoku.hd.dlen, hoku.hd.stamp, hoku.hd.tlen, hkn⟩ (by simp; unfold maxLen; omega) hkc hks ?_
    intro k hk0
    rcases List.mem_append.1 hk0 with e | e
    · exact hoku.kid e
    · obtain rfl : k = fileN := by simpa using e
      exact ok_file _ _ _ _ _ (fun h => absurd h (by simp)) (fun h => absurd h (by simp)) (fun _ => rfl) (by simp) (by simp) (by omega)
  · rw [count_mk, allL_append, List.length_append, allL, allL]
    have : (all fileN).length = 1 := by unfold fileN; rw [all, allL]; rfl
    rw [count_mk] at hcn
    simp [this]; omega
  · intro k hk0
    rw [all] at hk0
    rcases List.mem_cons.1 hk0 with e | e
    · rw [e]; show ls.length ≤ _; omega
    · rw [allL_append, allL, allL, List.append_nil] at e
      rcases List.mem_append.1 e with e | e
      · exact made_few h.made k (by rw [all]; exact List.mem_cons_of_mem _ e)
      · unfold fileN at e; rw [all, allL] at e
        obtain rfl := by simpa using e
        simp [T.hd, fileHd]
theorem Half.keep2 {w W W' : World} {g9 g10 B : Nat} {y : Hd} {ly : List T} {v : Value} {ls ls' : List (List By)} (h : Half w g9 g10 B y ly v ls W) (hb : Below B W W') (hn : Strs W' B v ls') : Half w g9 g10 B y ly v ls' W' := by
  have hne := h.ne; have hlt := h.lt; have hwg := h.wg
  exact ⟨h.b9.below hb (by omega), h.b10.below hb (by omega), h.ok.keep (hb.mono (by omega)), hn, hne, hlt, hwg, h.made, h.below.trans (hb.mono (by omega))⟩
theorem half_ready0 {w W : World} {g9 g10 B : Nat} {y : Hd} {ly : List T} {v : Value} {ls : List (List By)} (h : Half w g9 g10 B y ly v ls W) (hls : ls.length ≤ 1000) (hle : ∀ t ∈ ls, t.length ≤ maxLen) : ∃ z, v = v ∧ Ready w g9 g10 y z ly ly W := by
  have hne := h.ne; have hlt := h.lt; have hwg := h.wg
  have hg9 := h.b9.lt
  obtain ⟨An, cn, hvn, hns, hnn, hnc, hnb⟩ := h.names.src
  have hoku := h.ok.up (Nat.le_of_lt hg9)
  have hcn := h.made.count
  refine ⟨{ y with na := An, nc := cn, names := ls }, rfl, h.b9, ?_, hoku, ?_, ?_, ?_, h.below⟩
  · have := h.b10; rw [hvn] at this; exact this
  · exact .mk _ _ ⟨hns, fun _ a ha => (hnb a ha).2, hnn, hnc, by show ls.length ≤ _; unfold maxLen; omega, hle, hoku.hd.dsrc, hoku.hd.dlt, hoku.hd.dnil, hoku.hd.dcap, hoku.hd.dlen, hoku.hd.stamp, hoku.hd.tlen, hoku.hd.knil⟩ hoku.len hoku.cap hoku.at (fun k hk => hoku.kid hk)
  · rw [count_head y]; omega
  · exact few_head (made_few h.made) (by show ls.length ≤ _; omega)
/-- one text of a row written over -/
theorem strs_set {W : World} {base g n q : Nat} {ls : List (List By)} (h : Strs W base (.slice (some ⟨g, 0, none⟩) n q) ls) (hn : ls.length = n) (i : Nat) (hi : i < n) (s : List By) :
    W.cell? ⟨g, i, none⟩ = some (vs (ls[i]'(by omega))) ∧ W.frozen? ⟨g, i, none⟩ = false ∧ g < W.heap.size ∧ base ≤ g ∧ Strs (W.setCell ⟨g, i, none⟩ (vs s)) base (.slice (some ⟨g, 0, none⟩) n q) (ls.set i s) := by
  subst hn
  have h1 := World.ownsRow.cellAt h i (by omega)
  have h2 := World.ownsRow.frozenAt h i
  have h3 := h.lt g rfl
  have h4 := World.ownsRow.stored h i (vs s)
  refine ⟨by rw [h1]; simp, h2, h3.2, h3.1, ?_⟩
  unfold Strs
  rw [List.length_set, List.map_set]
  exact h4.1
end Go.Proofs.Ytlehgacbcacokaa
