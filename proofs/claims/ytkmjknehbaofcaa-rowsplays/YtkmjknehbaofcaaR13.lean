/- The two loops of RowsNested, as relations. -/
import Derived.Test.YtkmjknehbaofcaaR12
namespace Go.Proofs.Ytkmjknehbaofcaa
open Go.RowKit Go.Maps Go.WideShapes Go.MapKept Go.WideMaps Go.ChangeMaps BaseMath WireMath NameMath ScanMath

theorem Inv.less {ms : List Nat} {Ks : List (List (List By))} {c c' : Nat} {D : DU} {J : List Fo} (h : Inv ms Ks c D J) (hc : c' ≤ c) : Inv ms Ks c' D J :=
  ⟨h.len, fun j hj h1 => h.le j hj (by omega), h.rises, fun j hj h2 h1 => h.mem j hj h2 (by omega), h.mono, h.first, h.none⟩
theorem row_cell {w : World} {base e n : Nat} {v : Value} {xs : List Value} (h : w.ownsRow base e 1 v n xs) {k : Nat} {x : Value} (hk : xs[k]? = some x) : ∃ g cap, v = .slice (some ⟨g, 0, none⟩) n cap ∧ w.cell? ⟨g, k, none⟩ = some x ∧ k < n := by
  have hl : xs.length = n := by have := h.1; omega
  have hk1 := (List.getElem?_eq_some_iff.1 hk).1
  rcases h.2 with ⟨hv, h0⟩ | ⟨g, cap, cur, hv, hg, hc, hn, _, hs, ht⟩
  · omega
  · rw [Nat.mul_one] at ht
    refine ⟨g, cap, hv, ?_, by omega⟩
    have hb : Blk w g e (xs ++ cur.toList.drop n) := by rw [← ht, List.take_append_drop]; exact hc
    rw [hb.cell, List.getElem?_append_left hk1]; exact hk
theorem keys_size2 {w : World} {b n : Nat} {D : DU} (h : w.ownsMap Try.prog 9 (plainElem (H := Unit) Try.prog 3) b n D) : (keysD D).length = Maps.size D := by
  have h1 := keys_nodup h
  unfold keysD
  rw [← sort_nodup h1, List.length_mergeSort]
  obtain ⟨es, rfl, -, -⟩ := keys_str h
  simp [strKeys, Maps.size]
/-- up: after i rounds -/
def Up (base : Nat) (w1 w : World) (tb : Nat) (mv kv : Value) (i : Nat) : Prop :=
  ∃ (D : DU) (J : List Fo) (ms : List Nat) (ks : List Kx), Tab base w tb D J i ∧ J.length ≤ i ∧ ms.length = i ∧ Inv ms (ks.map (·.2.2)) i D J ∧ RowsAt base w mv kv ms ks ∧ Below base w1 w
/-- up: the mark and the keys are laid -/
def Mid (base : Nat) (w1 w : World) (tb : Nat) (mv kv : Value) (i : Nat) : Prop :=
  ∃ (D : DU) (J : List Fo) (ms : List Nat) (ks : List Kx), Tab base w tb D J i ∧ J.length ≤ i ∧ ms.length = i + 1 ∧ Inv ms (ks.map (·.2.2)) (i + 1) D J ∧ RowsAt base w mv kv ms ks ∧ Below base w1 w
theorem Up.start {base : Nat} {w1 w : World} {tb : Nat} (h : Tab base w tb (.map []) [] 0) (hb : Below base w1 w) : Up base w1 w tb (.slice none 0 0) (.slice none 0 0) 0 :=
  ⟨_, [], [], [], h, Nat.le_refl _, rfl, Inv.start, ⟨World.ownsRow_nil _ _ _ _, World.ownsRow_nil _ _ _ _, fun x hx => by cases hx⟩, hb⟩
theorem Mid.make {base : Nat} {w1 w : World} {tb : Nat} {D : DU} {J : List Fo} {ms : List Nat} {ks : List Kx} {i : Nat} {mv kv : Value} {A : Option Addr} {c : Nat} (hT : Tab base w tb D J i) (hJ : J.length ≤ i) (hl : ms.length = i) (hI : Inv ms (ks.map (·.2.2)) i D J)
    (hR : RowsAt base w mv kv (ms ++ [J.length]) (ks ++ [(A, c, keysD D)])) (hB : Below base w1 w) : Mid base w1 w tb mv kv i := by
  subst hl
  refine ⟨D, J, _, _, hT, hJ, by simp, ?_, hR, hB⟩
  have h := Inv.push (K := keysD D) hI (fun e => List.eq_nil_of_length_eq_zero (by omega)) (by unfold keysD; exact rise_rises _) (fun q => hT.mem q)
  rw [List.map_append]
  rw [List.length_append] at h
  exact h
theorem Mid.below {base : Nat} {w1 w w' : World} {tb : Nat} {mv kv : Value} {i : Nat} (h : Mid base w1 w tb mv kv i) (hb : Below w.heap.size w w') : Mid base w1 w' tb mv kv i := by
  obtain ⟨D, J, ms, ks, hT, hJ, hl, hI, hR, hB⟩ := h
  exact ⟨D, J, ms, ks, hT.below hb, hJ, hl, hI, hR.below hb, hB.trans (hb.mono hT.base_le)⟩
theorem Mid.low {base : Nat} {w1 w : World} {tb : Nat} {mv kv : Value} {i : Nat} (h : Mid base w1 w tb mv kv i) : Below base w1 w := by
  obtain ⟨D, J, ms, ks, hT, hJ, hl, hI, hR, hB⟩ := h; exact hB
theorem Up.low {base : Nat} {w1 w : World} {tb : Nat} {mv kv : Value} {i : Nat} (h : Up base w1 w tb mv kv i) : Below base w1 w := by
  obtain ⟨D, J, ms, ks, hT, hJ, hl, hI, hR, hB⟩ := h; exact hB
theorem Mid.go {base : Nat} {w1 w w' : World} {tb : Nat} {D D' : DU} {J L : List Fo} {ms : List Nat} {ks : List Kx} {i : Nat} {mv kv : Value} (hJ : J.length ≤ i) (hl : ms.length = i + 1) (hI : Inv ms (ks.map (·.2.2)) (i + 1) D J)
    (hR : RowsAt base w mv kv ms ks) (hB : Below base w1 w) (h1 : L.length ≤ 1) (h2 : back L (hasD D') = hasD D) (h3 : Tab base w' tb D' (J ++ L) (i + 1)) (hs : Step base w w') : Up base w1 w' tb mv kv (i + 1) :=
  ⟨D', J ++ L, ms, ks, h3, by rw [List.length_append]; omega, hl, hI.more h2, hR.step hs, hB.trans hs.below⟩
theorem Mid.set {base : Nat} {w1 w : World} {tb : Nat} {mv kv : Value} {i : Nat} (h : Mid base w1 w tb mv kv i) (hi : i ≤ 1000) (k : List By) (hk : k.length ≤ maxLen) (v : Int) (hv : (Lit.int .i64 v).wf = true) :
    Calls Try.prog 12 #[.pointer (some ⟨tb, 0, none⟩), vs k, .int .i64 v] w fun e w' => e = .returned (.tuple #[]) ∧ Up base w1 w' tb mv kv (i + 1) := by
  obtain ⟨D, J, ms, ks, hT, hJ, hl, hI, hR, hB⟩ := h
  refine (set_u hT k hk v hv (by omega) (by omega)).mono fun e w' he => ?_
  obtain ⟨h0, ⟨D', L, h1, h2, h3⟩, hs⟩ := he
  exact ⟨h0, Mid.go hJ hl hI hR hB h1 h2 h3 hs⟩
theorem Mid.drop {base : Nat} {w1 w : World} {tb : Nat} {mv kv : Value} {i : Nat} (h : Mid base w1 w tb mv kv i) (hi : i ≤ 1000) (k : List By) (hk : k.length ≤ maxLen) :
    Calls Try.prog 15 #[.pointer (some ⟨tb, 0, none⟩), vs k] w fun e w' => (∃ b, e = .returned (.bool b)) ∧ Up base w1 w' tb mv kv (i + 1) := by
  obtain ⟨D, J, ms, ks, hT, hJ, hl, hI, hR, hB⟩ := h
  refine (drop_u hT k hk (by omega)).mono fun e w' he => ?_
  obtain ⟨h0, ⟨D', L, h1, h2, h3⟩, hs⟩ := he
  exact ⟨h0, Mid.go hJ hl hI hR hB h1 h2 h3 hs⟩
/-- down: c rounds to go -/
def Down (base : Nat) (w1 w : World) (tb : Nat) (mv kv : Value) (N c : Nat) : Prop :=
  ∃ (D : DU) (J : List Fo) (ms : List Nat) (ks : List Kx), Tab base w tb D J (31 + 1000 * (N - c)) ∧ J.length ≤ 30 ∧ ms.length = N ∧ Inv ms (ks.map (·.2.2)) c D J ∧ RowsAt base w mv kv ms ks ∧ Below base w1 w ∧ (N = 0 → J = []) ∧ (∀ h : c < ms.length, J.length = ms[c]) ∧
    (∀ h : c < (ks.map (·.2.2)).length, keysD D = (ks.map (·.2.2))[c])
theorem Down.start {base : Nat} {w1 w : World} {tb : Nat} {mv kv : Value} {N : Nat} (h : Up base w1 w tb mv kv N) (hN : N ≤ 30) : Down base w1 w tb mv kv N N := by
  obtain ⟨D, J, ms, ks, hT, hJ, hl, hI, hR, hB⟩ := h
  exact ⟨D, J, ms, ks, hT.mono (by omega), by omega, hl, hI, hR, hB, fun e => List.eq_nil_of_length_eq_zero (by omega), fun h => by omega, fun h => absurd h (by have := hI.len; omega)⟩
theorem Down.low {base : Nat} {w1 w : World} {tb : Nat} {mv kv : Value} {N c : Nat} (h : Down base w1 w tb mv kv N c) : Below base w1 w := by
  obtain ⟨D, J, ms, ks, hT, hJ, hl, hI, hR, hB, -⟩ := h; exact hB
theorem Down.below {base : Nat} {w1 w w' : World} {tb : Nat} {mv kv : Value} {N c : Nat} (h : Down base w1 w tb mv kv N c) (hb : Below w.heap.size w w') : Down base w1 w' tb mv kv N c := by
  obtain ⟨D, J, ms, ks, hT, hJ, hl, hI, hR, hB, h1⟩ := h
  exact ⟨D, J, ms, ks, hT.below hb, hJ, hl, hI, hR.below hb, hB.trans (hb.mono hT.base_le), h1⟩
/-- the cells that a round down reads -/
theorem Down.cells {base : Nat} {w1 w : World} {tb : Nat} {mv kv : Value} {N k : Nat} (h : Down base w1 w tb mv kv N (k + 1)) (hk : k + 1 ≤ N) (hN : N ≤ 30) :
    ∃ g cap g2 cap2 m A K c, mv = .slice (some ⟨g, 0, none⟩) N cap ∧ kv = .slice (some ⟨g2, 0, none⟩) N cap2 ∧ w.cell? ⟨g, k, none⟩ = some (.int .i64 (m : Nat)) ∧ w.cell? ⟨g2, k, none⟩ = some (.slice A (List.length (α := List By) K) c) ∧ StrT w A K ∧ g < w.heap.size ∧ g2 < w.heap.size ∧
      Calls Try.prog 16 #[.pointer (some ⟨tb, 0, none⟩), .int .i64 (m : Nat)] w fun e w' => e = .returned (.tuple #[]) ∧ w'.cell? ⟨g, k, none⟩ = some (.int .i64 (m : Nat)) ∧ w'.cell? ⟨g2, k, none⟩ = some (.slice A (List.length (α := List By) K) c) ∧ StrT w' A K ∧ g < w'.heap.size ∧ g2 < w'.heap.size ∧
        Down base w1 w' tb mv kv N k ∧ ∃ D J, Tab base w' tb D J (31 + 1000 * (N - k)) ∧ keysD D = K ∧ J.length = m ∧ K.length ≤ 100000 := by
  obtain ⟨D, J, ms, ks, hT, hJ, hl, hI, hR, hB, h0, -, -⟩ := h
  have hkm : k < ms.length := by omega
  have hkk : k < ks.length := by have := hI.len; rw [List.length_map] at this; omega
  have hkl : ks.length = N := by have := hI.len; rw [List.length_map] at this; omega
  have x1 : (ms.map fun (m : Nat) => Value.int .i64 (m : Int))[k]? = some (.int .i64 (ms[k] : Nat)) := by rw [List.getElem?_map, List.getElem?_eq_getElem hkm]; rfl
  have x2 : (kvals ks)[k]? = some (.slice ks[k].1 ks[k].2.2.length ks[k].2.1) := by unfold kvals; rw [List.getElem?_map, List.getElem?_eq_getElem hkk]; rfl
  obtain ⟨g, cap, e1, c1, -⟩ := row_cell hR.m x1
  obtain ⟨g2, cap2, e2, c2, -⟩ := row_cell hR.k x2
  have hle := hI.le k hkm (by omega)
  have hU := hI.undo hT.isMap hkm
  have hKr : (ks.map (·.2.2))[k]'(by rw [List.length_map]; exact hkk) = ks[k].2.2 := by rw [List.getElem_map]
  have hdrop : (J.take ms[k]).drop ms[k] = [] := List.drop_of_length_le (by rw [List.length_take]; omega)
  have hkey : ∀ {w' : World} {n : Nat}, Tab base w' tb (undoD D (J.drop ms[k])) (J.take ms[k]) n → keysD (undoD D (J.drop ms[k])) = ks[k].2.2 := fun ht => by
    refine rises_ext (by unfold keysD; exact rise_rises _) (by rw [← hKr]; exact hI.rises k _) fun q => ?_
    rw [ht.mem, ← hKr, hU.mem k hkm (by rw [List.length_map]; exact hkk) (by omega), hdrop]
    rfl
  have hKlen : ∀ {w' : World}, Tab base w' tb (undoD D (J.drop ms[k])) (J.take ms[k]) (31 + 1000 * (N - k)) → ks[k].2.2.length ≤ 100000 := fun ht => by
    rw [← hkey ht]
    obtain ⟨mb, jv, h⟩ := ht
    rw [keys_size2 h.map]
    have := h.map.size_le
    omega
  rw [hl] at e1; rw [hkl] at e2
  refine ⟨g, cap, g2, cap2, ms[k], ks[k].1, ks[k].2.2, ks[k].2.1, e1, e2, c1, c2, hR.s _ (List.getElem_mem hkk), block_of_cell c1, block_of_cell c2, ?_⟩
  refine (undo_all hT (ms[k] : Nat) (by omega) (by omega) (by omega)).mono fun e w' he => ?_
  obtain ⟨he1, ht, hs⟩ := he
  rw [Int.toNat_natCast] at ht
  have hR' := hR.step hs
  obtain ⟨g', cap', e1', c1', -⟩ := row_cell hR'.m x1
  obtain ⟨g2', cap2', e2', c2', -⟩ := row_cell hR'.k x2
  rw [e1] at e1'; rw [e2] at e2'
  injection e1' with i1 i2 i3; injection i1 with i1; injection i1 with i1
  injection e2' with j1 j2 j3; injection j1 with j1; injection j1 with j1
  subst i1; subst j1
  have ht' := ht.mono (show 31 + 1000 * (N - (k + 1)) + 1000 ≤ 31 + 1000 * (N - k) by omega)
  have hlen : (J.take ms[k]).length = ms[k] := by rw [List.length_take]; omega
  exact ⟨he1, c1', c2', hR'.s _ (List.getElem_mem hkk), block_of_cell c1', block_of_cell c2', ⟨_, _, ms, ks, ht', by omega, hl, hU.less (by omega), hR', hB.trans hs.below, fun e => by omega, fun _ => hlen, fun _ => by rw [hkey ht, hKr]⟩, _, _, ht', hkey ht, hlen, hKlen ht'⟩
/-- nothing is left -/
theorem Down.empty {base : Nat} {w1 w : World} {tb : Nat} {mv kv : Value} {N : Nat} (h : Down base w1 w tb mv kv N 0) : Calls Try.prog 21 #[.pointer (some ⟨tb, 0, none⟩)] w fun e w' => e = .returned (.int .i64 0) ∧ w = w' := by
  obtain ⟨D, J, ms, ks, hT, hJ, hl, hI, hR, hB, h0, h1, -⟩ := h
  have hJ0 : J = [] := by
    by_cases e : N = 0
    · exact h0 e
    · have hp : 0 < ms.length := by omega
      exact List.eq_nil_of_length_eq_zero (by rw [h1 hp, hI.first hp])
  subst hJ0
  have hs := hT.size_none hI.none
  have h2 := len_any hT
  rw [hs] at h2
  exact h2
end Go.Proofs.Ytkmjknehbaofcaa
