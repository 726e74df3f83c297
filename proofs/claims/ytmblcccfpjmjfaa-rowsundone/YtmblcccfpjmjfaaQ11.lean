/- What undoing comes to in a table of strings; the loops of RowsUndone, as relations. -/
import Derived.Test.YtmblcccfpjmjfaaQ9
import Derived.Test.YtmblcccfpjmjfaaR13
namespace Go.Proofs.Ytmblcccfpjmjfaa.St
open Go.RowKit Go.Maps Go.WideShapes Go.MapKept Go.WideMaps Go.ChangeMaps BaseMath WireMath NameMath ScanMath

/-- is a key there, and with what, once all that is undone? -/
def back : List Fo → (List By → Bool × List By) → List By → Bool × List By
  | [], h, q => h q
  | f :: L, h, q => if q = f.k then (f.t, if f.t then f.v else []) else back L h q
def view (D : DU) (q : List By) : Bool × List By := (hasD D q, numD D q)
theorem back_append : ∀ (a b : List Fo) (h : List By → Bool × List By), back (a ++ b) h = back a (back b h)
  | [], b, h => rfl
  | f :: a, b, h => by funext q; show (if q = f.k then _ else back (a ++ b) h q) = _; rw [back_append a b h]; rfl
theorem numD_none {D : DU} {k : List By} (h : hasD D k = false) : numD D k = [] := numD_is (atKey_of_not_has h _) (Nat.zero_le _)
theorem numD_put {D : DU} (h : IsMap D) (k q v : List By) (hv : v.length ≤ maxLen) : numD (D.put (kl k) (.lit (kl v))) q = if q = k then v else numD D q := by
  by_cases e : q = k
  · subst e
    rw [if_pos rfl]
    exact numD_is (atKey_put_same h (show WideAt.IsKeyLit (kl q) from trivial) _ _) hv
  · rw [if_neg e]
    unfold numD
    rw [atKey_put_other (fun e2 => e (by injection e2))]
theorem numD_del (D : DU) (k q : List By) : numD (D.del (kl k)) q = if q = k then [] else numD D q := by
  by_cases e : q = k
  · subst e
    rw [if_pos rfl]
    exact numD_is (atKey_del_same _) (Nat.zero_le _)
  · rw [if_neg e]
    unfold numD
    rw [atKey_del_other (fun e2 => e (by injection e2))]
theorem restD_map {D : DU} (h : IsMap D) (f : Fo) : IsMap (restD D f) := by unfold restD; split; exact h.put _ _; exact h.del _
theorem view_put {D : DU} (h : IsMap D) (k v q : List By) (hv : v.length ≤ maxLen) : view (D.put (kl k) (.lit (kl v))) q = if q = k then (true, v) else view D q := by
  unfold view
  rw [hasD_put h, numD_put h k q v hv]
  by_cases e : q = k <;> simp [e]
theorem view_del (D : DU) (k q : List By) : view (D.del (kl k)) q = if q = k then (false, []) else view D q := by
  unfold view
  rw [hasD_del, numD_del]
  by_cases e : q = k <;> simp [e]
theorem view_restD {D : DU} (h : IsMap D) (f : Fo) (q : List By) : view (restD D f) q = if q = f.k then (f.t, if f.t then f.v else []) else view D q := by
  unfold restD
  cases hf : f.t with
  | true => rw [if_pos rfl, view_put h _ _ _ f.hv]; simp
  | false => rw [if_neg (by decide), view_del]; simp
theorem backs_snd (L : List Fo) : (backs L L.length).map (·.2) = L.reverse := by
  unfold backs
  rw [List.map_map]
  apply List.ext_getElem
  · simp
  · intro i h1 h2
    rw [List.length_reverse] at h2
    simp only [List.getElem_map, List.getElem_range, Function.comp, List.getElem_reverse]
    rw [List.getD_eq_getElem?_getD, List.getElem?_eq_getElem (by omega)]; rfl
theorem undoD_foldr (D : DU) (L : List Fo) : undoD D L = L.foldr (fun f D => restD D f) D := by
  unfold undoD restAll
  have h : ∀ (pre : List (Nat × Fo)) (D : DU), pre.foldl (fun D x => restD D x.2) D = (pre.map (·.2)).foldl restD D := fun pre => by
    induction pre with
    | nil => intro D; rfl
    | cons x pre ih => intro D; exact ih _
  rw [h, backs_snd, List.foldl_reverse]
theorem view_undo {D : DU} (h : IsMap D) (L : List Fo) : view (undoD D L) = back L (view D) := by
  have hm : ∀ L : List Fo, IsMap (L.foldr (fun f D => restD D f) D) := fun L => by
    induction L with
    | nil => exact h
    | cons f L ih => exact restD_map ih f
  funext q
  rw [undoD_foldr]
  induction L with
  | nil => rfl
  | cons f L ih => show view (restD _ f) q = _; rw [view_restD (hm L), ih]; rfl
theorem Tab.isMap {base : Nat} {w : World} {tb : Nat} {D : DU} {J : List Fo} {n : Nat} (h : Tab base w tb D J n) : IsMap D := by obtain ⟨mb, jv, h⟩ := h; exact h.map.isMap
theorem Tab.mem {base : Nat} {w : World} {tb : Nat} {D : DU} {J : List Fo} {n : Nat} (h : Tab base w tb D J n) (q : List By) : q ∈ keysD D ↔ hasD D q = true := by
  obtain ⟨mb, jv, h⟩ := h; unfold keysD; rw [mem_rise]; exact mem_keys h.map q
theorem Tab.keys_len {base : Nat} {w : World} {tb : Nat} {D : DU} {J : List Fo} {n : Nat} (h : Tab base w tb D J n) : (keysD D).length ≤ n := by
  obtain ⟨mb, jv, h⟩ := h
  have h1 := keys_nodup h.map
  have h3 := h.map.size_le
  unfold keysD
  rw [← sort_nodup h1, List.length_mergeSort]
  obtain ⟨es, rfl, -, -⟩ := keys_str h.map
  simpa [strKeys, Maps.size] using h3
/-- all that was done behind D1, J1: undone, it is D1 -/
def Since (D1 : DU) (J1 : List Fo) (base : Nat) (w0 w : World) (tb i n : Nat) : Prop := ∃ (D : DU) (L : List Fo), L.length ≤ i ∧ back L (view D) = view D1 ∧ Tab base w tb D (J1 ++ L) n ∧ Step base w0 w
theorem Since.start {D1 : DU} {J1 : List Fo} {base tb n : Nat} {w : World} (h : Tab base w tb D1 J1 n) : Since D1 J1 base w w tb 0 n := ⟨D1, [], Nat.le_refl _, rfl, by rw [List.append_nil]; exact h, Step.refl _ _⟩
theorem Since.below {D1 : DU} {J1 : List Fo} {base tb i n : Nat} {w0 w w' : World} (h : Since D1 J1 base w0 w tb i n) (hb : Below w.heap.size w w') : Since D1 J1 base w0 w' tb i n := by
  obtain ⟨D, L, h1, h2, h3, h4⟩ := h
  obtain ⟨mb, jv, h3'⟩ := h3
  have := h3'.base_le
  exact ⟨D, L, h1, h2, Tab.below ⟨mb, jv, h3'⟩ hb, h4.trans (Step.of_below hb this)⟩
theorem Since.set {D1 : DU} {J1 : List Fo} {base tb i n : Nat} {w0 w : World} (h : Since D1 J1 base w0 w tb i n) (hJ : J1.length + i ≤ 1000) (hn : n ≤ 1000) (k : List By) (hk : k.length ≤ maxLen) (v : List By) (hv : v.length ≤ maxLen) :
    Calls Try.prog 27 #[.pointer (some ⟨tb, 0, none⟩), vs k, vs v] w fun e w' => e = .returned (.tuple #[]) ∧ Since D1 J1 base w0 w' tb (i + 1) (n + 1) := by
  obtain ⟨D, L, h1, h2, h3, h4⟩ := h
  refine (set_any h3 k hk v hv (by rw [List.length_append]; omega) hn).mono fun e w' he => ?_
  obtain ⟨e1, e2, e3⟩ := he
  rw [List.append_assoc] at e2
  refine ⟨e1, _, _, by rw [List.length_append]; exact Nat.succ_le_succ h1, ?_, e2, h4.trans e3⟩
  rw [back_append, ← h2]
  congr 1
  funext q
  show (if q = k then (hasD D k, if hasD D k = true then numD D k else []) else view (D.put (kl k) _) q) = view D q
  rw [view_put h3.isMap k v q hv]
  by_cases e : q = k
  · subst e
    rw [if_pos rfl]
    unfold view
    cases hh : hasD D q with
    | true => rw [if_pos rfl]
    | false => rw [if_neg (by decide), numD_none hh]
  · rw [if_neg e, if_neg e]
theorem Since.drop {D1 : DU} {J1 : List Fo} {base tb i n : Nat} {w0 w : World} (h : Since D1 J1 base w0 w tb i n) (hJ : J1.length + i ≤ 1000) (k : List By) (hk : k.length ≤ maxLen) :
    Calls Try.prog 31 #[.pointer (some ⟨tb, 0, none⟩), vs k] w fun e w' => (∃ b, e = .returned (.bool b)) ∧ Since D1 J1 base w0 w' tb (i + 1) (n + 1) := by
  obtain ⟨D, L, h1, h2, h3, h4⟩ := h
  refine (drop_any h3 k hk (by rw [List.length_append]; omega)).mono fun e w' he => ?_
  obtain ⟨e1, e2, e3⟩ := he
  refine ⟨⟨_, e1⟩, ?_⟩
  unfold dropJ at e2
  have hmo : ∀ {D' : DU} {J' : List Fo}, Tab base w' tb D' J' n → Tab base w' tb D' J' (n + 1) := fun h => by
    obtain ⟨mb, jv, h⟩ := h; exact ⟨mb, jv, h.blk, h.tbase, h.mbase, h.map.mono (Nat.le_succ n), h.row⟩
  cases hh : hasD D k with
  | true =>
    rw [if_pos hh, List.append_assoc] at e2
    refine ⟨_, _, by rw [List.length_append]; exact Nat.succ_le_succ h1, ?_, hmo e2, h4.trans e3⟩
    rw [back_append, ← h2]
    congr 1
    funext q
    show (if q = k then (hasD D k, if hasD D k = true then numD D k else []) else view (D.del (kl k)) q) = view D q
    rw [view_del]
    by_cases e : q = k
    · subst e; rw [if_pos rfl]; unfold view; rw [hh, if_pos rfl]
    · rw [if_neg e, if_neg e]
  | false =>
    rw [if_neg (by rw [hh]; decide)] at e2
    refine ⟨_, L, by omega, ?_, hmo e2, h4.trans e3⟩
    rw [← h2]
    congr 1
    funext q
    rw [view_del]
    by_cases e : q = k
    · subst e; rw [if_pos rfl]; unfold view; rw [hh, numD_none hh]
    · rw [if_neg e]
/-- Undo at the mark: all is as it was -/
theorem Since.undo {D1 : DU} {J1 : List Fo} {base tb i n : Nat} {w0 w : World} (h : Since D1 J1 base w0 w tb i n) (hJ : J1.length + i ≤ 1000) (hn : n ≤ 50000) (h0 : ∀ q, q ∈ keysD D1 ↔ hasD D1 q = true) :
    Calls Try.prog 32 #[.pointer (some ⟨tb, 0, none⟩), .int .i64 (J1.length : Nat)] w fun e w' => e = .returned (.tuple #[]) ∧ ∃ D3, view D3 = view D1 ∧ keysD D3 = keysD D1 ∧ Tab base w' tb D3 J1 (n + 1000) ∧ Step base w0 w' := by
  obtain ⟨D, L, h1, h2, h3, h4⟩ := h
  refine (undo_all h3 (J1.length : Nat) (by omega) (by rw [List.length_append]; omega) hn).mono fun e w' he => ?_
  obtain ⟨e1, e2, e3⟩ := he
  rw [Int.toNat_natCast, List.drop_left, List.take_left] at e2
  have hv : view (undoD D L) = view D1 := by rw [view_undo h3.isMap, h2]
  refine ⟨e1, _, hv, ?_, e2, h4.trans e3⟩
  refine rises_ext (by unfold keysD; exact rise_rises _) (by unfold keysD; exact rise_rises _) fun q => ?_
  rw [e2.mem, h0]
  have := congrArg Prod.fst (congrFun hv q)
  unfold view at this
  dsimp only at this
  rw [this]
theorem row_step {w w' : World} {base b e n : Nat} {v : Value} {xs : List Value} (h : w.ownsRow base e 1 v n xs) (hs : Step b w w') (h1 : e ≠ 86) (h2 : e ≠ 92) : w'.ownsRow base e 1 v n xs := by
  refine ownsRow_keep h fun k hk => ?_
  obtain ⟨-, cs, hc⟩ := row_type h hk
  rw [hc]
  exact hs.other k _ hc (by simp; omega) (by simp; omega) (by simp)
set_option maxHeartbeats 1000000 in
set_option maxRecDepth 100000 in
theorem key_any (d : By) (k : List By) (v : Int) (b : Bool) (w : World) (hk : k.length ≤ maxLen) : Calls Try.prog 11 #[.agg #[vb d, vs k, .int .i64 v], .bool b] w fun e w' => (∃ s : List By, s.length ≤ maxLen ∧ e = .returned (vs s)) ∧ Below w.heap.size w w' := by
  cases b with
  | true => exact (key_near d k v w).mono fun e w' h => ⟨⟨[nearB d], by unfold maxLen; simp, h.1⟩, h.2⟩
  | false =>
    have h : Calls Try.prog 11 #[.agg #[vb d, vs k, .int .i64 v], .bool false] w fun e w' => e = .returned (vs k) ∧ Below w.heap.size w w' := by
      clear hk
      go_enter Try.func11, Try.ntmps11
      go_wp2_with fail
      go_ret
      exact ⟨rfl, (Below.refl _ _).alloc (Nat.le_refl _) _⟩
    exact h.mono fun e w' h => ⟨⟨k, hk, h.1⟩, h.2⟩
theorem keys_le {w : World} {b n : Nat} {D : DU} (h : w.ownsMap Try.prog 9 (plainElem (H := Unit) Try.prog 9) b n D) : ∀ q ∈ strKeys D, q.length ≤ maxLen := by
  obtain ⟨es, hes, -⟩ := h.tidy key9
  obtain ⟨es0, clock, hb, F, hs, hD⟩ := h
  subst hes
  injection hD with hD
  intro q hq
  unfold strKeys at hq
  obtain ⟨p, hp, rfl⟩ := List.mem_map.1 hq
  rw [hD] at hp
  have hp := (sorted_perm _).mem_iff.1 hp
  obtain ⟨x, hx, rfl⟩ := List.mem_map.1 hp
  obtain ⟨y, hy⟩ := F.reads x hx
  rw [Go.WideElems.rg_of hy]
  obtain ⟨s, -, hl, hs⟩ := string_of_keyOf Try.underlying9 (Go.WideElems.rd_key hy)
  rw [hl]
  show s.data.toList.length ≤ maxLen
  rw [Array.length_toList]; exact hs
theorem Tab.keys_le {base : Nat} {w : World} {tb : Nat} {D : DU} {J : List Fo} {n : Nat} (h : Tab base w tb D J n) : ∀ q ∈ keysD D, q.length ≤ maxLen := by
  obtain ⟨mb, jv, h⟩ := h
  intro q hq
  unfold keysD at hq
  rw [mem_rise] at hq
  exact St.keys_le h.map q hq
end Go.Proofs.Ytmblcccfpjmjfaa.St
