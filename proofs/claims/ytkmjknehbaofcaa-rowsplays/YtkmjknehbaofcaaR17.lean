/- What undoing comes to in a table of ints, with values; the reference's tables as mathematics. -/
import Derived.Test.YtkmjknehbaofcaaR13
import Derived.Test.YtkmjknehbaofcaaR16
namespace Go.Proofs.Ytkmjknehbaofcaa
open Go.RowKit Go.Maps Go.WideShapes Go.MapKept Go.WideMaps Go.ChangeMaps BaseMath WireMath NameMath ScanMath

/-- what a key has, and whether it is there, once all that is undone -/
def bk : List Fo → (List By → Int × Bool) → List By → Int × Bool
  | [], h, q => h q
  | f :: L, h, q => if q = f.k then (if f.t then f.v else 0, f.t) else bk L h q
def vw (D : DU) (q : List By) : Int × Bool := (numD D q, hasD D q)
theorem bk_append : ∀ (a b : List Fo) (h : List By → Int × Bool), bk (a ++ b) h = bk a (bk b h)
  | [], b, h => rfl
  | f :: a, b, h => by funext q; show (if q = f.k then _ else bk (a ++ b) h q) = _; rw [bk_append a b h]; rfl
theorem numD_none {D : DU} {k : List By} (h : hasD D k = false) : numD D k = 0 := numD_is (atKey_of_not_has h _) (by decide)
theorem numD_put {D : DU} (h : IsMap D) (k q : List By) (v : Int) (hv : (Lit.int .i64 v).wf = true) : numD (D.put (kl k) (.lit (.int .i64 v))) q = if q = k then v else numD D q := by
  by_cases e : q = k
  · subst e
    rw [if_pos rfl]
    exact numD_is (atKey_put_same h (show WideAt.IsKeyLit (kl q) from trivial) _ _) hv
  · rw [if_neg e]
    unfold numD
    rw [atKey_put_other (fun e2 => e (by injection e2))]
theorem numD_del (D : DU) (k q : List By) : numD (D.del (kl k)) q = if q = k then 0 else numD D q := by
  by_cases e : q = k
  · subst e
    rw [if_pos rfl]
    exact numD_is (atKey_del_same _) (by decide)
  · rw [if_neg e]
    unfold numD
    rw [atKey_del_other (fun e2 => e (by injection e2))]
theorem vw_put {D : DU} (h : IsMap D) (k q : List By) (v : Int) (hv : (Lit.int .i64 v).wf = true) : vw (D.put (kl k) (.lit (.int .i64 v))) q = if q = k then (v, true) else vw D q := by
  unfold vw
  rw [hasD_put h, numD_put h k q v hv]
  by_cases e : q = k <;> simp [e]
theorem vw_del (D : DU) (k q : List By) : vw (D.del (kl k)) q = if q = k then (0, false) else vw D q := by
  unfold vw
  rw [hasD_del, numD_del]
  by_cases e : q = k <;> simp [e]
theorem vw_restD {D : DU} (h : IsMap D) (f : Fo) (q : List By) : vw (restD D f) q = if q = f.k then (if f.t then f.v else 0, f.t) else vw D q := by
  unfold restD
  cases hf : f.t with
  | true => rw [if_pos rfl, vw_put h _ _ _ f.hv]; simp
  | false => rw [if_neg (by decide), vw_del]; simp
theorem vw_undo {D : DU} (h : IsMap D) (L : List Fo) : vw (undoD D L) = bk L (vw D) := by
  rw [undoD_foldr]
  induction L with
  | nil => rfl
  | cons f L ih =>
    funext q
    have hm : IsMap (L.foldr (fun f D => restD D f) D) := by rw [← undoD_foldr]; exact undoD_map h L
    rw [List.foldr_cons, vw_restD hm, ih]
    rfl
/-- what puts back what a change put out of its place -/
theorem bk_one {D : DU} {D' : DU} {f : Fo} (hf : f.v = numD D f.k ∧ f.t = hasD D f.k) (h : ∀ q, q ≠ f.k → vw D' q = vw D q) : bk [f] (vw D') = vw D := by
  funext q
  show (if q = f.k then (if f.t then f.v else 0, f.t) else vw D' q) = vw D q
  by_cases e : q = f.k
  · rw [if_pos e, e]
    unfold vw
    rw [hf.1, hf.2]
    cases hh : hasD D f.k with
    | true => rfl
    | false => rw [numD_none hh]; rfl
  · rw [if_neg e]; exact h q e

/- the reference's tables -/
theorem findR_snoc (l : List It) (k : List By) (v : Int) (q : List By) : findR (withoutR l k ++ [(k, v)]) q = if q = k then (v, true) else findR l q := by
  unfold findR withoutR
  rw [List.find?_append]
  by_cases e : q = k
  · subst e
    have : (l.filter fun x => !decide (x.1 = q)).find? (fun x => decide (x.1 = q)) = none := by
      rw [List.find?_eq_none]
      intro x hx
      have := (List.mem_filter.1 hx).2
      simpa using this
    rw [this]; simp
  · have h1 : (l.filter fun x => !decide (x.1 = k)).find? (fun x => decide (x.1 = q)) = l.find? (fun x => decide (x.1 = q)) := by
      rw [List.find?_filter]
      congr 1
      funext x
      by_cases e2 : x.1 = q
      · simp [e2, e]
      · simp [e2]
    have h2 : ([(k, v)] : List It).find? (fun x => decide (x.1 = q)) = none := by
      rw [List.find?_eq_none]; intro x hx
      obtain rfl : x = (k, v) := by simpa using hx
      simpa using fun e2 : k = q => e e2.symm
    rw [h1, h2, if_neg e]
    simp
theorem findR_without (l : List It) (k q : List By) : findR (withoutR l k) q = if q = k then (0, false) else findR l q := by
  unfold findR withoutR
  by_cases e : q = k
  · subst e
    have : (l.filter fun x => !decide (x.1 = q)).find? (fun x => decide (x.1 = q)) = none := by
      rw [List.find?_eq_none]
      intro x hx
      have := (List.mem_filter.1 hx).2
      simpa using this
    rw [this]; simp
  · have h1 : (l.filter fun x => !decide (x.1 = k)).find? (fun x => decide (x.1 = q)) = l.find? (fun x => decide (x.1 = q)) := by
      rw [List.find?_filter]
      congr 1
      funext x
      by_cases e2 : x.1 = q
      · simp [e2, e]
      · simp [e2]
    rw [h1, if_neg e]
def keysR (l : List It) : List (List By) := l.map (·.1)
theorem keysR_without (l : List It) (k : List By) : keysR (withoutR l k) = (keysR l).filter fun x => !decide (x = k) := by
  unfold keysR withoutR
  rw [List.filter_map]; rfl
theorem nodup_without {l : List It} (h : (keysR l).Nodup) (k : List By) : (keysR (withoutR l k)).Nodup := by rw [keysR_without]; exact h.filter _
theorem nodup_snoc {l : List It} (h : (keysR l).Nodup) (k : List By) (v : Int) : (keysR (withoutR l k ++ [(k, v)])).Nodup := by
  have hk : keysR (withoutR l k ++ [(k, v)]) = keysR (withoutR l k) ++ [k] := by unfold keysR; simp
  rw [hk, List.nodup_append]
  refine ⟨nodup_without h k, by simp, fun a ha b hb => ?_⟩
  obtain rfl : b = k := by simpa using hb
  rw [keysR_without] at ha
  have := (List.mem_filter.1 ha).2
  simpa using this
theorem mem_keysR (l : List It) (q : List By) : q ∈ keysR l ↔ (findR l q).2 = true := by
  unfold findR keysR
  cases h : l.find? (fun x => decide (x.1 = q)) with
  | none =>
    rw [List.find?_eq_none] at h
    constructor
    · intro hm
      obtain ⟨x, hx, rfl⟩ := List.mem_map.1 hm
      exact absurd (by simp) (h x hx)
    · intro e; cases e
  | some x =>
    have h1 := List.find?_some h
    have h2 := List.mem_of_find?_eq_some h
    exact ⟨fun _ => rfl, fun _ => List.mem_map.2 ⟨x, h2, by simpa using h1⟩⟩
theorem rise_length {l : List (List By)} (h : l.Nodup) : (rise l).length = l.length := by rw [← sort_nodup h, List.length_mergeSort]

/-- the table and the reference's say the same -/
structure Says (D : DU) (J : List Fo) (l : List It) (was : List (List It)) : Prop where
  map : IsMap D
  len : was.length = J.length
  now : ∀ q, findR l q = vw D q
  ahead : ∀ i (h : i < was.length) q, findR was[i] q = bk (J.drop i) (vw D) q
  once : (keysR l).Nodup
  onces : ∀ i (h : i < was.length), (keysR was[i]).Nodup
theorem Says.start : Says (.map [] : DU) [] [] [] := ⟨⟨[], rfl⟩, rfl, fun q => by
  have hh : hasD (.map [] : DU) q = false := by simp [hasD, Maps.has]
  unfold vw; rw [hh, numD_none hh]; rfl, fun i h => absurd h (by simp), by simp [keysR], fun i h => absurd h (by simp)⟩
theorem Says.step {D D' : DU} {J : List Fo} {l l' : List It} {was : List (List It)} {f : Fo} (h : Says D J l was) (hm : IsMap D') (hb : bk [f] (vw D') = vw D) (hn : ∀ q, findR l' q = vw D' q) (ho : (keysR l').Nodup) : Says D' (J ++ [f]) l' (was ++ [l]) := by
  refine ⟨hm, by simp [h.len], hn, fun i hi q => ?_, ho, fun i hi => ?_⟩
  · by_cases e : i < was.length
    · rw [List.getElem_append_left e, h.ahead i e q, List.drop_append_of_le_length (by rw [← h.len]; omega), bk_append, hb]
    · have hi2 : i = was.length := by simp at hi; omega
      subst hi2
      rw [List.getElem_append_right (Nat.le_refl _)]
      simp only [Nat.sub_self, List.getElem_cons_zero]
      rw [h.len, List.drop_left, hb]; exact h.now q
  · by_cases e : i < was.length
    · rw [List.getElem_append_left e]; exact h.onces i e
    · have hi2 : i = was.length := by simp at hi; omega
      subst hi2
      rw [List.getElem_append_right (Nat.le_refl _)]
      simp only [Nat.sub_self, List.getElem_cons_zero]
      exact h.once
theorem Says.set {D : DU} {J : List Fo} {l : List It} {was : List (List It)} (h : Says D J l was) (k : List By) (hk : k.length ≤ maxLen) (v : Int) (hv : (Lit.int .i64 v).wf = true) :
    Says (D.put (kl k) (.lit (.int .i64 v))) (J ++ [⟨k, numD D k, hasD D k, hk, numD_wf D k⟩]) (withoutR l k ++ [(k, v)]) (was ++ [l]) :=
  h.step (h.map.put _ _) (bk_one ⟨rfl, rfl⟩ fun q e => by rw [vw_put h.map _ _ _ hv, if_neg e]) (fun q => by rw [findR_snoc, vw_put h.map _ _ _ hv, h.now]) (nodup_snoc h.once k v)
theorem Says.drop {D : DU} {J : List Fo} {l : List It} {was : List (List It)} (h : Says D J l was) (k : List By) (hk : k.length ≤ maxLen) (hh : hasD D k = true) :
    Says (D.del (kl k)) (dropJ D J k hk) (withoutR l k) (was ++ [l]) := by
  unfold dropJ
  rw [if_pos hh]
  exact h.step (h.map.del _) (bk_one ⟨rfl, rfl⟩ fun q e => by rw [vw_del, if_neg e]) (fun q => by rw [findR_without, vw_del, h.now]) (nodup_without h.once k)
theorem Says.undo {D : DU} {J : List Fo} {l : List It} {was : List (List It)} (h : Says D J l was) (m : Nat) (hm : m < was.length) : Says (undoD D (J.drop m)) (J.take m) was[m] (was.take m) := by
  have hmJ : m < J.length := by rw [← h.len]; exact hm
  refine ⟨undoD_map h.map _, by simp [h.len], fun q => by rw [vw_undo h.map]; exact h.ahead m hm q, fun i hi q => ?_, h.onces m hm, fun i hi => ?_⟩
  · have hi2 : i < m := by simp at hi; omega
    rw [List.getElem_take, h.ahead i (by omega) q, vw_undo h.map, ← bk_append, ← List.drop_append_of_le_length (by simp; omega), List.take_append_drop]
  · rw [List.getElem_take]; exact h.onces i _
theorem Says.idle {D : DU} {J : List Fo} {l : List It} {was : List (List It)} (h : Says D J l was) (m : Nat) (hm : was.length ≤ m) : Says (undoD D (J.drop m)) (J.take m) l was := by
  have hd : J.drop m = [] := List.drop_eq_nil_of_le (by rw [← h.len]; exact hm)
  have ht : J.take m = J := List.take_of_length_le (by rw [← h.len]; exact hm)
  rw [hd, ht, undoD_nil]; exact h
theorem Says.done {D : DU} {J : List Fo} {l : List It} {was : List (List It)} (h : Says D J l was) : Says D [] l [] := ⟨h.map, rfl, h.now, fun i h => absurd h (by simp), h.once, fun i h => absurd h (by simp)⟩
theorem Says.keys {base : Nat} {w : World} {tb n : Nat} {D : DU} {J J2 : List Fo} {l : List It} {was : List (List It)} (h : Says D J l was) (ht : Tab base w tb D J2 n) : keysD D = rise (keysR l) ∧ Maps.size D = l.length := by
  have hk : keysD D = rise (keysR l) := by
    refine rises_ext (rise_rises _) (rise_rises _) fun q => ?_
    show q ∈ keysD D ↔ _
    rw [ht.mem, mem_rise, mem_keysR, h.now]; rfl
  refine ⟨hk, ?_⟩
  obtain ⟨mb, jv, hh⟩ := ht
  rw [← keys_size2 hh.map, hk, rise_length h.once]; simp [keysR]
end Go.Proofs.Ytkmjknehbaofcaa
