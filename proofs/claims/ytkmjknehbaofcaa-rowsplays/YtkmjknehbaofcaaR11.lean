/- What undoing comes to, as mathematics; rows of numbers and of keys beside a table. -/
import Derived.Test.YtkmjknehbaofcaaR10
namespace Go.Proofs.Ytkmjknehbaofcaa
open Go.RowKit Go.Maps Go.WideShapes Go.MapKept Go.WideMaps Go.ChangeMaps BaseMath WireMath NameMath ScanMath

/-- is a key there, once all that is undone? -/
def back : List Fo → (List By → Bool) → List By → Bool
  | [], h, q => h q
  | f :: L, h, q => if q = f.k then f.t else back L h q
theorem back_append : ∀ (a b : List Fo) (h : List By → Bool), back (a ++ b) h = back a (back b h)
  | [], b, h => rfl
  | f :: a, b, h => by funext q; show (if q = f.k then f.t else back (a ++ b) h q) = _; rw [back_append a b h]; rfl
theorem restD_map {D : DU} (h : IsMap D) (f : Fo) : IsMap (restD D f) := by unfold restD; split; exact h.put _ _; exact h.del _
theorem hasD_restD {D : DU} (h : IsMap D) (f : Fo) (q : List By) : hasD (restD D f) q = if q = f.k then f.t else hasD D q := by
  unfold restD
  cases hf : f.t with
  | true => rw [if_pos rfl, hasD_put h]; by_cases e : q = f.k <;> simp [e]
  | false => rw [if_neg (by decide), hasD_del]; by_cases e : q = f.k <;> simp [e]
theorem backs_snd (L : List Fo) : (backs L L.length).map (·.2) = L.reverse := by
  unfold backs
  rw [List.map_map]
  apply List.ext_getElem
  · simp
  · intro i h1 h2
    rw [List.length_reverse] at h2
    simp only [List.getElem_map, List.getElem_range, Function.comp, List.getElem_reverse]
    rw [List.getD_eq_getElem?_getD, List.getElem?_eq_getElem (by omega)]; rfl
theorem undoD_foldr (D : DU) (L : List Fo) : undoD D L = L.foldr (fun f D => restD D f) D := by
  unfold undoD restAll
  have h : ∀ (pre : List (Nat × Fo)) (D : DU), pre.foldl (fun D x => restD D x.2) D = (pre.map (·.2)).foldl restD D := fun pre => by
    induction pre with
    | nil => intro D; rfl
    | cons x pre ih => intro D; exact ih _
  rw [h, backs_snd, List.foldl_reverse]
theorem undoD_map {D : DU} (h : IsMap D) : ∀ L : List Fo, IsMap (undoD D L) := fun L => by
  rw [undoD_foldr]
  induction L with
  | nil => exact h
  | cons f L ih => exact restD_map ih f
theorem hasD_undo {D : DU} (h : IsMap D) (L : List Fo) : hasD (undoD D L) = back L (hasD D) := by
  funext q
  have hm : ∀ L : List Fo, IsMap (L.foldr (fun f D => restD D f) D) := fun L => by rw [← undoD_foldr]; exact undoD_map h L
  rw [undoD_foldr]
  induction L with
  | nil => rfl
  | cons f L ih => show hasD (restD _ f) q = _; rw [hasD_restD (hm L), ih]; rfl
theorem Tab.isMap {base : Nat} {w : World} {tb : Nat} {D : DU} {J : List Fo} {n : Nat} (h : Tab base w tb D J n) : IsMap D := by obtain ⟨mb, jv, h⟩ := h; exact h.map.isMap
theorem Tab.mem {base : Nat} {w : World} {tb : Nat} {D : DU} {J : List Fo} {n : Nat} (h : Tab base w tb D J n) (q : List By) : q ∈ keysD D ↔ hasD D q = true := by
  obtain ⟨mb, jv, h⟩ := h; unfold keysD; rw [mem_rise]; exact mem_keys h.map q
theorem Tab.size_none {base : Nat} {w : World} {tb : Nat} {D : DU} {J : List Fo} {n : Nat} (h : Tab base w tb D J n) (h0 : ∀ q, hasD D q = false) : Maps.size D = 0 := by
  have hk : keysD D = [] := List.eq_nil_iff_forall_not_mem.2 fun q hq => by rw [h.mem, h0] at hq; cases hq
  obtain ⟨mb, jv, h⟩ := h
  have h1 := keys_nodup h.map
  unfold keysD at hk
  rw [← sort_nodup h1] at hk
  have h2 := congrArg List.length hk
  rw [List.length_mergeSort] at h2
  obtain ⟨es, rfl, -, -⟩ := keys_str h.map
  simpa [strKeys, Maps.size] using h2
/-- A Set, or a Drop: what undoing it comes to -/
theorem set_u {base : Nat} {w : World} {tb : Nat} {D : DU} {J : List Fo} {n : Nat} (h : Tab base w tb D J n) (k : List By) (hk : k.length ≤ maxLen) (v : Int) (hv : (Lit.int .i64 v).wf = true) (hJ : J.length ≤ 1000) (hn : n ≤ 500000) :
    Calls Try.prog 12 #[.pointer (some ⟨tb, 0, none⟩), vs k, .int .i64 v] w fun e w' => e = .returned (.tuple #[]) ∧ (∃ (D' : DU) (L : List Fo), L.length ≤ 1 ∧ back L (hasD D') = hasD D ∧ Tab base w' tb D' (J ++ L) (n + 1)) ∧ Step base w w' := by
  have hmap := h.isMap
  refine (set_any h k hk v hv hJ hn).mono fun e w' he => ⟨he.1, ⟨_, [⟨k, numD D k, hasD D k, hk, numD_wf D k⟩], Nat.le_refl 1, ?_, he.2.1⟩, he.2.2⟩
  funext q
  show (if q = k then hasD D k else hasD (D.put (kl k) _) q) = _
  rw [hasD_put hmap]
  by_cases e : q = k <;> simp [e]
theorem drop_u {base : Nat} {w : World} {tb : Nat} {D : DU} {J : List Fo} {n : Nat} (h : Tab base w tb D J n) (k : List By) (hk : k.length ≤ maxLen) (hJ : J.length ≤ 1000) :
    Calls Try.prog 15 #[.pointer (some ⟨tb, 0, none⟩), vs k] w fun e w' => (∃ b, e = .returned (.bool b)) ∧ (∃ (D' : DU) (L : List Fo), L.length ≤ 1 ∧ back L (hasD D') = hasD D ∧ Tab base w' tb D' (J ++ L) (n + 1)) ∧ Step base w w' := by
  refine (drop_any h k hk hJ).mono fun e w' he => ⟨⟨_, he.1⟩, ?_, he.2.2⟩
  have ht := he.2.1
  unfold dropJ at ht
  cases hh : hasD D k with
  | true =>
    rw [if_pos hh] at ht
    refine ⟨_, [⟨k, numD D k, hasD D k, hk, numD_wf D k⟩], Nat.le_refl 1, ?_, ht.mono (Nat.le_succ n)⟩
    funext q
    show (if q = k then hasD D k else hasD (D.del (kl k)) q) = _
    rw [hasD_del]
    by_cases e : q = k <;> simp [e]
  | false =>
    rw [if_neg (by rw [hh]; decide)] at ht
    refine ⟨_, [], Nat.zero_le 1, ?_, by rw [List.append_nil]; exact ht.mono (Nat.le_succ n)⟩
    funext q
    show hasD (D.del (kl k)) q = _
    rw [hasD_del]
    by_cases e : q = k
    · subst e; rw [hh]; simp
    · simp [e]
/-- marks, and the keys that were there -/
structure Inv (ms : List Nat) (Ks : List (List (List By))) (c : Nat) (D : DU) (J : List Fo) : Prop where
  len : ms.length = Ks.length
  le : ∀ j (h : j < ms.length), j < c → ms[j] ≤ J.length
  rises : ∀ j (h : j < Ks.length), Rises Ks[j]
  mem : ∀ j (h : j < ms.length) (h2 : j < Ks.length), j < c → ∀ q, q ∈ Ks[j] ↔ back (J.drop ms[j]) (hasD D) q = true
  mono : ∀ i j (hi : i < ms.length) (hj : j < ms.length), i ≤ j → ms[i] ≤ ms[j]
  first : ∀ h : 0 < ms.length, ms[0] = 0
  none : ∀ q, back J (hasD D) q = false
theorem Inv.start : Inv [] [] 0 (.map [] : DU) [] := ⟨rfl, fun j h => absurd h (by simp), fun j h => absurd h (by simp), fun j h => absurd h (by simp), fun i j hi => absurd hi (by simp), fun h => absurd h (by simp), fun q => by simp [back, hasD, Maps.has]⟩
theorem Inv.more {ms : List Nat} {Ks : List (List (List By))} {c : Nat} {D D' : DU} {J L : List Fo} (h : Inv ms Ks c D J) (hb : back L (hasD D') = hasD D) : Inv ms Ks c D' (J ++ L) := by
  refine ⟨h.len, fun j hj hc => by rw [List.length_append]; have := h.le j hj hc; omega, h.rises, fun j hj h2 hc q => ?_, h.mono, h.first, fun q => ?_⟩
  · rw [List.drop_append_of_le_length (h.le j hj hc), back_append, hb]; exact h.mem j hj h2 hc q
  · rw [back_append, hb]; exact h.none q
theorem Inv.push {ms : List Nat} {Ks : List (List (List By))} {D : DU} {J : List Fo} {K : List (List By)} (h : Inv ms Ks ms.length D J) (hJ : ms.length = 0 → J = []) (hr : Rises K) (hm : ∀ q, q ∈ K ↔ hasD D q = true) : Inv (ms ++ [J.length]) (Ks ++ [K]) (ms ++ [J.length]).length D J := by
  have hlen := h.len
  have hg : ∀ j (hj : j < (ms ++ [J.length]).length), (j < ms.length ∧ ∀ hl : j < ms.length, (ms ++ [J.length])[j] = ms[j]) ∨ (j = ms.length ∧ (ms ++ [J.length])[j] = J.length) := fun j hj => by
    by_cases e : j < ms.length
    · exact .inl ⟨e, fun hl => List.getElem_append_left hl⟩
    · have : j = ms.length := by rw [List.length_append] at hj; simp at hj; omega
      subst this
      exact .inr ⟨rfl, by simp⟩
  refine ⟨by rw [List.length_append, List.length_append, hlen]; rfl, fun j hj _ => ?_, fun j hj => ?_, fun j hj h2 _ q => ?_, fun i j hi hj hij => ?_, fun h0 => ?_, h.none⟩
  · rcases hg j hj with ⟨e, he⟩ | ⟨e, he⟩
    · rw [he e]; exact h.le j e e
    · rw [he]; exact Nat.le_refl _
  · by_cases e : j < Ks.length
    · rw [List.getElem_append_left e]; exact h.rises j e
    · have : j = Ks.length := by rw [List.length_append] at hj; simp at hj; omega
      subst this; simpa using hr
  · rcases hg j hj with ⟨e, he⟩ | ⟨e, he⟩
    · rw [he e, List.getElem_append_left (by omega)]; exact h.mem j e (by omega) e q
    · have h3 : (Ks ++ [K])[j] = K := by rw [List.getElem_append_right (by omega)]; simp
      rw [he, h3, List.drop_length]; exact hm q
  · rcases hg i hi with ⟨e, he⟩ | ⟨e, he⟩ <;> rcases hg j hj with ⟨e2, he2⟩ | ⟨e2, he2⟩
    · rw [he e, he2 e2]; exact h.mono i j e e2 hij
    · rw [he e, he2]; exact h.le i e e
    · omega
    · rw [he, he2]; exact Nat.le_refl _
  · by_cases e : 0 < ms.length
    · rw [List.getElem_append_left e]; exact h.first e
    · have e0 : ms = [] := List.eq_nil_of_length_eq_zero (by omega)
      subst e0
      rw [hJ rfl]; rfl
theorem Inv.undo {ms : List Nat} {Ks : List (List (List By))} {c : Nat} {D : DU} {J : List Fo} (h : Inv ms Ks (c + 1) D J) (hmap : IsMap D) (hc : c < ms.length) : Inv ms Ks (c + 1) (undoD D (J.drop ms[c])) (J.take ms[c]) := by
  have hle := h.le c hc (by omega)
  have hb : ∀ j, j ≤ ms[c] → back ((J.take ms[c]).drop j) (hasD (undoD D (J.drop ms[c]))) = back (J.drop j) (hasD D) := fun j hj => by
    rw [hasD_undo hmap, ← back_append]
    congr 1
    conv => rhs; rw [← List.take_append_drop ms[c] J]
    rw [List.drop_append_of_le_length (by rw [List.length_take]; omega)]
  refine ⟨h.len, fun j hj hjc => ?_, h.rises, fun j hj h2 hjc q => ?_, h.mono, h.first, fun q => ?_⟩
  · rw [List.length_take]; have := h.mono j c hj hc (by omega); omega
  · rw [hb _ (h.mono j c hj hc (by omega))]; exact h.mem j hj h2 hjc q
  · have := hb 0 (Nat.zero_le _); rw [List.drop_zero, List.drop_zero] at this; rw [this]; exact h.none q
end Go.Proofs.Ytkmjknehbaofcaa
