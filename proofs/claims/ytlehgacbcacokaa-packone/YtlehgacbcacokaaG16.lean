/- Trees but for where they lie. No program is named. -/
import Derived.Test.YtlehgacbcacokaaG2
import Derived.Test.YtlehgacbcacokaaG15
namespace TreeMath
open Go RealMath

def eraseH (x : Hd) : Hd := ⟨x.kind, none, 0, x.names, none, 0, none, 0, x.data, x.run, x.stamp, x.target⟩
mutual
/-- but for where it lies -/
def erase : T → T
  | .mk x ks => .mk (eraseH x) (eraseL ks)
def eraseL : List T → List T
  | [] => []
  | k :: l => erase k :: eraseL l
end
theorem eraseL_map : ∀ l, eraseL l = l.map erase
  | [] => rfl
  | k :: l => by rw [eraseL, List.map_cons, eraseL_map l]
theorem eraseL_length (l : List T) : (eraseL l).length = l.length := by rw [eraseL_map]; simp
theorem eraseL_append (a b : List T) : eraseL (a ++ b) = eraseL a ++ eraseL b := by simp [eraseL_map]
mutual
theorem all_erase : ∀ t, all (erase t) = (all t).map erase
  | .mk x ks => by rw [erase, all, all, List.map_cons, allL_erase ks, erase]
theorem allL_erase : ∀ l, allL (eraseL l) = (allL l).map erase
  | [] => rfl
  | k :: l => by rw [eraseL, allL, allL, List.map_append, all_erase k, allL_erase l]
end
theorem count_erase (t : T) : count (erase t) = count t := by unfold count; rw [all_erase]; simp
mutual
theorem depth_erase : ∀ t, depth (erase t) = depth t
  | .mk x ks => by rw [erase, depth, depth, depthL_erase ks]
theorem depthL_erase : ∀ l, depthL (eraseL l) = depthL l
  | [] => rfl
  | k :: l => by rw [eraseL, depthL, depthL, depth_erase k, depthL_erase l]
end
theorem fits_erase (t : T) : fitsB (erase t) = fitsB t := by
  cases t with
  | mk x ks => rw [erase, fitsB, fitsB, eraseL_length]; rfl
mutual
theorem same_erase : ∀ a b, same (erase a) (erase b) = same a b
  | .mk x ks, .mk y ls => by rw [erase, erase, same, same, sameL_erase ks ls]; rfl
theorem sameL_erase : ∀ a b, sameL (eraseL a) (eraseL b) = sameL a b
  | [], [] => by simp [eraseL]
  | a :: l, b :: m => by rw [eraseL, eraseL, sameL, sameL, same_erase a b, sameL_erase l m]
  | [], _ :: _ => by simp [eraseL, sameL]
  | _ :: _, [] => by simp [eraseL, sameL]
end
mutual
theorem same_refl : ∀ t, same t t = true
  | .mk x ks => by rw [same, sameL_refl ks]; simp [hdSame]
theorem sameL_refl : ∀ l, sameL l l = true
  | [] => by rw [sameL]
  | k :: l => by rw [sameL, same_refl k, sameL_refl l]; rfl
end
theorem same_of_erase {a b : T} (h : erase a = erase b) : same a b = true := by rw [← same_erase, h, same_refl]
mutual
theorem erase_erase : ∀ t, erase (erase t) = erase t
  | .mk x ks => by rw [erase, erase, eraseL_eraseL ks]; rfl
theorem eraseL_eraseL : ∀ l, eraseL (eraseL l) = eraseL l
  | [] => rfl
  | k :: l => by rw [eraseL, eraseL, erase_erase k, eraseL_eraseL l]
end
def dirE (ns : List (List By)) : Hd := ⟨1, none, 0, ns, none, 0, none, 0, [], false, 0, []⟩
def fileE (data : List By) (run : Bool) (stamp : Nat) : Hd := ⟨2, none, 0, [], none, 0, none, 0, data, run, stamp, []⟩
def linkE (t : List By) : Hd := ⟨3, none, 0, [], none, 0, none, 0, [], false, 0, t⟩
end TreeMath

/- Archives read: what bytes are, as the program reads them and as the reference does. No program is named. -/
namespace PackMath
open TreeMath WireMath RealMath

mutual
theorem lay_erase : ∀ t, layB (erase t) = layB t
  | .mk x ks => by rw [erase, layB, layB, layL_erase _ ks]; rfl
theorem layL_erase : ∀ (ls : List (List By)) (ks : List T), layL ls (eraseL ks) = layL ls ks
  | ls, [] => by simp [eraseL, layL]
  | ls, k :: m => by rw [eraseL, layL, layL, lay_erase k, layL_erase _ m]
end
mutual
/-- with canons for stamps, but for where it lies -/
def canT : T → T
  | .mk x ks => .mk { eraseH x with stamp := canonB x.stamp } (canL ks)
def canL : List T → List T
  | [] => []
  | k :: l => canT k :: canL l
end
theorem canL_length : ∀ l, (canL l).length = l.length
  | [] => rfl
  | k :: l => by rw [canL, List.length_cons, List.length_cons, canL_length l]
mutual
theorem same_can : ∀ t, same t (canT t) = true
  | .mk x ks => by rw [canT, same, sameL_can ks]; simp [hdSame, eraseH, canonB_canonB]
theorem sameL_can : ∀ l, sameL l (canL l) = true
  | [] => by rw [canL, sameL]
  | k :: l => by rw [canL, sameL, same_can k, sameL_can l]; rfl
end
/-- are they a number's bits? -/
def ofOk (x : Nat) : Bool := decide (canonB x = x)
/-- n names and kids, one behind the other -/
def loopP (node : Nat → Rd → Option (T × Nat × Rd)) : Nat → List (List By) → List T → Nat → Rd → Option (List (List By) × List T × Nat × Rd)
  | 0, ns, ks, k, r => some (ns, ks, k, r)
  | n + 1, ns, ks, k, r => match node k (textA r) with
    | none => none
    | some (t, k', r') => loopP node n (ns ++ [textR r]) (ks ++ [t]) k' r'
def filR (r : Rd) : Option (T × Rd) :=
  if 1 < numR 1 r then none else if ofOk (numR 8 (after 1 r)) then some (.mk (fileE (textR (after 8 (after 1 r))) (decide (numR 1 r = 1)) (numR 8 (after 1 r))) [], textA (after 8 (after 1 r))) else none
/-- the next node, behind k of them -/
def nodeP : Nat → Nat → Rd → Option (T × Nat × Rd)
  | 0, _, _ => none
  | f + 1, k, r =>
    if 64 ≤ k then none
    else if numR 1 r = 1 then
      match loopP (nodeP f) (numR 1 (after 1 r)) [] [] (k + 1) (after 1 (after 1 r)) with
      | none => none
      | some (ns, ks, k', r') => some (.mk (dirE ns) ks, k', r')
    else if numR 1 r = 2 then
      match filR (after 1 r) with
      | none => none
      | some (t, r') => some (t, k + 1, r')
    else if numR 1 r = 3 then some (.mk (linkE (textR (after 1 r))) [], k + 1, textA (after 1 r))
    else none
/-- as the reference reads it: not deeper than so much, and no failing -/
def nodeR : Nat → Nat → Rd → Option (T × Nat × Rd)
  | 0, _, _ => none
  | d + 1, k, r =>
    if (after 1 r).f || decide (64 ≤ k) then none
    else if numR 1 r = 1 then
      match loopP (nodeR d) (numR 1 (after 1 r)) [] [] (k + 1) (after 1 (after 1 r)) with
      | none => none
      | some (ns, ks, k', r') => if r'.f then none else some (.mk (dirE ns) ks, k', r')
    else if numR 1 r = 2 then
      match filR (after 1 r) with
      | none => none
      | some (t, r') => if r'.f then none else some (t, k + 1, r')
    else if numR 1 r = 3 then if (textA (after 1 r)).f then none else some (.mk (linkE (textR (after 1 r))) [], k + 1, textA (after 1 r))
    else none
theorem after_f (n : Nat) (r : Rd) (h : (after n r).f = false) : r.f = false ∧ n ≤ r.p.length := by
  unfold after at h
  split at h
  · cases h
  · exact ⟨h, by omega⟩
theorem textA_f (r : Rd) (h : (textA r).f = false) : r.f = false := (after_f 2 r (after_f _ _ h).1).1
theorem loopP_f {node : Nat → Rd → Option (T × Nat × Rd)} (hn : ∀ k r t k' r', node k r = some (t, k', r') → r'.f = false → r.f = false) :
    ∀ (n : Nat) (ns : List (List By)) (ks : List T) (k : Nat) (r : Rd) (o : List (List By) × List T × Nat × Rd), loopP node n ns ks k r = some o → o.2.2.2.f = false → r.f = false
  | 0, ns, ks, k, r, o, h, hf => by simp only [loopP, Option.some.injEq] at h; subst h; exact hf
  | n + 1, ns, ks, k, r, o, h, hf => by
    rw [loopP] at h
    split at h
    · cases h
    · rename_i t k' r' e
      exact textA_f r (hn _ _ _ _ _ e (loopP_f hn n _ _ _ _ o h hf))
theorem filR_f {r : Rd} {t : T} {r' : Rd} (h : filR r = some (t, r')) (hf : r'.f = false) : r.f = false := by
  unfold filR at h
  split at h
  · cases h
  split at h
  · simp only [Option.some.injEq, Prod.mk.injEq] at h
    rw [← h.2] at hf
    exact (after_f _ _ (after_f _ _ (textA_f _ hf)).1).1
  · cases h
theorem nodeP_f : ∀ (f k : Nat) (r : Rd) (t : T) (k' : Nat) (r' : Rd), nodeP f k r = some (t, k', r') → r'.f = false → (after 1 r).f = false
  | 0, k, r, t, k', r', h, _ => by cases h
  | f + 1, k, r, t, k', r', h, hf => by
    rw [nodeP] at h
    split at h
    · cases h
    split at h
    · split at h
      · cases h
      · rename_i ns ks k2 r2 e
        simp only [Option.some.injEq, Prod.mk.injEq] at h
        obtain ⟨-, -, rfl⟩ := h
        exact (after_f _ _ (loopP_f (fun k r t k' r' h1 h2 => (after_f _ _ (nodeP_f f k r t k' r' h1 h2)).1) _ _ _ _ _ _ e hf)).1
    split at h
    · split at h
      · cases h
      · rename_i t2 r2 e
        simp only [Option.some.injEq, Prod.mk.injEq] at h
        obtain ⟨-, -, rfl⟩ := h
        exact filR_f e hf
    split at h
    · simp only [Option.some.injEq, Prod.mk.injEq] at h
      rw [← h.2.2] at hf
      exact textA_f _ hf
    · cases h
theorem loopP_mono {n1 n2 : Nat → Rd → Option (T × Nat × Rd)} {P : Nat → Prop} (hn : ∀ k r o, P k → n1 k r = some o → n2 k r = some o ∧ P o.2.1) :
    ∀ (n : Nat) (ns : List (List By)) (ks : List T) (k : Nat) (r : Rd) (o : List (List By) × List T × Nat × Rd), P k → loopP n1 n ns ks k r = some o → loopP n2 n ns ks k r = some o ∧ P o.2.2.1
  | 0, ns, ks, k, r, o, hp, h => by simp only [loopP, Option.some.injEq] at h ⊢; exact ⟨h, by rw [← h]; exact hp⟩
  | n + 1, ns, ks, k, r, o, hp, h => by
    rw [loopP] at h ⊢
    split at h
    · cases h
    · rename_i t k' r' e
      obtain ⟨e2, p2⟩ := hn _ _ _ hp e
      rw [e2]
      exact loopP_mono hn n _ _ _ _ o p2 h
/-- the reference's reading is the program's -/
theorem nodeR_P : ∀ (d k : Nat) (r : Rd) (o : T × Nat × Rd), nodeR d k r = some o → (∀ f, 64 ≤ k + f → nodeP f k r = some o) ∧ k < o.2.1 ∧ o.2.2.f = false
  | 0, k, r, o, h => by cases h
  | d + 1, k, r, o, h => by
    rw [nodeR] at h
    split at h
    · cases h
    rename_i h0
    simp only [Bool.or_eq_true, decide_eq_true_eq, not_or] at h0
    split at h
    · rename_i h1
      split at h
      · cases h
      · rename_i ns ks k2 r2 e
        split at h
        · cases h
        rename_i hf2
        simp only [Option.some.injEq] at h
        subst h
        have hm : k < k2 := by
          have := (loopP_mono (n1 := nodeR d) (n2 := nodeR d) (P := fun j => k < j) (fun j r o hj ho => ⟨ho, by have := (nodeR_P d j r o ho).2.1; omega⟩) _ _ _ _ _ _ (by omega) e).2
          exact this
        refine ⟨fun f hf => ?_, hm, by simpa using hf2⟩
        obtain ⟨f, rfl⟩ : ∃ g, f = g + 1 := ⟨f - 1, by omega⟩
        rw [nodeP, if_neg h0.2, if_pos h1]
        have := (loopP_mono (n1 := nodeR d) (n2 := nodeP f) (P := fun j => k < j) (fun j r o hj ho => ⟨(nodeR_P d j r o ho).1 f (by omega), by have := (nodeR_P d j r o ho).2.1; omega⟩) _ _ _ _ _ _ (by omega) e).1
        rw [this]
    rename_i h1
    split at h
    · rename_i h2
      split at h
      · cases h
      · rename_i t2 r2 e
        split at h
        · cases h
        rename_i hf2
        simp only [Option.some.injEq] at h
        subst h
        refine ⟨fun f hf => ?_, Nat.lt_succ_self k, by simpa using hf2⟩
        obtain ⟨f, rfl⟩ : ∃ g, f = g + 1 := ⟨f - 1, by omega⟩
        rw [nodeP, if_neg h0.2, if_neg h1, if_pos h2, e]
    rename_i h2
    split at h
    · rename_i h3
      split at h
      · cases h
      rename_i hf2
      simp only [Option.some.injEq] at h
      subst h
      refine ⟨fun f hf => ?_, Nat.lt_succ_self k, by simpa using hf2⟩
      obtain ⟨f, rfl⟩ : ∃ g, f = g + 1 := ⟨f - 1, by omega⟩
      rw [nodeP, if_neg h0.2, if_neg h1, if_neg h2, if_pos h3]
    · cases h
theorem depthL_append (a b : List T) : depthL (a ++ b) = max (depthL a) (depthL b) := by
  induction a with
  | nil => simp [depthL]
  | cons k l ih => rw [List.cons_append, depthL, depthL, ih]; omega
/-- what is read of a loop stands behind what was there -/
theorem loopP_out {node : Nat → Rd → Option (T × Nat × Rd)} : ∀ (n : Nat) (ns : List (List By)) (ks : List T) (k : Nat) (r : Rd) (o : List (List By) × List T × Nat × Rd), loopP node n ns ks k r = some o →
    ∃ ns' ks', o.1 = ns ++ ns' ∧ o.2.1 = ks ++ ks' ∧ ns'.length = n ∧ ks'.length = n
  | 0, ns, ks, k, r, o, h => by simp only [loopP, Option.some.injEq] at h; subst h; exact ⟨[], [], by simp, by simp, rfl, rfl⟩
  | n + 1, ns, ks, k, r, o, h => by
    rw [loopP] at h
    split at h
    · cases h
    · rename_i t k' r' e
      obtain ⟨a, b, h1, h2, h3, h4⟩ := loopP_out n _ _ _ _ o h
      exact ⟨textR r :: a, t :: b, by rw [h1]; simp, by rw [h2]; simp, by simp [h3], by simp [h4]⟩
theorem loopP_R {f d : Nat} (hn : ∀ k r o, nodeP f k r = some o → o.2.2.f = false → depth o.1 ≤ d → nodeR d k r = some o) :
    ∀ (n : Nat) (ns : List (List By)) (ks : List T) (k : Nat) (r : Rd) (o : List (List By) × List T × Nat × Rd), loopP (nodeP f) n ns ks k r = some o → o.2.2.2.f = false → depthL o.2.1 ≤ d → loopP (nodeR d) n ns ks k r = some o
  | 0, ns, ks, k, r, o, h, _, _ => h
  | n + 1, ns, ks, k, r, o, h, hf, hd => by
    rw [loopP] at h ⊢
    split at h
    · cases h
    · rename_i t k' r' e
      have h1 := loopP_f (fun k r t k' r' h1 h2 => (after_f _ _ (nodeP_f f k r t k' r' h1 h2)).1) n _ _ _ _ o h hf
      obtain ⟨a, b, -, h2, -, -⟩ := loopP_out n _ _ _ _ o h
      have h3 : depth t ≤ d := by
        rw [h2, depthL_append, depthL_append, depthL, depthL] at hd; omega
      rw [hn _ _ _ e h1 h3]
      exact loopP_R hn n _ _ _ _ o h hf hd
theorem nodeP_R : ∀ (d f k : Nat) (r : Rd) (o : T × Nat × Rd), nodeP f k r = some o → o.2.2.f = false → depth o.1 ≤ d → nodeR d k r = some o
  | 0, f, k, r, o, h, hf, hd => by obtain ⟨⟨x, ks⟩, k', r'⟩ := o; simp only [depth] at hd; omega
  | d + 1, 0, k, r, o, h, hf, hd => by cases h
  | d + 1, f + 1, k, r, o, h, hf, hd => by
    have ha := nodeP_f (f + 1) k r o.1 o.2.1 o.2.2 h hf
    rw [nodeP] at h
    rw [nodeR]
    split at h
    · cases h
    rename_i h0
    rw [if_neg (by rw [ha]; simpa using h0)]
    split at h
    · rename_i h1
      rw [if_pos h1]
      split at h
      · cases h
      · rename_i ns ks k2 r2 e
        simp only [Option.some.injEq] at h
        subst h
        simp only [depth] at hd
        rw [loopP_R (fun k r o h1 h2 h3 => nodeP_R d f k r o h1 h2 h3) _ _ _ _ _ _ e hf (by simp only; omega)]
        simp only at hf
        simp [hf]
    rename_i h1
    rw [if_neg h1]
    split at h
    · rename_i h2
      rw [if_pos h2]
      split at h
      · cases h
      · rename_i t2 r2 e
        simp only [Option.some.injEq] at h
        subst h
        simp only at hf
        simp [hf]
    rename_i h2
    rw [if_neg h2]
    split at h
    · rename_i h3
      rw [if_pos h3]
      simp only [Option.some.injEq] at h
      subst h
      simp only at hf
      simp [hf]
    · cases h
/-- how many nodes, how deep -/
theorem nodeP_count : ∀ (f k : Nat) (r : Rd) (o : T × Nat × Rd), nodeP f k r = some o → o.2.1 = k + count o.1 ∧ o.2.1 ≤ 64
  | 0, k, r, o, h => by cases h
  | f + 1, k, r, o, h => by
    have loop : ∀ (n : Nat) (ns : List (List By)) (ks : List T) (k : Nat) (r : Rd) (o : List (List By) × List T × Nat × Rd), loopP (nodeP f) n ns ks k r = some o → k ≤ 64 → o.2.2.1 + (allL ks).length = k + (allL o.2.1).length ∧ o.2.2.1 ≤ 64 := by
      intro n
      induction n with
      | zero => intro ns ks k r o h hk; simp only [loopP, Option.some.injEq] at h; subst h; exact ⟨rfl, hk⟩
      | succ n ih =>
        intro ns ks k r o h hk
        rw [loopP] at h
        split at h
        · cases h
        · rename_i t k' r' e
          obtain ⟨h1, h2⟩ := nodeP_count f _ _ _ e
          simp only at h1 h2
          obtain ⟨h3, h4⟩ := ih _ _ _ _ o h h2
          rw [allL_append, List.length_append, allL, allL, List.append_nil] at h3
          unfold count at h1
          exact ⟨by omega, h4⟩
    rw [nodeP] at h
    split at h
    · cases h
    split at h
    · split at h
      · cases h
      · rename_i ns ks k2 r2 e
        simp only [Option.some.injEq] at h
        subst h
        obtain ⟨h1, h2⟩ := loop _ _ _ _ _ _ e (by omega)
        rw [count_mk]
        simp only [allL, List.length_nil] at h1 ⊢
        exact ⟨by omega, h2⟩
    split at h
    · split at h
      · cases h
      · rename_i t2 r2 e
        simp only [Option.some.injEq] at h
        subst h
        unfold filR at e
        split at e
        · cases e
        split at e
        · simp only [Option.some.injEq, Prod.mk.injEq] at e
          rw [← e.1, count_mk]; simp [allL]; omega
        · cases e
    split at h
    · simp only [Option.some.injEq] at h
      subst h
      rw [count_mk]; simp [allL]; omega
    · cases h
/-- what the program reads -/
def readP (rb : T → Bool) (p : List By) : Option T :=
  if textR ⟨p, false⟩ = magic then
    match nodeP 65 0 (textA ⟨p, false⟩) with
    | none => none
    | some (t, _, r) => if r.f || decide (0 < r.p.length) || !rb t then none else some t
  else none
/-- what the reference reads -/
def readR (rb : T → Bool) (p : List By) : Option T :=
  if textR ⟨p, false⟩ = magic then
    match nodeR 8 0 (textA ⟨p, false⟩) with
    | none => none
    | some (t, _, r) => if r.f || decide (0 < r.p.length) || !rb t then none else some t
  else none
theorem read_eq (rb : T → Bool) (hrb : ∀ t, rb t = true → depth t ≤ 8) (p : List By) : readR rb p = readP rb p := by
  unfold readR readP
  split
  · cases e : nodeR 8 0 (textA ⟨p, false⟩) with
    | some o =>
      rw [(nodeR_P 8 0 _ o e).1 65 (by omega)]
    | none =>
      cases e2 : nodeP 65 0 (textA ⟨p, false⟩) with
      | none => rfl
      | some o =>
        obtain ⟨t, k, r⟩ := o
        simp only
        by_cases hf : r.f = true
        · simp [hf]
        · have hf' : r.f = false := by simpa using hf
          by_cases hr : rb t = true
          · have := nodeP_R 8 65 0 _ _ e2 hf' (hrb t hr)
            rw [e] at this; cases this
          · simp [hr]
  · rfl
end PackMath
