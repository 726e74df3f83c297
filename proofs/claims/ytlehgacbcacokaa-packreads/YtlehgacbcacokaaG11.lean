/- Archives read: what bytes are, as the program reads them and as the reference does. No program is named. -/
import Derived.Test.YtlehgacbcacokaaG10
import Derived.Test.YtlehgacbcacokaaG3
import Derived.Laws.MakeOwn
import Derived.Laws.ShiftsVar
import Derived.Laws.ShiftsVarLaws
import Derived.Laws.CopyOwn
namespace PackMath
open TreeMath WireMath RealMath

def eraseH (x : Hd) : Hd := ⟨x.kind, none, 0, x.names, none, 0, none, 0, x.data, x.run, x.stamp, x.target⟩
mutual
/-- but for where it lies -/
def erase : T → T
  | .mk x ks => .mk (eraseH x) (eraseL ks)
def eraseL : List T → List T
  | [] => []
  | k :: l => erase k :: eraseL l
end
theorem eraseL_map : ∀ l, eraseL l = l.map erase
  | [] => rfl
  | k :: l => by rw [eraseL, List.map_cons, eraseL_map l]
theorem eraseL_length (l : List T) : (eraseL l).length = l.length := by rw [eraseL_map]; simp
theorem eraseL_append (a b : List T) : eraseL (a ++ b) = eraseL a ++ eraseL b := by simp [eraseL_map]
mutual
theorem all_erase : ∀ t, all (erase t) = (all t).map erase
  | .mk x ks => by rw [erase, all, all, List.map_cons, allL_erase ks, erase]
theorem allL_erase : ∀ l, allL (eraseL l) = (allL l).map erase
  | [] => rfl
  | k :: l => by rw [eraseL, allL, allL, List.map_append, all_erase k, allL_erase l]
end
theorem count_erase (t : T) : count (erase t) = count t := by unfold count; rw [all_erase]; simp
mutual
theorem depth_erase : ∀ t, depth (erase t) = depth t
  | .mk x ks => by rw [erase, depth, depth, depthL_erase ks]
theorem depthL_erase : ∀ l, depthL (eraseL l) = depthL l
  | [] => rfl
  | k :: l => by rw [eraseL, depthL, depthL, depth_erase k, depthL_erase l]
end
theorem fits_erase (t : T) : fitsB (erase t) = fitsB t := by
  cases t with
  | mk x ks => rw [erase, fitsB, fitsB, eraseL_length]; rfl
mutual
theorem same_erase : ∀ a b, same (erase a) (erase b) = same a b
  | .mk x ks, .mk y ls => by rw [erase, erase, same, same, sameL_erase ks ls]; rfl
theorem sameL_erase : ∀ a b, sameL (eraseL a) (eraseL b) = sameL a b
  | [], [] => by simp [eraseL]
  | a :: l, b :: m => by rw [eraseL, eraseL, sameL, sameL, same_erase a b, sameL_erase l m]
  | [], _ :: _ => by simp [eraseL, sameL]
  | _ :: _, [] => by simp [eraseL, sameL]
end
mutual
theorem lay_erase : ∀ t, layB (erase t) = layB t
  | .mk x ks => by rw [erase, layB, layB, layL_erase _ ks]; rfl
theorem layL_erase : ∀ (ls : List (List By)) (ks : List T), layL ls (eraseL ks) = layL ls ks
  | ls, [] => by simp [eraseL, layL]
  | ls, k :: m => by rw [eraseL, layL, layL, lay_erase k, layL_erase _ m]
end
mutual
theorem same_refl : ∀ t, same t t = true
  | .mk x ks => by rw [same, sameL_refl ks]; simp [hdSame]
theorem sameL_refl : ∀ l, sameL l l = true
  | [] => by rw [sameL]
  | k :: l => by rw [sameL, same_refl k, sameL_refl l]; rfl
end
theorem same_of_erase {a b : T} (h : erase a = erase b) : same a b = true := by rw [← same_erase, h, same_refl]
mutual
theorem erase_erase : ∀ t, erase (erase t) = erase t
  | .mk x ks => by rw [erase, erase, eraseL_eraseL ks]; rfl
theorem eraseL_eraseL : ∀ l, eraseL (eraseL l) = eraseL l
  | [] => rfl
  | k :: l => by rw [eraseL, eraseL, erase_erase k, eraseL_eraseL l]
end
mutual
/-- with canons for stamps, but for where it lies -/
def canT : T → T
  | .mk x ks => .mk { eraseH x with stamp := canonB x.stamp } (canL ks)
def canL : List T → List T
  | [] => []
  | k :: l => canT k :: canL l
end
theorem canL_length : ∀ l, (canL l).length = l.length
  | [] => rfl
  | k :: l => by rw [canL, List.length_cons, List.length_cons, canL_length l]
mutual
theorem same_can : ∀ t, same t (canT t) = true
  | .mk x ks => by rw [canT, same, sameL_can ks]; simp [hdSame, eraseH, canonB_canonB]
theorem sameL_can : ∀ l, sameL l (canL l) = true
  | [] => by rw [canL, sameL]
  | k :: l => by rw [canL, sameL, same_can k, sameL_can l]; rfl
end
/-- are they a number's bits? -/
def ofOk (x : Nat) : Bool := decide (canonB x = x)
def dirE (ns : List (List By)) : Hd := ⟨1, none, 0, ns, none, 0, none, 0, [], false, 0, []⟩
def fileE (data : List By) (run : Bool) (stamp : Nat) : Hd := ⟨2, none, 0, [], none, 0, none, 0, data, run, stamp, []⟩
def linkE (t : List By) : Hd := ⟨3, none, 0, [], none, 0, none, 0, [], false, 0, t⟩
/-- n names and kids, one behind the other -/
def loopP (node : Nat → Rd → Option (T × Nat × Rd)) : Nat → List (List By) → List T → Nat → Rd → Option (List (List By) × List T × Nat × Rd)
  | 0, ns, ks, k, r => some (ns, ks, k, r)
  | n + 1, ns, ks, k, r => match node k (textA r) with
    | none => none
    | some (t, k', r') => loopP node n (ns ++ [textR r]) (ks ++ [t]) k' r'
def filR (r : Rd) : Option (T × Rd) :=
  if 1 < numR 1 r then none else if ofOk (numR 8 (after 1 r)) then some (.mk (fileE (textR (after 8 (after 1 r))) (decide (numR 1 r = 1)) (numR 8 (after 1 r))) [], textA (after 8 (after 1 r))) else none
/-- the next node, behind k of them -/
def nodeP : Nat → Nat → Rd → Option (T × Nat × Rd)
  | 0, _, _ => none
  | f + 1, k, r =>
    if 64 ≤ k then none
    else if numR 1 r = 1 then
      match loopP (nodeP f) (numR 1 (after 1 r)) [] [] (k + 1) (after 1 (after 1 r)) with
      | none => none
      | some (ns, ks, k', r') => some (.mk (dirE ns) ks, k', r')
    else if numR 1 r = 2 then
      match filR (after 1 r) with
      | none => none
      | some (t, r') => some (t, k + 1, r')
    else if numR 1 r = 3 then some (.mk (linkE (textR (after 1 r))) [], k + 1, textA (after 1 r))
    else none
/-- as the reference reads it: not deeper than so much, and no failing -/
def nodeR : Nat → Nat → Rd → Option (T × Nat × Rd)
  | 0, _, _ => none
  | d + 1, k, r =>
    if (after 1 r).f || decide (64 ≤ k) then none
    else if numR 1 r = 1 then
      match loopP (nodeR d) (numR 1 (after 1 r)) [] [] (k + 1) (after 1 (after 1 r)) with
      | none => none
      | some (ns, ks, k', r') => if r'.f then none else some (.mk (dirE ns) ks, k', r')
    else if numR 1 r = 2 then
      match filR (after 1 r) with
      | none => none
      | some (t, r') => if r'.f then none else some (t, k + 1, r')
    else if numR 1 r = 3 then if (textA (after 1 r)).f then none else some (.mk (linkE (textR (after 1 r))) [], k + 1, textA (after 1 r))
    else none
theorem after_f (n : Nat) (r : Rd) (h : (after n r).f = false) : r.f = false ∧ n ≤ r.p.length := by
  unfold after at h
  split at h
  · cases h
  · exact ⟨h, by omega⟩
theorem textA_f (r : Rd) (h : (textA r).f = false) : r.f = false := (after_f 2 r (after_f _ _ h).1).1
theorem loopP_f {node : Nat → Rd → Option (T × Nat × Rd)} (hn : ∀ k r t k' r', node k r = some (t, k', r') → r'.f = false → r.f = false) :
    ∀ (n : Nat) (ns : List (List By)) (ks : List T) (k : Nat) (r : Rd) (o : List (List By) × List T × Nat × Rd), loopP node n ns ks k r = some o → o.2.2.2.f = false → r.f = false
  | 0, ns, ks, k, r, o, h, hf => by simp only [loopP, Option.some.injEq] at h; subst h; exact hf
  | n + 1, ns, ks, k, r, o, h, hf => by
    rw [loopP] at h
    split at h
    · cases h
    · rename_i t k' r' e
      exact textA_f r (hn _ _ _ _ _ e (loopP_f hn n _ _ _ _ o h hf))
theorem filR_f {r : Rd} {t : T} {r' : Rd} (h : filR r = some (t, r')) (hf : r'.f = false) : r.f = false := by
  unfold filR at h
  split at h
  · cases h
  split at h
  · simp only [Option.some.injEq, Prod.mk.injEq] at h
    rw [← h.2] at hf
    exact (after_f _ _ (after_f _ _ (textA_f _ hf)).1).1
  · cases h
theorem nodeP_f : ∀ (f k : Nat) (r : Rd) (t : T) (k' : Nat) (r' : Rd), nodeP f k r = some (t, k', r') → r'.f = false → (after 1 r).f = false
  | 0, k, r, t, k', r', h, _ => by cases h
  | f + 1, k, r, t, k', r', h, hf => by
    rw [nodeP] at h
    split at h
    · cases h
    split at h
    · split at h
      · cases h
      · rename_i ns ks k2 r2 e
        simp only [Option.some.injEq, Prod.mk.injEq] at h
        obtain ⟨-, -, rfl⟩ := h
        exact (after_f _ _ (loopP_f (fun k r t k' r' h1 h2 => (after_f _ _ (nodeP_f f k r t k' r' h1 h2)).1) _ _ _ _ _ _ e hf)).1
    split at h
    · split at h
      · cases h
      · rename_i t2 r2 e
        simp only [Option.some.injEq, Prod.mk.injEq] at h
        obtain ⟨-, -, rfl⟩ := h
        exact filR_f e hf
    split at h
    · simp only [Option.some.injEq, Prod.mk.injEq] at h
      rw [← h.2.2] at hf
      exact textA_f _ hf
    · cases h
theorem loopP_mono {n1 n2 : Nat → Rd → Option (T × Nat × Rd)} {P : Nat → Prop} (hn : ∀ k r o, P k → n1 k r = some o → n2 k r = some o ∧ P o.2.1) :
    ∀ (n : Nat) (ns : List (List By)) (ks : List T) (k : Nat) (r : Rd) (o : List (List By) × List T × Nat × Rd), P k → loopP n1 n ns ks k r = some o → loopP n2 n ns ks k r = some o ∧ P o.2.2.1
  | 0, ns, ks, k, r, o, hp, h => by simp only [loopP, Option.some.injEq] at h ⊢; exact ⟨h, by rw [← h]; exact hp⟩
  | n + 1, ns, ks, k, r, o, hp, h => by
    rw [loopP] at h ⊢
    split at h
    · cases h
    · rename_i t k' r' e
      obtain ⟨e2, p2⟩ := hn _ _ _ hp e
      rw [e2]
      exact loopP_mono hn n _ _ _ _ o p2 h
/-- the reference's reading is the program's -/
theorem nodeR_P : ∀ (d k : Nat) (r : Rd) (o : T × Nat × Rd), nodeR d k r = some o → (∀ f, 64 ≤ k + f → nodeP f k r = some o) ∧ k < o.2.1 ∧ o.2.2.f = false
  | 0, k, r, o, h => by cases h
  | d + 1, k, r, o, h => by
    rw [nodeR] at h
    split at h
    · cases h
    rename_i h0
    simp only [Bool.or_eq_true, decide_eq_true_eq, not_or] at h0
    split at h
    · rename_i h1
      split at h
      · cases h
      · rename_i ns ks k2 r2 e
        split at h
        · cases h
        rename_i hf2
        simp only [Option.some.injEq] at h
        subst h
        have hm : k < k2 := by
          have := (loopP_mono (n1 := nodeR d) (n2 := nodeR d) (P := fun j => k < j) (fun j r o hj ho => ⟨ho, by have := (nodeR_P d j r o ho).2.1; omega⟩) _ _ _ _ _ _ (by omega) e).2
          exact this
        refine ⟨fun f hf => ?_, hm, by simpa using hf2⟩
        obtain ⟨f, rfl⟩ : ∃ g, f = g + 1 := ⟨f - 1, by omega⟩
        rw [nodeP, if_neg h0.2, if_pos h1]
        have := (loopP_mono (n1 := nodeR d) (n2 := nodeP f) (P := fun j => k < j) (fun j r o hj ho => ⟨(nodeR_P d j r o ho).1 f (by omega), by have := (nodeR_P d j r o ho).2.1; omega⟩) _ _ _ _ _ _ (by omega) e).1
        rw [this]
    rename_i h1
    split at h
    · rename_i h2
      split at h
      · cases h
      · rename_i t2 r2 e
        split at h
        · cases h
        rename_i hf2
        simp only [Option.some.injEq] at h
        subst h
        refine ⟨fun f hf => ?_, Nat.lt_succ_self k, by simpa using hf2⟩
        obtain ⟨f, rfl⟩ : ∃ g, f = g + 1 := ⟨f - 1, by omega⟩
        rw [nodeP, if_neg h0.2, if_neg h1, if_pos h2, e]
    rename_i h2
    split at h
    · rename_i h3
      split at h
      · cases h
      rename_i hf2
      simp only [Option.some.injEq] at h
      subst h
      refine ⟨fun f hf => ?_, Nat.lt_succ_self k, by simpa using hf2⟩
      obtain ⟨f, rfl⟩ : ∃ g, f = g + 1 := ⟨f - 1, by omega⟩
      rw [nodeP, if_neg h0.2, if_neg h1, if_neg h2, if_pos h3]
    · cases h
theorem depthL_append (a b : List T) : depthL (a ++ b) = max (depthL a) (depthL b) := by
  induction a with
  | nil => simp [depthL]
  | cons k l ih => rw [List.cons_append, depthL, depthL, ih]; omega
/-- what is read of a loop stands behind what was there -/
theorem loopP_out {node : Nat → Rd → Option (T × Nat × Rd)} : ∀ (n : Nat) (ns : List (List By)) (ks : List T) (k : Nat) (r : Rd) (o : List (List By) × List T × Nat × Rd), loopP node n ns ks k r = some o →
    ∃ ns' ks', o.1 = ns ++ ns' ∧ o.2.1 = ks ++ ks' ∧ ns'.length = n ∧ ks'.length = n
  | 0, ns, ks, k, r, o, h => by simp only [loopP, Option.some.injEq] at h; subst h; exact ⟨[], [], by simp, by simp, rfl, rfl⟩
  | n + 1, ns, ks, k, r, o, h => by
    rw [loopP] at h
    split at h
    · cases h
    · rename_i t k' r' e
      obtain ⟨a, b, h1, h2, h3, h4⟩ := loopP_out n _ _ _ _ o h
      exact ⟨textR r :: a, t :: b, by rw [h1]; simp, by rw [h2]; simp, by simp [h3], by simp [h4]⟩
theorem loopP_R {f d : Nat} (hn : ∀ k r o, nodeP f k r = some o → o.2.2.f = false → depth o.1 ≤ d → nodeR d k r = some o) :
    ∀ (n : Nat) (ns : List (List By)) (ks : List T) (k : Nat) (r : Rd) (o : List (List By) × List T × Nat × Rd), loopP (nodeP f) n ns ks k r = some o → o.2.2.2.f = false → depthL o.2.1 ≤ d → loopP (nodeR d) n ns ks k r = some o
  | 0, ns, ks, k, r, o, h, _, _ => h
  | n + 1, ns, ks, k, r, o, h, hf, hd => by
    rw [loopP] at h ⊢
    split at h
    · cases h
    · rename_i t k' r' e
      have h1 := loopP_f (fun k r t k' r' h1 h2 => (after_f _ _ (nodeP_f f k r t k' r' h1 h2)).1) n _ _ _ _ o h hf
      obtain ⟨a, b, -, h2, -, -⟩ := loopP_out n _ _ _ _ o h
      have h3 : depth t ≤ d := by
        rw [h2, depthL_append, depthL_append, depthL, depthL] at hd; omega
      rw [hn _ _ _ e h1 h3]
      exact loopP_R hn n _ _ _ _ o h hf hd
theorem nodeP_R : ∀ (d f k : Nat) (r : Rd) (o : T × Nat × Rd), nodeP f k r = some o → o.2.2.f = false → depth o.1 ≤ d → nodeR d k r = some o
  | 0, f, k, r, o, h, hf, hd => by obtain ⟨⟨x, ks⟩, k', r'⟩ := o; simp only [depth] at hd; omega
  | d + 1, 0, k, r, o, h, hf, hd => by cases h
  | d + 1, f + 1, k, r, o, h, hf, hd => by
    have ha := nodeP_f (f + 1) k r o.1 o.2.1 o.2.2 h hf
    rw [nodeP] at h
    rw [nodeR]
    split at h
    · cases h
    rename_i h0
    rw [if_neg (by rw [ha]; simpa using h0)]
    split at h
    · rename_i h1
      rw [if_pos h1]
      split at h
      · cases h
      · rename_i ns ks k2 r2 e
        simp only [Option.some.injEq] at h
        subst h
        simp only [depth] at hd
        rw [loopP_R (fun k r o h1 h2 h3 => nodeP_R d f k r o h1 h2 h3) _ _ _ _ _ _ e hf (by simp only; omega)]
        simp only at hf
        simp [hf]
    rename_i h1
    rw [if_neg h1]
    split at h
    · rename_i h2
      rw [if_pos h2]
      split at h
      · cases h
      · rename_i t2 r2 e
        simp only [Option.some.injEq] at h
        subst h
        simp only at hf
        simp [hf]
    rename_i h2
    rw [if_neg h2]
    split at h
    · rename_i h3
      rw [if_pos h3]
      simp only [Option.some.injEq] at h
      subst h
      simp only at hf
      simp [hf]
    · cases h
/-- how many nodes, how deep -/
theorem nodeP_count : ∀ (f k : Nat) (r : Rd) (o : T × Nat × Rd), nodeP f k r = some o → o.2.1 = k + count o.1 ∧ o.2.1 ≤ 64
  | 0, k, r, o, h => by cases h
  | f + 1, k, r, o, h => by
    have loop : ∀ (n : Nat) (ns : List (List By)) (ks : List T) (k : Nat) (r : Rd) (o : List (List By) × List T × Nat × Rd), loopP (nodeP f) n ns ks k r = some o → k ≤ 64 → o.2.2.1 + (allL ks).length = k + (allL o.2.1).length ∧ o.2.2.1 ≤ 64 := by
      intro n
      induction n with
      | zero => intro ns ks k r o h hk; simp only [loopP, Option.some.injEq] at h; subst h; exact ⟨rfl, hk⟩
      | succ n ih =>
        intro ns ks k r o h hk
        rw [loopP] at h
        split at h
        · cases h
        · rename_i t k' r' e
          obtain ⟨h1, h2⟩ := nodeP_count f _ _ _ e
          simp only at h1 h2
          obtain ⟨h3, h4⟩ := ih _ _ _ _ o h h2
          rw [allL_append, List.length_append, allL, allL, List.append_nil] at h3
          unfold count at h1
          exact ⟨by omega, h4⟩
    rw [nodeP] at h
    split at h
    · cases h
    split at h
    · split at h
      · cases h
      · rename_i ns ks k2 r2 e
        simp only [Option.some.injEq] at h
        subst h
        obtain ⟨h1, h2⟩ := loop _ _ _ _ _ _ e (by omega)
        rw [count_mk]
        simp only [allL, List.length_nil] at h1 ⊢
        exact ⟨by omega, h2⟩
    split at h
    · split at h
      · cases h
      · rename_i t2 r2 e
        simp only [Option.some.injEq] at h
        subst h
        unfold filR at e
        split at e
        · cases e
        split at e
        · simp only [Option.some.injEq, Prod.mk.injEq] at e
          rw [← e.1, count_mk]; simp [allL]; omega
        · cases e
    split at h
    · simp only [Option.some.injEq] at h
      subst h
      rw [count_mk]; simp [allL]; omega
    · cases h
/-- what the program reads -/
def readP (rb : T → Bool) (p : List By) : Option T :=
  if textR ⟨p, false⟩ = magic then
    match nodeP 65 0 (textA ⟨p, false⟩) with
    | none => none
    | some (t, _, r) => if r.f || decide (0 < r.p.length) || !rb t then none else some t
  else none
/-- what the reference reads -/
def readR (rb : T → Bool) (p : List By) : Option T :=
  if textR ⟨p, false⟩ = magic then
    match nodeR 8 0 (textA ⟨p, false⟩) with
    | none => none
    | some (t, _, r) => if r.f || decide (0 < r.p.length) || !rb t then none else some t
  else none
theorem read_eq (rb : T → Bool) (hrb : ∀ t, rb t = true → depth t ≤ 8) (p : List By) : readR rb p = readP rb p := by
  unfold readR readP
  split
  · cases e : nodeR 8 0 (textA ⟨p, false⟩) with
    | some o =>
      rw [(nodeR_P 8 0 _ o e).1 65 (by omega)]
    | none =>
      cases e2 : nodeP 65 0 (textA ⟨p, false⟩) with
      | none => rfl
      | some o =>
        obtain ⟨t, k, r⟩ := o
        simp only
        by_cases hf : r.f = true
        · simp [hf]
        · have hf' : r.f = false := by simpa using hf
          by_cases hr : rb t = true
          · have := nodeP_R 8 65 0 _ _ e2 hf' (hrb t hr)
            rw [e] at this; cases this
          · simp [hr]
  · rfl
end PackMath

/- Out of layer 3: what the reference's Join comes to. -/
namespace Go.Proofs.Ytlehgacbcacokaa
open Go.RowKit BaseMath

set_option maxHeartbeats 1000000 in
theorem join_any (A B : Option Addr) (ca cb : Nat) (a b : List By) (hl : a.length + b.length ≤ 1000000) (hNA : A = none → ca = 0) (hNB : B = none → cb = 0) (w : World) (hA : SrcIs w A a) (hB : SrcIs w B b) :
    Calls Try.prog 42 #[.slice A a.length ca, .slice B b.length cb] w fun e w' => ∃ v, e = .returned v ∧ RowRel w 5 ((a ++ b).map vb) v w' := by
  have HA := Lib.hid hA; have HB := Lib.hid hB; have HNA := Lib.hid hNA; have HNB := Lib.hid hNB
  clear hA hB hNA hNB
  go_enter Try.func42, Try.ntmps42
  go_wp2_with (refine wpList_append_src rfl (.tmp 6) (.tmp 7) rfl w.heap.size (.slice none 0 0) 0 [] rfl (World.ownsRow_nil _ _ _ _) A ca a rfl HNA.out HA.out (by omega) (Nat.le_refl _) ?_)
  intro v1 w1 ho1 hg1
  have HO1 : Hid (w1.ownsRow w.heap.size 5 1 v1 a.length (a.map vb)) := by show World.ownsRow _ _ _ _ _ _ _; simpa using ho1
  have HB1 : Hid (Below w.heap.size w w1) := (Below.refl _ _).grown hg1 (Nat.le_refl _) (by simp [Value.ownBlock])
  clear ho1 hg1
  go_wp2_with (refine wpList_append_src rfl (.tmp 9) (.tmp 10) rfl w.heap.size v1 a.length a rfl HO1.out B cb b rfl HNB.out (HB.out.below HB1.out) hl HB1.out.size ?_)
  intro v2 w2 ho2 hg2
  have HO2 := Lib.hid ho2
  have HB2 : Hid (Below w.heap.size w w2) := HB1.out.grown hg2 HB1.out.size (fun k hk => (HO1.out.lt k hk).1)
  clear ho2 hg2
  go_wp2
  go_ret
  exact ⟨_, rfl, HB2.out, by rw [List.length_map, List.length_append, List.map_append]; exact HO2.out⟩
end Go.Proofs.Ytlehgacbcacokaa

/- A reader in memory; the contracts of its leaves: fail, Left, OK, End, take. -/
namespace Go.Proofs.Ytlehgacbcacokaa
open Go.RowKit BaseMath WireMath

/-- of what was there, only that block may have turned -/
structure OnlyAt (g : Nat) (w w' : World) : Prop where
  os : w'.os = w.os
  tape : w'.tape = w.tape
  output : w'.output = w.output
  size : w.heap.size ≤ w'.heap.size
  other : ∀ c, c < w.heap.size → c ≠ g → w'.heap[c]? = w.heap[c]?
theorem OnlyAt.refl (g : Nat) (w : World) : OnlyAt g w w := ⟨rfl, rfl, rfl, Nat.le_refl _, fun _ _ _ => rfl⟩
theorem OnlyAt.trans {g : Nat} {a b c : World} (h : OnlyAt g a b) (k : OnlyAt g b c) : OnlyAt g a c :=
  ⟨k.os.trans h.os, k.tape.trans h.tape, k.output.trans h.output, Nat.le_trans h.size k.size, fun i hi hn => (k.other i (Nat.lt_of_lt_of_le hi h.size) hn).trans (h.other i hi hn)⟩
theorem OnlyAt.setCell {g : Nat} {a w : World} (h : OnlyAt g a w) (o : Nat) (v : Value) : OnlyAt g a (w.setCell ⟨g, o, none⟩ v) :=
  ⟨h.os, h.tape, h.output, by rw [World.size_setCell]; exact h.size, fun c hc hn => by rw [Below.heap_setCell w ⟨g, o, none⟩ v c hn]; exact h.other c hc hn⟩
theorem OnlyAt.below {g B : Nat} {w w' : World} (h : OnlyAt g w w') (hB : B ≤ g) (hw : B ≤ w.heap.size) : Below B w w' :=
  ⟨h.os, h.tape, h.output, h.size, fun k hk => h.other k (by omega) (by omega)⟩
theorem OnlyAt.of_below {g : Nat} {w w' : World} (h : Below w.heap.size w w') : OnlyAt g w w' := ⟨h.os, h.tape, h.output, h.size, fun c hc _ => h.block c hc⟩
theorem BytesAt.same {w w' : World} {b o : Nat} {p : List By} (h : BytesAt w b o p) (hb : w'.heap[b]? = w.heap[b]?) : BytesAt w' b o p := fun k hk => by
  rw [World.cell?_of_block (w := w) (a := ⟨b, o + k, none⟩) hb]; exact h k hk
theorem SrcIs.only {w w' : World} {A : Option Addr} {p : List By} {g : Nat} (h : SrcIs w A p) (ho : OnlyAt g w w') (hne : 0 < p.length → ∀ a, A = some a → a.block ≠ g) : SrcIs w' A p := fun h0 => by
  obtain ⟨b, o, rfl, hc⟩ := h h0
  exact ⟨b, o, rfl, hc.same (ho.other b (hc.lt h0) (hne h0 _ rfl))⟩
theorem Blk.only {w w' : World} {b g : Nat} {t : TypeId} {cs : List Value} (h : Blk w b t cs) (ho : OnlyAt g w w') (hne : b ≠ g) : Blk w' b t cs := by
  unfold Blk; rw [ho.other b h.lt hne]; exact h

/-- a reader at block g (of type T), whose bytes lie below top -/
structure RdIs (w : World) (T : TypeId) (top g : Nat) (r : Rd) : Prop where
  ex : ∃ A c, Blk w g T [.slice A r.p.length c, .bool r.f] ∧ (A = none → c = 0) ∧ r.p.length ≤ c ∧ SrcIs w A r.p ∧ (0 < r.p.length → ∀ a, A = some a → a.block < top)
  le : top ≤ g
theorem RdIs.only {w w' : World} {T : TypeId} {top g g' : Nat} {r : Rd} (h : RdIs w T top g r) (ho : OnlyAt g' w w') (hne : g ≠ g') (ht : top ≤ g') : RdIs w' T top g r := by
  obtain ⟨A, c, h1, h2, h3, h4, h5⟩ := h.ex
  exact ⟨⟨A, c, Blk.only h1 ho hne, h2, h3, h4.only ho (fun h0 a ha => by have := h5 h0 a ha; omega), h5⟩, h.le⟩
theorem RdIs.below {w w' : World} {T : TypeId} {top g B : Nat} {r : Rd} (h : RdIs w T top g r) (hb : Below B w w') (hB : g < B) : RdIs w' T top g r := by
  obtain ⟨A, c, h1, h2, h3, h4, h5⟩ := h.ex
  refine ⟨⟨A, c, h1.below hb hB, h2, h3, fun h0 => ?_, h5⟩, h.le⟩
  obtain ⟨b, o, rfl, hc⟩ := h4 h0
  have := h5 h0 _ rfl
  have hle := h.le
  exact ⟨b, o, rfl, hc.same (hb.block b (by simp at this; omega))⟩
theorem RdIs.drewN {w : World} {T : TypeId} {top g : Nat} {r : Rd} (h : RdIs w T top g r) (q : Nat) : RdIs (w.drewN q) T top g r := ⟨h.ex, h.le⟩
theorem Blk.set2 {w : World} {b : Nat} {t : TypeId} {x y : Value} (h : Blk w b t [x, y]) (x' y' : Value) : Blk ((w.setCell ⟨b, 0, none⟩ x').setCell ⟨b, 1, none⟩ y') b t [x', y'] := by
  have h1 := (h.set 0 x').set 1 y'
  simpa using h1
set_option maxHeartbeats 1000000 in
theorem fail_any (top g : Nat) (r : Rd) (w : World) (h : RdIs w 111 top g r) :
    Calls Try.prog 108 #[.pointer (some ⟨g, 0, none⟩)] w fun e w' => e = .returned (.tuple #[]) ∧ RdIs w' 111 top g fails ∧ OnlyAt g w w' := by
  obtain ⟨A, c, hblk, -, -, -, -⟩ := h.ex
  have c0 := hblk.cell 0; have c1 := hblk.cell 1
  have f0 := hblk.frozen 0; have f1 := hblk.frozen 1
  simp only [List.getElem?_cons_zero, List.getElem?_cons_succ] at c0 c1
  have HN : Hid (RdIs ((w.setCell ⟨g, 0, none⟩ (.slice none 0 0)).setCell ⟨g, 1, none⟩ (.bool true)) 111 top g fails) :=
    ⟨⟨none, 0, Blk.set2 hblk _ _, fun _ => rfl, Nat.le_refl _, fun h => absurd h (by simp [fails]), fun _ a ha => by cases ha⟩, h.le⟩
  have HO : Hid (OnlyAt g w ((w.setCell ⟨g, 0, none⟩ (.slice none 0 0)).setCell ⟨g, 1, none⟩ (.bool true))) := ((OnlyAt.refl g w).setCell 0 _).setCell 1 _
  clear h hblk
  go_enter Try.func108, Try.ntmps108
  go_wp2_with fail
  exact bodyPost_end (v := .tuple #[]) (by simp [results, Try.results108]) rfl ⟨rfl, HN.out, HO.out⟩
theorem fail_nil (w : World) : Calls Try.prog 108 #[.pointer none] w fun e w' => e = .returned (.tuple #[]) ∧ w = w' := by
  go_enter Try.func108, Try.ntmps108
  go_wp2_with fail
  exact bodyPost_end (v := .tuple #[]) (by simp [results, Try.results108]) rfl ⟨rfl, rfl⟩
theorem left_any (top g : Nat) (r : Rd) (w : World) (h : RdIs w 111 top g r) :
    Calls Try.prog 102 #[.pointer (some ⟨g, 0, none⟩)] w fun e w' => e = .returned (.int .i64 (r.p.length : Nat)) ∧ w = w' := by
  obtain ⟨A, c, hblk, -, -, -, -⟩ := h.ex
  have c0 := hblk.cell 0
  simp only [List.getElem?_cons_zero] at c0
  clear h hblk
  go_enter Try.func102, Try.ntmps102
  go_wp2_with fail
  go_ret
  exact ⟨rfl, rfl⟩
theorem left_nil (w : World) : Calls Try.prog 102 #[.pointer none] w fun e w' => e = .returned (.int .i64 0) ∧ w = w' := by
  go_enter Try.func102, Try.ntmps102
  go_wp2_with fail
  go_ret
  exact ⟨rfl, rfl⟩
theorem ok_any (top g : Nat) (r : Rd) (w : World) (h : RdIs w 111 top g r) :
    Calls Try.prog 101 #[.pointer (some ⟨g, 0, none⟩)] w fun e w' => e = .returned (.bool !r.f) ∧ w = w' := by
  obtain ⟨A, c, hblk, -, -, -, -⟩ := h.ex
  have c1 := hblk.cell 1
  simp only [List.getElem?_cons_zero, List.getElem?_cons_succ] at c1
  clear h hblk
  go_enter Try.func101, Try.ntmps101
  go_wp2_with fail
  go_ret
  exact ⟨rfl, rfl⟩
theorem ok_nil (w : World) : Calls Try.prog 101 #[.pointer none] w fun e w' => e = .returned (.bool false) ∧ w = w' := by
  go_enter Try.func101, Try.ntmps101
  go_wp2_with fail
  go_ret
  exact ⟨rfl, rfl⟩
/-- what End answers -/
def endR (r : Rd) : Int := if r.f || decide (0 < r.p.length) then 2 else 0
set_option maxHeartbeats 1000000 in
theorem end_any (top g : Nat) (r : Rd) (w : World) (h : RdIs w 111 top g r) :
    Calls Try.prog 77 #[.pointer (some ⟨g, 0, none⟩)] w fun e w' => e = .returned (.int .i64 (endR r)) ∧ w = w' := by
  have H := Lib.hid h; clear h
  cases hf : r.f with
  | true =>
    have HE : Hid (endR r = 2) := by show _ = _; simp [endR, hf]
    go_enter Try.func77, Try.ntmps77
    go_wp2_with fail
    refine (ok_any top g r w H.out).mono ?_
    rintro e w1 ⟨rfl, rfl⟩
    go_wp2_with fail
    go_ret
    exact ⟨ret_int HE.out.symm, rfl⟩
  | false =>
    by_cases hl : 0 < r.p.length
    · have HE : Hid (endR r = 2) := by show _ = _; simp [endR, hf, hl]
      have hl' : (0 : Int) < r.p.length := by omega
      go_enter Try.func77, Try.ntmps77
      go_wp2_with fail
      refine (ok_any top g r w H.out).mono ?_
      rintro e w1 ⟨rfl, rfl⟩
      go_wp2_with fail
      refine (left_any top g r w H.out).mono ?_
      rintro e w1 ⟨rfl, rfl⟩
      go_wp2_with fail
      go_ret
      exact ⟨ret_int HE.out.symm, rfl⟩
    · have HE : Hid (endR r = 0) := by show _ = _; simp [endR, hf, hl]
      have hl' : ¬ (0 : Int) < r.p.length := by omega
      go_enter Try.func77, Try.ntmps77
      go_wp2_with fail
      refine (ok_any top g r w H.out).mono ?_
      rintro e w1 ⟨rfl, rfl⟩
      go_wp2_with fail
      refine (left_any top g r w H.out).mono ?_
      rintro e w1 ⟨rfl, rfl⟩
      go_wp2_with fail
      go_ret
      exact ⟨ret_int HE.out.symm, rfl⟩
theorem end_nil (w : World) : Calls Try.prog 77 #[.pointer none] w fun e w' => e = .returned (.int .i64 2) ∧ w = w' := by
  go_enter Try.func77, Try.ntmps77
  go_wp2_with fail
  refine (ok_nil w).mono ?_
  rintro e w1 ⟨rfl, rfl⟩
  go_wp2_with fail
  go_ret
  exact ⟨rfl, rfl⟩
/-- what take comes to -/
def TakePost (w : World) (T : TypeId) (top g n : Nat) (r : Rd) (e : Ending) (w' : World) : Prop :=
  ∃ A c, e = .returned (.slice A (taken n r).length c) ∧ SrcIs w' A (taken n r) ∧ RdIs w' T top g (after n r) ∧ OnlyAt g w w'
theorem take_close {w : World} {T : TypeId} {top g n b o c k c' : Nat} {r : Rd} {A' : Option Addr} (hblk : Blk w g T [.slice (some ⟨b, o, none⟩) r.p.length c, .bool r.f]) (hB : BytesAt w b o r.p) (hb : b < top) (hle : top ≤ g)
    (hn : n ≤ r.p.length) (h1 : ∀ a, A' = some a → a.block = b) (h2 : 0 < r.p.length - n → A' = some ⟨b, o + n, none⟩) (h3 : A' = none → c' = 0) (h4 : r.p.length - n ≤ c') :
    TakePost w T top g n r (.returned (.slice (some ⟨b, o, none⟩) n k)) (w.setCell ⟨g, 0, none⟩ (.slice A' (r.p.length - n) c')) := by
  obtain ⟨e1, e2⟩ := taken_all n r hn
  have ho : OnlyAt g w (w.setCell ⟨g, 0, none⟩ (.slice A' (r.p.length - n) c')) := (OnlyAt.refl g w).setCell 0 _
  have hB' : BytesAt (w.setCell ⟨g, 0, none⟩ (.slice A' (r.p.length - n) c')) b o r.p := hB.same (Below.heap_setCell w ⟨g, 0, none⟩ _ b (by simp; omega))
  refine ⟨some ⟨b, o, none⟩, k, by rw [e1]; simp; omega, ?_, ?_, ho⟩
  · rw [e1]; exact bytes_src (hB'.take n)
  · refine ⟨⟨A', c', ?_, h3, by rw [e2]; simpa using h4, ?_, fun _ a ha => by rw [h1 a ha]; exact hb⟩, hle⟩
    · have := hblk.set 0 (.slice A' (r.p.length - n) c')
      rw [e2]; simpa using this
    · rw [e2]; intro h0
      simp only [List.length_drop] at h0
      exact ⟨b, o + n, h2 h0, hB'.drop n⟩
set_option maxHeartbeats 1000000 in
theorem take_any (top g n : Nat) (hn : n ≤ 1000000) (r : Rd) (hr : r.p.length ≤ 1000000) (w : World) (h : RdIs w 111 top g r) :
    Calls Try.prog 96 #[.pointer (some ⟨g, 0, none⟩), .int .i64 n] w (TakePost w 111 top g n r) := by
  have H := Lib.hid h; clear h
  by_cases hlt : r.p.length < n
  · obtain ⟨e1, e2⟩ := taken_few n r hlt
    have HE1 := Lib.hid e1; have HE2 := Lib.hid e2
    have hlt' : (r.p.length : Int) < n := by omega
    clear e1 e2
    go_enter Try.func96, Try.ntmps96
    go_wp2_with fail
    refine (left_any top g r w H.out).mono ?_
    rintro e w1 ⟨rfl, rfl⟩
    go_wp2_with fail
    refine (fail_any top g r w H.out).mono ?_
    rintro e w1 ⟨rfl, h1, h2⟩
    have HR := Lib.hid h1; have HO := Lib.hid h2
    clear h1 h2
    go_wp2_with fail
    go_ret
    exact ⟨none, 0, by rw [HE1.out]; rfl, (fun h => by rw [HE1.out] at h; exact absurd h (by simp)), by rw [HE2.out]; exact HR.out, HO.out⟩
  · obtain ⟨e1, e2⟩ := taken_all n r (by omega)
    have HE1 := Lib.hid e1; have HE2 := Lib.hid e2
    have hlt' : ¬ ((r.p.length : Int) < n) := by omega
    clear e1 e2
    by_cases h0 : n = 0
    · subst h0
      have HE3 : Hid (after 0 r = r) := by show _ = _; rw [HE2.out]; simp
      go_enter Try.func96, Try.ntmps96
      go_wp2_with fail
      refine (left_any top g r w H.out).mono ?_
      rintro e w1 ⟨rfl, rfl⟩
      go_wp2_with fail
      go_ret
      exact ⟨none, 0, by rw [HE1.out]; rfl, (fun h => by rw [HE1.out] at h; exact absurd h (by simp)), by rw [HE3.out]; exact H.out, OnlyAt.refl g w⟩
    · have h0' : ((n : Int) == 0) = false := by rw [beq_eq_false_iff_ne]; omega
      obtain ⟨A, c, hblk, hN, hc, hS, hA⟩ := H.out.ex
      obtain ⟨b, o, rfl, hB⟩ := hS (by omega)
      have hbt := hA (by omega) _ rfl
      simp only at hbt
      have hle := H.out.le
      have c0 := hblk.cell 0
      have f0 := hblk.frozen 0
      simp only [List.getElem?_cons_zero] at c0
      have HBy := Lib.hid hB; have HBlk := Lib.hid hblk
      have hnc : n ≤ c := by omega
      have hnl : n ≤ r.p.length := by omega
      have HTL : Hid ((taken n r).length = n) := by show _ = _; rw [HE1.out]; simp; omega
      have HDL : Hid ((after n r).p.length = r.p.length - n) := by show _ = _; rw [HE2.out]; simp
      clear hB hblk hS hA hN
      by_cases hcap : c = n
      · subst hcap
        go_enter Try.func96, Try.ntmps96
        go_wp2_with fail
        refine (left_any top g r w H.out).mono ?_
        rintro e w1 ⟨rfl, rfl⟩
        go_wp2_with fail
        go_ret
        have := take_close (n := c) (k := c) (c' := 0) (A' := some ⟨b, o, none⟩) HBlk.out HBy.out hbt hle hnl (fun a ha => by cases ha; rfl) (fun h => by omega) (fun h => by cases h) (by omega)
        rw [show r.p.length - c = 0 by omega] at this
        exact this
      · have hcap' : n < c := by omega
        go_enter Try.func96, Try.ntmps96
        go_wp2_with fail
        refine (left_any top g r w H.out).mono ?_
        rintro e w1 ⟨rfl, rfl⟩
        go_wp2_with fail
        go_ret
        exact take_close (k := n) HBlk.out HBy.out hbt hle hnl (fun a ha => by cases ha; rfl) (fun _ => rfl) (fun h => by cases h) (by omega)
end Go.Proofs.Ytlehgacbcacokaa
