/- Trees as data, and what the document asks of them: how many, how deep, what is right, which are alike. No program is named. -/
import Derived.Test.YtlehgacbcacokaaRMath
import GoSem.Claim
namespace TreeMath
open Go RealMath
abbrev By := UInt8
/-- a node but for its kids -/
structure Hd where
  kind : By
  na : Option Addr
  nc : Nat
  names : List (List By)
  ka : Option Addr
  kc : Nat
  da : Option Addr
  dc : Nat
  data : List By
  run : Bool
  stamp : Nat
  target : List By
inductive T where
  | mk (x : Hd) (ks : List T) : T
def T.hd : T → Hd | .mk x _ => x
def T.kids : T → List T | .mk _ ks => ks
mutual
theorem T.ind {P : T → Prop} (h : ∀ x ks, (∀ k ∈ ks, P k) → P (.mk x ks)) : ∀ t, P t
  | .mk x ks => h x ks (T.indL h ks)
theorem T.indL {P : T → Prop} (h : ∀ x ks, (∀ k ∈ ks, P k) → P (.mk x ks)) : ∀ ks : List T, ∀ k ∈ ks, P k
  | [], k, hk => by cases hk
  | a :: l, k, hk => by
    rcases List.mem_cons.1 hk with e | e
    · rw [e]; exact T.ind h a
    · exact T.indL h l k e
end
mutual
/-- a node and all below, with how many are in one another there -/
def pre (d : Nat) : T → List (T × Nat)
  | .mk x ks => (.mk x ks, d) :: preL (d + 1) ks
def preL (d : Nat) : List T → List (T × Nat)
  | [] => []
  | k :: l => pre d k ++ preL d l
end
mutual
def depth : T → Nat
  | .mk _ ks => depthL ks + 1
def depthL : List T → Nat
  | [] => 0
  | k :: l => max (depth k) (depthL l)
end
mutual
def all : T → List T
  | .mk x ks => .mk x ks :: allL ks
def allL : List T → List T
  | [] => []
  | k :: l => all k ++ allL l
end
def count (t : T) : Nat := (all t).length
def hdSame (x y : Hd) : Bool := decide (x.kind = y.kind) && decide (x.run = y.run) && decide (x.target = y.target) && decide (canonB x.stamp = canonB y.stamp) && decide (x.data = y.data) && decide (x.names = y.names)
mutual
def same : T → T → Bool
  | .mk x ks, .mk y ls => hdSame x y && sameL ks ls
def sameL : List T → List T → Bool
  | [], [] => true
  | a :: l, b :: m => same a b && sameL l m
  | [], _ :: _ => false
  | _ :: _, [] => false
end
theorem sameL_length : ∀ {l m : List T}, sameL l m = true → l.length = m.length
  | [], [], _ => rfl
  | a :: l, b :: m, h => by
    rw [sameL, Bool.and_eq_true] at h
    simp [sameL_length h.2]
  | [], _ :: _, h => by simp [sameL] at h
  | _ :: _, [], h => by simp [sameL] at h
theorem sameL_ne {l m : List T} (h : l.length ≠ m.length) : sameL l m = false := by
  cases e : sameL l m with
  | false => rfl
  | true => exact absurd (sameL_length e) h
theorem sameL_get : ∀ {l m : List T} (_ : l.length = m.length) (_ : ∀ i (h1 : i < l.length) (h2 : i < m.length), same l[i] m[i] = true), sameL l m = true
  | [], [], _, _ => by rw [sameL]
  | a :: l, b :: m, h, hs => by
    rw [sameL, Bool.and_eq_true]
    exact ⟨hs 0 (by simp) (by simp), sameL_get (by simpa using h) (fun i h1 h2 => hs (i + 1) (by simpa using h1) (by simpa using h2))⟩
  | [], _ :: _, h, _ => by simp at h
  | _ :: _, [], h, _ => by simp at h
theorem sameL_not : ∀ {l m : List T} (i : Nat) (h1 : i < l.length) (h2 : i < m.length) (_ : same l[i] m[i] = false), sameL l m = false
  | a :: l, b :: m, 0, _, _, h => by rw [sameL, show same a b = false from h]; rfl
  | a :: l, b :: m, i + 1, h1, h2, h => by rw [sameL, sameL_not (l := l) (m := m) i (by simpa using h1) (by simpa using h2) h, Bool.and_false]
  | [], _, _, h, _, _ => by simp at h
  | _ :: _, [], _, _, h, _ => by simp at h
/-- shown one by one, till one says no -/
def runs {σ : Type} (step : σ → T → Nat → σ × Bool) : σ → List (T × Nat) → σ × Bool
  | s, [] => (s, true)
  | s, (t, d) :: l => if (step s t d).2 then runs step (step s t d).1 l else ((step s t d).1, false)
theorem runs_append {σ : Type} (step : σ → T → Nat → σ × Bool) : ∀ (s : σ) (a b : List (T × Nat)), runs step s (a ++ b) = if (runs step s a).2 then runs step (runs step s a).1 b else ((runs step s a).1, false)
  | s, [], b => by simp [runs]
  | s, (t, d) :: l, b => by
    rw [List.cons_append, runs, runs]
    by_cases h : (step s t d).2 = true
    · rw [if_pos h, if_pos h, runs_append step _ l b]
    · rw [if_neg h, if_neg h]; simp
theorem preL_append (d : Nat) : ∀ a b : List T, preL d (a ++ b) = preL d a ++ preL d b
  | [], b => by simp [preL]
  | k :: l, b => by rw [List.cons_append, preL, preL, preL_append d l b, List.append_assoc]
theorem preL_take (d : Nat) (ks : List T) (i : Nat) (h : i < ks.length) : preL d (ks.take (i + 1)) = preL d (ks.take i) ++ pre d ks[i] := by
  rw [List.take_succ_eq_append_getElem h, preL_append]; simp [preL]
theorem allL_append : ∀ a b : List T, allL (a ++ b) = allL a ++ allL b
  | [], b => by simp [allL]
  | k :: l, b => by rw [List.cons_append, allL, allL, allL_append l b, List.append_assoc]
theorem allL_take (ks : List T) (i : Nat) (h : i < ks.length) : allL (ks.take (i + 1)) = allL (ks.take i) ++ all ks[i] := by
  rw [List.take_succ_eq_append_getElem h, allL_append]; simp [allL]
mutual
theorem pre_fst (d : Nat) : ∀ t, (pre d t).map Prod.fst = all t
  | .mk x ks => by rw [pre, all, List.map_cons, preL_fst (d + 1) ks]
theorem preL_fst (d : Nat) : ∀ ks, (preL d ks).map Prod.fst = allL ks
  | [] => by rw [preL, allL]; rfl
  | k :: l => by rw [preL, allL, List.map_append, pre_fst d k, preL_fst d l]
end
/-- the deepest -/
def most (l : List (T × Nat)) : Nat := l.foldl (fun a p => max a p.2) 0
theorem foldl_max (l : List (T × Nat)) : ∀ a, l.foldl (fun a p => max a p.2) a = max a (most l) := by
  unfold most
  induction l with
  | nil => intro a; simp
  | cons p l ih => intro a; rw [List.foldl_cons, List.foldl_cons, ih, ih (max 0 p.2)]; omega
theorem most_append (a b : List (T × Nat)) : most (a ++ b) = max (most a) (most b) := by
  unfold most; rw [List.foldl_append]; exact foldl_max b _
theorem most_cons (p : T × Nat) (l : List (T × Nat)) : most (p :: l) = max p.2 (most l) := by
  show most ([p] ++ l) = _; rw [most_append]; simp [most]
mutual
theorem most_pre (d : Nat) : ∀ t, most (pre (d + 1) t) = d + depth t
  | .mk x ks => by
    rw [pre, most_cons, depth]
    have := most_preL (d + 1) ks
    cases ks with
    | nil => simp [preL, depthL, most]
    | cons k l => rw [this (by simp)]; simp only; omega
theorem most_preL (d : Nat) : ∀ ks, ks ≠ [] → most (preL (d + 1) ks) = d + depthL ks
  | [], h => absurd rfl h
  | [k], _ => by rw [preL, most_append, most_pre d k, preL, depthL, depthL]; simp [most]
  | k :: j :: l, _ => by rw [preL, most_append, most_pre d k, most_preL d (j :: l) (by simp), show depthL (k :: j :: l) = max (depth k) (depthL (j :: l)) by rw [depthL]]; omega
end
theorem most_le {l : List (T × Nat)} {m : Nat} : most l ≤ m ↔ ∀ p ∈ l, p.2 ≤ m := by
  induction l with
  | nil => simp [most]
  | cons p l ih => rw [most_cons, Nat.max_le, ih]; simp
theorem depth_take (ks : List T) (i : Nat) (h : i < ks.length) : depthL (ks.take (i + 1)) = max (depthL (ks.take i)) (depth ks[i]) := by
  have key : ∀ a b : List T, depthL (a ++ b) = max (depthL a) (depthL b) := by
    intro a b; induction a with
    | nil => simp [depthL]
    | cons k l ih => rw [List.cons_append, depthL, depthL, ih]; omega
  rw [List.take_succ_eq_append_getElem h, key]; simp [depthL]
theorem depth_mem {ks : List T} {k : T} (h : k ∈ ks) : depth k ≤ depthL ks := by
  induction ks with
  | nil => cases h
  | cons a l ih =>
    rw [depthL]
    rcases List.mem_cons.1 h with e | e
    · subst e; omega
    · have := ih e; omega
theorem count_mk (x : Hd) (ks : List T) : count (.mk x ks) = (allL ks).length + 1 := by unfold count; rw [all]; simp
theorem count_pos (t : T) : 0 < count t := by cases t; rw [count_mk]; omega
mutual
theorem depth_count : ∀ t, depth t ≤ count t
  | .mk x ks => by rw [count_mk, depth]; have := depthL_count ks; omega
theorem depthL_count : ∀ ks, depthL ks ≤ (allL ks).length
  | [] => by simp [depthL]
  | k :: l => by rw [depthL, allL, List.length_append]; have := depth_count k; have := depthL_count l; unfold count at *; omega
end
/-- how many bytes -/
def size (t : T) : Nat := ((all t).map fun k => k.hd.data.length).sum
/-- may it stand in a directory? -/
def nameOk (s : List By) : Bool := decide (1 ≤ s.length) && decide (s.length ≤ 40) && !(s.any (· == 0)) && !(s.any (· == 47)) && !(s == [46]) && !(s == [46, 46])
def goodAt (ls : List (List By)) (k : Nat) : Bool := nameOk (ls.getD k []) && (decide (k = 0) || Op.bytesLess (ls.getD (k - 1) []) (ls.getD k []))
def namesOk (ls : List (List By)) : Bool := (List.range ls.length).all (goodAt ls)
theorem namesOk_false {ls : List (List By)} (k : Nat) (h : k < ls.length) (hk : goodAt ls k = false) : namesOk ls = false := by
  unfold namesOk; rw [List.all_eq_false]; exact ⟨k, List.mem_range.2 h, by rw [hk]; decide⟩
theorem namesOk_true {ls : List (List By)} (h : ∀ k, k < ls.length → goodAt ls k = true) : namesOk ls = true := by
  unfold namesOk; rw [List.all_eq_true]; intro k hk; exact h k (List.mem_range.1 hk)
theorem namesOk_at {ls : List (List By)} (h : namesOk ls = true) (k : Nat) (hk : k < ls.length) : goodAt ls k = true := by
  unfold namesOk at h; rw [List.all_eq_true] at h; exact h k (List.mem_range.2 hk)
theorem goodAt_zero (ls : List (List By)) (h : 0 < ls.length) : goodAt ls 0 = nameOk ls[0] := by
  unfold goodAt; rw [List.getD_eq_getElem?_getD, List.getElem?_eq_getElem h]; simp
theorem goodAt_pos (ls : List (List By)) (k : Nat) (h0 : 0 < k) (h : k < ls.length) : goodAt ls k = (nameOk ls[k] && Op.bytesLess (ls[k - 1]'(by omega)) ls[k]) := by
  unfold goodAt
  rw [List.getD_eq_getElem?_getD, List.getElem?_eq_getElem h, List.getD_eq_getElem?_getD, List.getElem?_eq_getElem (by omega : k - 1 < ls.length), decide_eq_false (by omega : ¬ k = 0)]
  simp
def zero : Hd := ⟨0, none, 0, [], none, 0, none, 0, [], false, 0, []⟩
def zeroT : T := .mk zero []
/-- no file's field is there -/
def noFile (x : Hd) : Bool := decide (x.data = []) && decide (x.run = false) && decide (canonB x.stamp = 0)
/-- is a node as its kind says, but for its kids? -/
def fitsB : T → Bool
  | .mk x ks =>
    if x.kind = 1 then decide (x.names.length = ks.length) && namesOk x.names && noFile x && decide (x.target = [])
    else if x.kind = 2 then decide (x.data.length ≤ 1024) && decide (x.names = []) && decide (ks.length = 0) && decide (x.target = [])
    else if x.kind = 3 then decide (1 ≤ x.target.length) && decide (x.target.length ≤ 1024) && decide (x.names = []) && decide (ks.length = 0) && noFile x
    else false
theorem same_zero (x : Hd) (ks : List T) : same (.mk x ks) zeroT = (decide (x.kind = 0) && decide (x.run = false) && decide (x.target = []) && decide (canonB x.stamp = 0) && decide (x.data = []) && decide (x.names = []) && decide (ks.length = 0)) := by
  unfold zeroT; rw [same, hdSame]
  have : sameL ks [] = decide (ks.length = 0) := by cases ks <;> simp [sameL]
  rw [this]
  rfl
end TreeMath
