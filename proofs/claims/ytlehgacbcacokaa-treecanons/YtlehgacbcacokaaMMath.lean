/- Trees by numbers: titles, where a node hangs, a kid put in its place, how many there are. No program is named. -/
import Derived.Test.YtlehgacbcacokaaEMath
namespace TreeMath
open Go RealMath

def titleN (n : By) : List By := [UInt8.ofNat (97 + n.toNat % 26), UInt8.ofNat (97 + n.toNat / 26)]
theorem title_all : ∀ n, n < 256 → nameOk [UInt8.ofNat (97 + n % 26), UInt8.ofNat (97 + n / 26)] = true := by decide +kernel
theorem title_ok (n : By) : nameOk (titleN n) = true := title_all n.toNat n.toNat_lt
/-- an entry of a list -/
structure Md where
  up : By
  kind : By
  name : By
  da : Option Addr
  dc : Nat
  data : List By
  run : Bool
  stamp : Nat
theorem bl_trans : ∀ {a b c : List By}, Op.bytesLess a b = true → Op.bytesLess b c = true → Op.bytesLess a c = true
  | _, [], _, h, _ => by simp [Op.bytesLess] at h
  | _, _ :: _, [], _, h => by simp [Op.bytesLess] at h
  | [], _ :: _, _ :: _, _, _ => by simp [Op.bytesLess]
  | x :: a, y :: b, z :: c, h1, h2 => by
    simp only [Op.bytesLess, Bool.or_eq_true, Bool.and_eq_true, decide_eq_true_eq, beq_iff_eq, UInt8.lt_iff_toNat_lt] at h1 h2 ⊢
    rcases h1 with h1 | ⟨rfl, h1⟩
    · rcases h2 with h2 | ⟨rfl, h2⟩
      · left; omega
      · left; exact h1
    · rcases h2 with h2 | ⟨rfl, h2⟩
      · left; exact h2
      · right; exact ⟨rfl, bl_trans h1 h2⟩
theorem bl_total : ∀ a b : List By, (Op.bytesLess a b || a == b) = false → Op.bytesLess b a = true
  | [], [], h => by simp at h
  | [], _ :: _, h => by simp [Op.bytesLess] at h
  | _ :: _, [], _ => by simp [Op.bytesLess]
  | x :: a, y :: b, h => by
    have ih := bl_total a b
    simp only [Bool.or_eq_false_iff, Op.bytesLess, Bool.and_eq_false_iff, decide_eq_false_iff_not, beq_eq_false_iff_ne, ne_eq, List.cons.injEq, not_and] at h
    obtain ⟨⟨h1, h2⟩, h3⟩ := h
    simp only [Op.bytesLess, Bool.or_eq_true, Bool.and_eq_true, decide_eq_true_eq, beq_iff_eq]
    by_cases e : x = y
    · subst e
      right
      refine ⟨rfl, ih ?_⟩
      rcases h2 with h2 | h2
      · exact absurd rfl h2
      · rw [h2, Bool.false_or, beq_eq_false_iff_ne]; exact h3 rfl
    · left
      rw [UInt8.lt_iff_toNat_lt] at h1 ⊢
      have : x.toNat ≠ y.toNat := fun h => e (UInt8.toNat_inj.1 h)
      omega
abbrev Ent := List By × T
def leB (s q : List By) : Bool := Op.bytesLess s q || s == q
/-- a kid in its place, or in that of its name -/
def insR (s : List By) (k : T) : List Ent → List Ent
  | [] => [(s, k)]
  | p :: r => if leB s p.1 = true then (if (s == p.1) = true then (s, k) :: r else (s, k) :: p :: r) else p :: insR s k r
def Sorted (ps : List Ent) : Prop := ps.Pairwise fun p q => Op.bytesLess p.1 q.1 = true
theorem insR_mem {s : List By} {k : T} : ∀ {ps : List Ent} {q : Ent}, q ∈ insR s k ps → q = (s, k) ∨ q ∈ ps
  | [], q, h => by simp [insR] at h; exact .inl h
  | p :: r, q, h => by
    rw [insR] at h
    split at h
    · split at h
      · rcases List.mem_cons.1 h with e | e
        · exact .inl e
        · exact .inr (List.mem_cons_of_mem _ e)
      · rcases List.mem_cons.1 h with e | e
        · exact .inl e
        · exact .inr e
    · rcases List.mem_cons.1 h with e | e
      · exact .inr (by rw [e]; simp)
      · exact (insR_mem e).imp id (List.mem_cons_of_mem _)
theorem insR_sorted {s : List By} {k : T} : ∀ {ps : List Ent}, Sorted ps → Sorted (insR s k ps)
  | [], _ => by simp [insR, Sorted]
  | p :: r, h => by
    have h' := h
    unfold Sorted at h'
    rw [List.pairwise_cons] at h'
    obtain ⟨h1, h2⟩ := h'
    rw [insR]
    split
    · rename_i hle
      split
      · rename_i heq
        have e : s = p.1 := by simpa using heq
        unfold Sorted; rw [List.pairwise_cons]
        exact ⟨fun q hq => by simp only; rw [e]; exact h1 q hq, h2⟩
      · rename_i hne
        have hl : Op.bytesLess s p.1 = true := by
          unfold leB at hle
          rw [Bool.or_eq_true] at hle
          exact hle.resolve_right hne
        unfold Sorted; rw [List.pairwise_cons]
        refine ⟨fun q hq => ?_, h⟩
        rcases List.mem_cons.1 hq with e | e
        · rw [e]; exact hl
        · exact bl_trans hl (h1 q e)
    · rename_i hle
      have hl : Op.bytesLess p.1 s = true := bl_total s p.1 (by unfold leB at hle; simpa using hle)
      unfold Sorted; rw [List.pairwise_cons]
      refine ⟨fun q hq => ?_, insR_sorted h2⟩
      rcases insR_mem hq with e | e
      · rw [e]; exact hl
      · exact h1 q e
theorem insR_length (s : List By) (k : T) : ∀ ps : List Ent, (insR s k ps).length ≤ ps.length + 1
  | [] => by simp [insR]
  | p :: r => by
    rw [insR]
    split
    · split <;> simp
    · have := insR_length s k r; simp; omega
theorem insR_count (s : List By) (k : T) : ∀ ps : List Ent, (allL ((insR s k ps).map Prod.snd)).length ≤ (allL (ps.map Prod.snd)).length + count k
  | [] => by simp [insR, allL, count]
  | p :: r => by
    have ih := insR_count s k r
    rw [insR]
    unfold count at ih ⊢
    split
    · split
      · simp only [List.map_cons, allL, List.length_append]; omega
      · simp only [List.map_cons, allL, List.length_append]; omega
    · simp only [List.map_cons, allL, List.length_append]; omega
theorem namesOk_sorted {ps : List Ent} (h : Sorted ps) (hn : ∀ p ∈ ps, nameOk p.1 = true) : namesOk (ps.map Prod.fst) = true := by
  refine namesOk_true fun k hk => ?_
  have hk' : k < ps.length := by simpa using hk
  by_cases h0 : 0 < k
  · rw [goodAt_pos _ k h0 hk, List.getElem_map, List.getElem_map, hn _ (List.getElem_mem _), Bool.true_and]
    exact List.pairwise_iff_getElem.1 h (k - 1) k (by omega) hk' (by omega)
  · have e : k = 0 := by omega
    subst e
    rw [goodAt_zero _ hk, List.getElem_map]
    exact hn _ (List.getElem_mem _)
/-- what is above -/
inductive Under (par : Nat → Nat) (a : Nat) : Nat → Prop
  | self : Under par a a
  | up (j : Nat) (h : a < j) (hu : Under par a (par j)) : Under par a j
theorem Under.le {par : Nat → Nat} {a j : Nat} (h : Under par a j) : a ≤ j := by
  cases h with
  | self => exact Nat.le_refl _
  | up _ h _ => omega
theorem Under.lin {par : Nat → Nat} {a b j : Nat} (h : Under par a j) (k : Under par b j) : Under par a b ∨ Under par b a := by
  induction h with
  | self => exact .inr k
  | up j hj hu ih =>
    cases k with
    | self => exact .inl (.up _ hj hu)
    | up _ hb hk => exact ih hk
theorem Under.trans {par : Nat → Nat} {a c j : Nat} (h : Under par c j) (k : Under par a c) : Under par a j := by
  induction h with
  | self => exact k
  | up j hj hu ih => exact .up j (by have := k.le; omega) ih
theorem Under.apart {par : Nat → Nat} {a c d j : Nat} (hc : Under par c j) (hd : Under par d j) (h1 : par c = a) (h2 : par d = a) (g1 : a < c) (g2 : a < d) : c = d := by
  have key : ∀ {c d : Nat}, par c = a → par d = a → a < c → a < d → Under par c d → c = d := fun h1 h2 g1 g2 h => by
    cases h with
    | self => rfl
    | up _ _ hu => rw [h2] at hu; have := hu.le; omega
  rcases hc.lin hd with h | h
  · exact key h1 h2 g1 g2 h
  · exact (key h2 h1 g2 g1 h).symm
theorem countP_two {p q r : Nat → Bool} (l : List Nat) (h1 : ∀ j ∈ l, p j = true → q j = false) (h2 : ∀ j ∈ l, p j = true ∨ q j = true → r j = true) : l.countP p + l.countP q ≤ l.countP r := by
  induction l with
  | nil => simp
  | cons a l ih =>
    have ih := ih (fun j hj => h1 j (by simp [hj])) (fun j hj => h2 j (by simp [hj]))
    have a1 := h1 a (by simp); have a2 := h2 a (by simp)
    rw [List.countP_cons, List.countP_cons, List.countP_cons]
    cases hp : p a <;> cases hq : q a <;> cases hr : r a <;> simp_all <;> omega
open Classical in
noncomputable def cnt (par : Nat → Nat) (n a : Nat) : Nat := (List.range n).countP fun j => decide (Under par a j)
open Classical in
noncomputable def below (par : Nat → Nat) (n a i : Nat) : Nat := (List.range n).countP fun j => decide (∃ c, a < c ∧ c < i ∧ par c = a ∧ Under par c j)
open Classical in
theorem cnt_le (par : Nat → Nat) (n a : Nat) : cnt par n a ≤ n := by
  unfold cnt; have := List.countP_le_length (p := fun j => decide (Under par a j)) (l := List.range n); simpa using this
open Classical in
theorem below_step (par : Nat → Nat) (n a i : Nat) (h : par i = a) (hi : a < i) : below par n a i + cnt par n i ≤ below par n a (i + 1) := by
  unfold below cnt
  refine countP_two _ ?_ ?_
  · intro j _ hp
    obtain ⟨c, h1, h2, h3, h4⟩ := of_decide_eq_true hp
    refine decide_eq_false fun hu => ?_
    have := Under.apart h4 hu h3 h h1 hi
    omega
  · intro j _ hp
    rcases hp with hp | hp
    · obtain ⟨c, h1, h2, h3, h4⟩ := of_decide_eq_true hp
      exact decide_eq_true ⟨c, h1, by omega, h3, h4⟩
    · exact decide_eq_true ⟨i, hi, by omega, h, of_decide_eq_true hp⟩
open Classical in
theorem below_mono (par : Nat → Nat) (n a i : Nat) : below par n a i ≤ below par n a (i + 1) := by
  unfold below
  refine List.countP_mono_left fun j _ hp => ?_
  obtain ⟨c, h1, h2, h3, h4⟩ := of_decide_eq_true hp
  exact decide_eq_true ⟨c, h1, by omega, h3, h4⟩
open Classical in
theorem below_cnt (par : Nat → Nat) (n a i : Nat) (ha : a < n) : below par n a i + 1 ≤ cnt par n a := by
  have h1 : 1 ≤ (List.range n).countP fun j => decide (j = a) := List.countP_pos_iff.2 ⟨a, List.mem_range.2 ha, by simp⟩
  have h2 := countP_two (p := fun j => decide (∃ c, a < c ∧ c < i ∧ par c = a ∧ Under par c j)) (q := fun j => decide (j = a)) (r := fun j => decide (Under par a j)) (List.range n) ?_ ?_
  · unfold below cnt; omega
  · intro j _ hp
    obtain ⟨c, g1, g2, g3, g4⟩ := of_decide_eq_true hp
    refine decide_eq_false fun e => ?_
    subst e
    have := g4.le; omega
  · intro j _ hp
    rcases hp with hp | hp
    · obtain ⟨c, g1, g2, g3, g4⟩ := of_decide_eq_true hp
      refine decide_eq_true (g4.trans (.up c g1 ?_))
      rw [g3]; exact .self
    · have := of_decide_eq_true hp
      subst this
      exact decide_eq_true .self
/-- where the node at a place hangs -/
def parOf (l : List Md) (i : Nat) : Nat := ((l[i]?.map fun m => m.up.toNat).getD 0) % i
def eraseP (p : Ent) : Ent := (p.1, erase p.2)
theorem insR_erase (s : List By) (k : T) : ∀ ps : List Ent, (insR s k ps).map eraseP = insR s (erase k) (ps.map eraseP)
  | [] => rfl
  | p :: r => by
    rw [insR, List.map_cons, insR]
    by_cases h1 : leB s p.1 = true
    · rw [if_pos h1, if_pos (show leB s (eraseP p).1 = true from h1)]
      by_cases h2 : (s == p.1) = true
      · rw [if_pos h2, if_pos (show (s == (eraseP p).1) = true from h2)]; rfl
      · rw [if_neg h2, if_neg (show ¬ (s == (eraseP p).1) = true from h2)]; rfl
    · rw [if_neg h1, if_neg (show ¬ leB s (eraseP p).1 = true from h1), List.map_cons, insR_erase s k r]
/-- the entries of the directory at a place, of those ahead of i -/
def entT (l : List Md) (node : Nat → T) (at_ : Nat) : Nat → List Ent
  | 0 => []
  | i + 1 => if at_ < i ∧ parOf l i = at_ then insR (titleN ((l[i]?.map fun m => m.name).getD 0)) (node i) (entT l node at_ i) else entT l node at_ i
theorem entT_start (l : List Md) (node : Nat → T) (at_ : Nat) : ∀ i, i ≤ at_ + 1 → entT l node at_ i = []
  | 0, _ => rfl
  | i + 1, h => by rw [entT, if_neg (by omega), entT_start l node at_ i (by omega)]
/-- a file, or a link, of an entry -/
def leafE (x : Md) : T := if x.kind.toNat % 4 = 3 then .mk (linkE (116 :: x.data)) [] else .mk (fileE x.data x.run x.stamp) []
/-- the tree at a place, with so many levels left -/
def kidsT (l : List Md) : Nat → Nat → T
  | 0, at_ => match l[at_]? with
    | none => zeroT
    | some x => leafE x
  | m + 1, at_ => match l[at_]? with
    | none => zeroT
    | some x => if 0 < x.kind.toNat % 4 then leafE x else .mk (dirE ((entT l (kidsT l m) at_ l.length).map Prod.fst)) ((entT l (kidsT l m) at_ l.length).map Prod.snd)
theorem kidsT_leaf {l : List Md} {at_ m : Nat} (h : at_ < l.length) (hk : 0 < l[at_].kind.toNat % 4 ∨ m = 0) : kidsT l m at_ = leafE l[at_] := by
  cases m with
  | zero => rw [kidsT, List.getElem?_eq_getElem h]
  | succ m =>
    rw [kidsT, List.getElem?_eq_getElem h]
    simp only
    rw [if_pos (by rcases hk with e | e; exact e; cases e)]
theorem kidsT_dir {l : List Md} {at_ m : Nat} (h : at_ < l.length) (hk : l[at_].kind.toNat % 4 = 0) : kidsT l (m + 1) at_ = .mk (dirE ((entT l (kidsT l m) at_ l.length).map Prod.fst)) ((entT l (kidsT l m) at_ l.length).map Prod.snd) := by
  rw [kidsT, List.getElem?_eq_getElem h]
  simp only
  rw [if_neg (by omega)]
/-- the tree of a list -/
def makeT (l : List Md) : T := if l.length = 0 then .mk (fileE [] false 0) [] else kidsT (l.take 40) 7 0
/-- a tree that was made so -/
structure MadeT (l : List Md) (at_ deep : Nat) (t : T) : Prop where
  fits : (all t).all fitsB = true
  depth : depth t + deep ≤ 9
  count : count t ≤ cnt (parOf l) l.length at_
  eq : erase t = kidsT l (8 - deep) at_
end TreeMath
