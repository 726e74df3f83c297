/- Names, paths, texts that rise: as mathematics. No program is named. -/
import Derived.Test.YtkmjknehbaofcaaBMath
import Derived.Test.YtkmjknehbaofcaaWMath
import GoSem.Claim
namespace NameMath
open Go BaseMath

theorem bl_trans : ∀ {a b c : List By}, Op.bytesLess a b = true → Op.bytesLess b c = true → Op.bytesLess a c = true
  | _, [], _, h, _ => by simp [Op.bytesLess] at h
  | _, _ :: _, [], _, h => by simp [Op.bytesLess] at h
  | [], _ :: _, _ :: _, _, _ => by simp [Op.bytesLess]
  | x :: a, y :: b, z :: c, h1, h2 => by
    simp only [Op.bytesLess, Bool.or_eq_true, Bool.and_eq_true, decide_eq_true_eq, beq_iff_eq, UInt8.lt_iff_toNat_lt] at h1 h2 ⊢
    rcases h1 with h1 | ⟨rfl, h1⟩
    · rcases h2 with h2 | ⟨rfl, h2⟩
      · left; omega
      · left; exact h1
    · rcases h2 with h2 | ⟨rfl, h2⟩
      · left; exact h2
      · right; exact ⟨rfl, bl_trans h1 h2⟩
theorem bl_total : ∀ a b : List By, (Op.bytesLess a b || a == b) = false → Op.bytesLess b a = true
  | [], [], h => by simp at h
  | [], _ :: _, h => by simp [Op.bytesLess] at h
  | _ :: _, [], _ => by simp [Op.bytesLess]
  | x :: a, y :: b, h => by
    have ih := bl_total a b
    simp only [Bool.or_eq_false_iff, Op.bytesLess, Bool.and_eq_false_iff, decide_eq_false_iff_not, beq_eq_false_iff_ne, ne_eq, List.cons.injEq, not_and] at h
    obtain ⟨⟨h1, h2⟩, h3⟩ := h
    simp only [Op.bytesLess, Bool.or_eq_true, Bool.and_eq_true, decide_eq_true_eq, beq_iff_eq]
    by_cases e : x = y
    · subst e
      right
      refine ⟨rfl, ih ?_⟩
      rcases h2 with h2 | h2
      · exact absurd rfl h2
      · rw [h2, Bool.false_or, beq_eq_false_iff_ne]; exact h3 rfl
    · left
      rw [UInt8.lt_iff_toNat_lt] at h1 ⊢
      have : x.toNat ≠ y.toNat := fun h => e (UInt8.toNat_inj.1 h)
      omega
theorem bl_irrefl : ∀ a : List By, Op.bytesLess a a = false
  | [] => rfl
  | x :: a => by simp [Op.bytesLess, bl_irrefl a]
theorem bl_asymm {a b : List By} (h : Op.bytesLess a b = true) : Op.bytesLess b a = false := by
  cases h2 : Op.bytesLess b a with
  | false => rfl
  | true => have := bl_trans h h2; rw [bl_irrefl] at this; cases this
theorem bl_ne {a b : List By} (h : Op.bytesLess a b = true) : (a == b) = false := by
  rw [beq_eq_false_iff_ne]; rintro rfl; rw [bl_irrefl] at h; cases h
/-- a text put among those that rise -/
def insS (s : List By) : List (List By) → List (List By)
  | [] => [s]
  | p :: r => if Op.bytesLess s p = true then s :: p :: r else if (s == p) = true then p :: r else p :: insS s r
/-- .. as the reference goes about it -/
def insGo (s : List By) : Bool → List (List By) → List (List By)
  | d, [] => if d then [] else [s]
  | d, p :: r => (if !d && Op.bytesLess s p then [s] else []) ++ (p :: insGo s (d || Op.bytesLess s p || s == p) r)
theorem insGo_true (s : List By) : ∀ l, insGo s true l = l
  | [] => rfl
  | p :: r => by simp [insGo, insGo_true s r]
theorem insGo_eq (s : List By) : ∀ l, insGo s false l = insS s l
  | [] => rfl
  | p :: r => by
    unfold insGo insS
    cases h1 : Op.bytesLess s p with
    | true => simp [insGo_true]
    | false =>
      cases h2 : s == p with
      | true => simp [insGo_true]
      | false => simp [insGo_eq s r]
def rise (l : List (List By)) : List (List By) := l.foldl (fun out s => insS s out) []
theorem rise_take (l : List (List By)) (i : Nat) (h : i < l.length) : rise (l.take (i + 1)) = insS l[i] (rise (l.take i)) := by
  unfold rise; rw [List.take_succ_eq_append_getElem h, List.foldl_append]; rfl
theorem rise_all (l : List (List By)) : rise (l.take l.length) = rise l := by rw [List.take_length]
def Rises (l : List (List By)) : Prop := l.Pairwise fun p q => Op.bytesLess p q = true
theorem insS_mem {s : List By} : ∀ {l : List (List By)} {q : List By}, q ∈ insS s l ↔ q = s ∨ q ∈ l
  | [], q => by simp [insS]
  | p :: r, q => by
    unfold insS
    split
    · simp
    · split
      · rename_i h; rw [beq_iff_eq] at h; subst h; simp
      · rw [List.mem_cons, insS_mem, List.mem_cons]
        constructor
        · rintro (h | h | h) <;> simp [h]
        · rintro (h | h | h) <;> simp [h]
theorem insS_rises {s : List By} : ∀ {l : List (List By)}, Rises l → Rises (insS s l)
  | [], _ => by simp [insS, Rises]
  | p :: r, h => by
    have hp := (List.pairwise_cons.1 h)
    unfold insS
    split
    · rename_i h1
      refine List.pairwise_cons.2 ⟨fun q hq => ?_, h⟩
      rcases List.mem_cons.1 hq with rfl | hq
      · exact h1
      · exact bl_trans h1 (hp.1 q hq)
    · split
      · exact h
      · rename_i h1 h2
        refine List.pairwise_cons.2 ⟨fun q hq => ?_, insS_rises hp.2⟩
        rcases insS_mem.1 hq with rfl | hq
        · refine bl_total _ _ ?_
          rw [Bool.or_eq_false_iff]; exact ⟨by simpa using h1, by simpa using h2⟩
        · exact hp.1 q hq
theorem rises_foldl : ∀ (l out : List (List By)), Rises out → Rises (l.foldl (fun out s => insS s out) out)
  | [], _, h => h
  | _ :: l, _, h => rises_foldl l _ (insS_rises h)
theorem rise_rises (l : List (List By)) : Rises (rise l) := rises_foldl l [] List.Pairwise.nil
theorem mem_foldl : ∀ (l out : List (List By)) (q : List By), q ∈ l.foldl (fun out s => insS s out) out ↔ q ∈ l ∨ q ∈ out
  | [], out, q => by simp
  | s :: l, out, q => by
    rw [List.foldl_cons, mem_foldl l, insS_mem, List.mem_cons]
    constructor
    · rintro (h | h | h) <;> simp [h]
    · rintro ((h | h) | h) <;> simp [h]
theorem mem_rise {l : List (List By)} {q : List By} : q ∈ rise l ↔ q ∈ l := by unfold rise; rw [mem_foldl]; simp
theorem insS_end {s : List By} : ∀ {l : List (List By)}, (∀ p ∈ l, Op.bytesLess p s = true) → insS s l = l ++ [s]
  | [], _ => rfl
  | p :: r, h => by
    have h1 := h p (by simp)
    have h2 : (s == p) = false := by
      rw [beq_eq_false_iff_ne]; rintro rfl; rw [bl_irrefl] at h1; cases h1
    unfold insS
    rw [bl_asymm h1, h2, insS_end (fun q hq => h q (by simp [hq]))]; rfl
theorem foldl_rises : ∀ (l out : List (List By)), Rises (out ++ l) → l.foldl (fun out s => insS s out) out = out ++ l
  | [], out, _ => by simp
  | s :: l, out, h => by
    have h2 : Rises ((out ++ [s]) ++ l) := by simpa using h
    rw [List.foldl_cons, insS_end (fun p hp => ?_), foldl_rises l _ h2]
    · simp
    · exact (List.pairwise_append.1 h).2.2 p hp s (by simp)
/-- WHAT RISES STAYS -/
theorem rise_same {l : List (List By)} (h : Rises l) : rise l = l := foldl_rises l [] (by simpa using h)
/-- two that rise and have the same texts are one -/
theorem rises_ext : ∀ {a b : List (List By)}, Rises a → Rises b → (∀ q, q ∈ a ↔ q ∈ b) → a = b
  | [], [], _, _, _ => rfl
  | [], y :: b, _, _, h => absurd ((h y).2 (by simp)) (by simp)
  | x :: a, [], _, _, h => absurd ((h x).1 (by simp)) (by simp)
  | x :: a, y :: b, ha, hb, h => by
    have ha' := List.pairwise_cons.1 ha; have hb' := List.pairwise_cons.1 hb
    have e : x = y := by
      rcases List.mem_cons.1 ((h x).1 (by simp)) with e | e
      · exact e
      · rcases List.mem_cons.1 ((h y).2 (by simp)) with e2 | e2
        · exact e2.symm
        · have h1 := hb'.1 x e; have h2 := ha'.1 y e2
          rw [bl_asymm h1] at h2; cases h2
    subst e
    congr 1
    refine rises_ext ha'.2 hb'.2 fun q => ?_
    constructor
    · intro hq
      rcases List.mem_cons.1 ((h q).1 (by simp [hq])) with e | e
      · subst e; have := ha'.1 q hq; rw [bl_irrefl] at this; cases this
      · exact e
    · intro hq
      rcases List.mem_cons.1 ((h q).2 (by simp [hq])) with e | e
      · subst e; have := hb'.1 q hq; rw [bl_irrefl] at this; cases this
      · exact e

/-- a sign of a name -/
def signB (c : By) : Bool := (decide (97 ≤ c.toNat) && decide (c.toNat ≤ 122)) || (decide (48 ≤ c.toNat) && decide (c.toNat ≤ 57)) || decide (c.toNat = 43) || decide (c.toNat = 45) || decide (c.toNat = 46) || decide (c.toNat = 95)
/-- may it be a name? -/
def rightB (s : List By) : Bool := decide (1 ≤ s.length) && decide (s.length ≤ 40) && !(s.getD 0 0 == 46) && s.all signB
/-- is it a path? -/
def pathB (s : List By) : Bool := decide (33 < s.length) && (s.getD 32 0 == 45) && rightB (s.drop 33) && good (s.take 32)
theorem path_letters {p : List By} (hp : p.length = 20) (n : List By) (hn : rightB n = true) : pathB (text p ++ 45 :: n) = true := by
  have hl : (text p).length = 32 := by rw [text_length, hp]; rfl
  have h1 : 1 ≤ n.length := by unfold rightB at hn; simp at hn; omega
  unfold pathB
  have e1 : (text p ++ 45 :: n).getD 32 0 = 45 := by
    rw [List.getD_eq_getElem?_getD, List.getElem?_append_right (by omega), hl]; rfl
  have e2 : (text p ++ 45 :: n).drop 33 = n := by
    rw [show (33 : Nat) = (text p).length + 1 by omega, List.drop_append]; simp
  have e3 : (text p ++ 45 :: n).take 32 = text p := by rw [← hl, List.take_left']; rfl
  rw [e1, e2, e3, hn, (text_good p).1]
  simp; omega
/-- the bytes that a path's letters are made of -/
def laidB (sm : List By) (refs : List (List By)) (name : List By) : List By := WireMath.textB sm ++ WireMath.textsB refs ++ WireMath.textB name
end NameMath
namespace NameMath
open Go BaseMath
def signs : List By := [97, 98, 99, 100, 101, 102, 103, 104, 105, 106, 107, 108, 109, 110, 111, 112, 113, 114, 115, 116, 117, 118, 119, 120, 121, 122, 48, 49, 50, 51, 52, 53, 54, 55, 56, 57, 43, 45, 46, 95]
theorem sign_all : ∀ n, n < 256 → signs.any (· == UInt8.ofNat n) = signB (UInt8.ofNat n) := by decide +kernel
theorem sign_any (c : By) : signs.any (· == c) = signB c := by
  have := sign_all c.toNat c.toNat_lt
  simpa using this
theorem right_short {s : List By} (h : ¬ 1 ≤ s.length) : rightB s = false := by unfold rightB; rw [decide_eq_false h]; rfl
theorem right_long {s : List By} (h : ¬ s.length ≤ 40) : rightB s = false := by unfold rightB; rw [decide_eq_false h]; simp
theorem right_point {s : List By} (h : (s.getD 0 0 == 46) = true) : rightB s = false := by unfold rightB; rw [h]; simp
theorem right_sign {s : List By} (k : Nat) (hk : k < s.length) (h : signB s[k] = false) : rightB s = false := by
  have : s.all signB = false := by rw [List.all_eq_false]; exact ⟨s[k], List.getElem_mem hk, by simp [h]⟩
  unfold rightB; rw [this]; simp
theorem right_all {s : List By} (h1 : 1 ≤ s.length) (h2 : s.length ≤ 40) (h3 : (s.getD 0 0 == 46) = false) (h : ∀ k (hk : k < s.length), signB s[k] = true) : rightB s = true := by
  have : s.all signB = true := by
    rw [List.all_eq_true]; intro c hc
    obtain ⟨k, hk, rfl⟩ := List.getElem_of_mem hc
    exact h k hk
  unfold rightB; rw [this, h3, decide_eq_true h1, decide_eq_true h2]; rfl
end NameMath
namespace NameMath
open Go BaseMath
theorem insS_length (s : List By) : ∀ l, (insS s l).length ≤ l.length + 1
  | [] => by simp [insS]
  | p :: r => by
    have := insS_length s r
    unfold insS
    split
    · simp
    · split
      · simp
      · simp; omega
theorem rise_length (l : List (List By)) : ∀ i, i ≤ l.length → (rise (l.take i)).length ≤ i
  | 0, _ => by simp [rise]
  | i + 1, h => by
    rw [rise_take l i (by omega)]
    have h1 := insS_length l[i] (rise (l.take i)); have h2 := rise_length l i (by omega)
    omega
theorem rise_len (l : List (List By)) : (rise l).length ≤ l.length := by have := rise_length l l.length (Nat.le_refl _); rwa [List.take_length] at this
/-- what stands ahead of an inner round: the texts laid, the flag, those to come -/
theorem ins_step {s p : List By} {d : Bool} {acc r : List (List By)} {T : List (List By)} (h : acc ++ insGo s d (p :: r) = T) :
    (acc ++ (if !d && Op.bytesLess s p then [s] else []) ++ [p]) ++ insGo s (d || Op.bytesLess s p || s == p) r = T := by
  rw [← h]; simp [insGo]
theorem ins_end {s : List By} {d : Bool} {acc T : List (List By)} (h : acc ++ insGo s d [] = T) : (if d then acc else acc ++ [s]) = T := by
  rw [← h]; cases d <;> simp [insGo]
end NameMath
