/- Plain facts on bits as lists: five of a letter, eight of a byte. No program is named. -/
import Derived.Test.YthocaimiofehkaaBMath
namespace BaseMath

def bits5 (d : Nat) : List Nat := [d / 16 % 2, d / 8 % 2, d / 4 % 2, d / 2 % 2, d % 2]
def bitsOf (ds : List Nat) : List Nat := ds.flatMap bits5
theorem bitsOf_snoc (ds : List Nat) (d : Nat) : bitsOf (ds ++ [d]) = bitsOf ds ++ bits5 d := by simp [bitsOf]
theorem bitsOf_length (ds : List Nat) : (bitsOf ds).length = 5 * ds.length := by
  refine snoc_ind (P := fun ds => (bitsOf ds).length = 5 * ds.length) rfl ?_ ds
  intro l d ih; rw [bitsOf_snoc, List.length_append, ih, List.length_append]; simp [bits5]; omega
theorem bitsOf_lt (ds : List Nat) : ∀ b ∈ bitsOf ds, b < 2 := by
  intro b hb
  simp only [bitsOf, List.mem_flatMap] at hb
  obtain ⟨d, _, hd⟩ := hb
  simp only [bits5, List.mem_cons, List.not_mem_nil, or_false] at hd
  rcases hd with rfl | rfl | rfl | rfl | rfl <;> omega
theorem bitsOf_val (ds : List Nat) (h : ∀ d ∈ ds, d < 32) : val 2 (bitsOf ds) = val 32 ds := by
  revert h
  refine snoc_ind (P := fun ds => (∀ d ∈ ds, d < 32) → val 2 (bitsOf ds) = val 32 ds) (fun _ => rfl) ?_ ds
  intro l d ih h
  have h1 := ih (fun e he => h e (by simp [he]))
  have h2 := h d (by simp)
  rw [bitsOf_snoc, val_append, val_snoc, h1]
  have e1 : (bits5 d).length = 5 := rfl
  have e2 : val 2 (bits5 d) = d := by simp only [bits5, val, List.foldl_cons, List.foldl_nil]; omega
  rw [e1, e2]
/-- the number of k bits behind t -/
def nb (B : List Nat) (t k : Nat) : Nat := val 2 ((B.drop t).take k)
theorem nb_zero (B : List Nat) (t : Nat) : nb B t 0 = 0 := by simp [nb, val]
theorem nb_succ (B : List Nat) (t k : Nat) (h : t + k < B.length) : nb B t (k + 1) = 2 * nb B t k + B[t + k] := by
  unfold nb
  rw [List.take_succ_eq_append_getElem (by simp; omega), val_snoc]
  simp; omega
theorem mem_cut {B : List Nat} {t k : Nat} {b : Nat} (h : b ∈ (B.drop t).take k) : b ∈ B := List.mem_of_mem_drop (List.mem_of_mem_take h)
theorem nb_lt (B : List Nat) (hB : ∀ b ∈ B, b < 2) (t k : Nat) (hk : k ≤ 8) : nb B t k < 256 := by
  unfold nb
  have h := val_lt 2 ((B.drop t).take k) (fun b hb => hB b (mem_cut hb))
  have h2 : ((B.drop t).take k).length ≤ 8 := by simp; omega
  exact Nat.lt_of_lt_of_le h (Nat.pow_le_pow_right (by decide) h2)
def bytesN (B : List Nat) (j : Nat) : List By := (List.range j).map fun i => UInt8.ofNat (nb B (8 * i) 8)
theorem bytesN_length (B : List Nat) (j : Nat) : (bytesN B j).length = j := by simp [bytesN]
theorem bytesN_succ (B : List Nat) (j : Nat) : bytesN B (j + 1) = bytesN B j ++ [UInt8.ofNat (nb B (8 * j) 8)] := by simp [bytesN, List.range_succ]
theorem bytesN_val (B : List Nat) (hB : ∀ b ∈ B, b < 2) (j : Nat) (h : 8 * j ≤ B.length) : val 256 (nat (bytesN B j)) = val 2 (B.take (8 * j)) := by
  induction j with
  | zero => rfl
  | succ j ih =>
    have hl := nb_lt B hB (8 * j) 8 (by omega)
    rw [bytesN_succ]
    unfold nat
    rw [List.map_append, List.map_singleton, val_snoc, UInt8.toNat_ofNat_of_lt' hl]
    have ih' := ih (by omega)
    unfold nat at ih'
    rw [ih', show 8 * (j + 1) = 8 * j + 8 by omega, List.take_add, val_append]
    rw [show ((B.drop (8 * j)).take 8).length = 8 by simp; omega]; rfl
theorem bytesN_is (ds : List Nat) (h : ∀ d ∈ ds, d < 32) (m : Nat) (h1 : 8 * m ≤ 5 * ds.length) (h2 : 5 * ds.length < 8 * m + 8) : Is ds (bytesN (bitsOf ds) m) (val 2 ((bitsOf ds).drop (8 * m))) (5 * ds.length - 8 * m) := by
  have hB := bitsOf_lt ds
  have hl := bitsOf_length ds
  have hd : ((bitsOf ds).drop (8 * m)).length = 5 * ds.length - 8 * m := by rw [List.length_drop, hl]
  refine ⟨?_, ?_, by rw [bytesN_length]; omega, by omega⟩
  · rw [bytesN_val _ hB m (by omega), ← bitsOf_val ds h]
    conv => lhs; rw [← List.take_append_drop (8 * m) (bitsOf ds)]
    rw [val_append, hd]
  · have := val_lt 2 ((bitsOf ds).drop (8 * m)) (fun b hb => hB b (List.mem_of_mem_drop hb))
    rwa [hd] at this
theorem val_zeros (n : Nat) : val 2 (List.replicate n 0) = 0 := by
  induction n with
  | zero => rfl
  | succ n ih => rw [List.replicate_succ, val_cons, ih]; omega
theorem val_zero_iff (B : List Nat) (hB : ∀ b ∈ B, b < 2) : val 2 B = 0 ↔ ∀ i (h : i < B.length), B[i] = 0 := by
  constructor
  · intro h i hi
    have : B = List.replicate B.length 0 := val_inj 2 _ _ (by simp) hB (fun d hd => by have := (List.mem_replicate.1 hd).2; omega) (by rw [h, val_zeros])
    have h2 : B[i]? = some 0 := by rw [this, List.getElem?_replicate, if_pos (by simpa using hi)]
    rw [List.getElem?_eq_getElem hi] at h2
    exact Option.some.inj h2
  · intro h
    have : B = List.replicate B.length 0 := List.ext_getElem (by simp) (fun i h1 h2 => by rw [h i h1]; simp)
    rw [this, val_zeros]
/-- what is behind the last whole byte tells whether it is a text -/
theorem good_iff (s : List By) (hk : known s = true) (m : Nat) (h1 : 8 * m ≤ 5 * s.length) (h2 : 5 * s.length < 8 * m + 8) :
    dec s = bytesN (bitsOf (s.map idx)) m ∧ (good s = true ↔ (5 * s.length - 8 * m ≤ 4 ∧ ∀ i (h : i < ((bitsOf (s.map idx)).drop (8 * m)).length), ((bitsOf (s.map idx)).drop (8 * m))[i] = 0)) := by
  have hl : (s.map idx).length = s.length := by simp
  have x := bytesN_is (s.map idx) (known_lt hk) m (by omega) (by omega)
  obtain ⟨e1, e2, e3⟩ := (dec_is hk).unique x
  refine ⟨e1, ?_⟩
  rw [← val_zero_iff _ (fun b hb => bitsOf_lt _ b (List.mem_of_mem_drop hb)), ← e2]
  simp only [good, Bool.and_eq_true, decide_eq_true_eq]
  have : 5 * s.length % 8 = 5 * s.length - 8 * m := by omega
  rw [this]
  exact ⟨fun h => ⟨h.1.2, h.2⟩, fun h => ⟨⟨hk, h.1⟩, h.2⟩⟩
end BaseMath
