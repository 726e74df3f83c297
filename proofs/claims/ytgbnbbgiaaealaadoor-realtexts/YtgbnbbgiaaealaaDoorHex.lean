/- Plain facts on the digits of base 16 of a number below 2^64. No program is named. -/
namespace RealMath

/-- the letter of a digit -/
def hd (d : Nat) : UInt8 := if d < 10 then UInt8.ofNat (48 + d) else UInt8.ofNat (87 + d)

theorem dig_at : ∀ d : Nat, d < 16 → (#[48, 49, 50, 51, 52, 53, 54, 55, 56, 57, 97, 98, 99, 100, 101, 102, 103, 104, 105, 106, 107, 108, 109, 110, 111, 112, 113, 114, 115, 116, 117, 118, 119, 120, 121, 122] : Array UInt8)[d]? = some (hd d) := by
  decide

theorem dig_eq (v : Nat) (h : v < 16) (h' : v < (ByteArray.mk #[48, 49, 50, 51, 52, 53, 54, 55, 56, 57, 97, 98, 99, 100, 101, 102, 103, 104, 105, 106, 107, 108, 109, 110, 111, 112, 113, 114, 115, 116, 117, 118, 119, 120, 121, 122]).size) :
    (ByteArray.mk #[48, 49, 50, 51, 52, 53, 54, 55, 56, 57, 97, 98, 99, 100, 101, 102, 103, 104, 105, 106, 107, 108, 109, 110, 111, 112, 113, 114, 115, 116, 117, 118, 119, 120, 121, 122])[v] = hd v := by
  have := dig_at v h
  rw [Array.getElem?_eq_getElem (by simpa using Nat.lt_trans h (by decide))] at this
  exact Option.some.inj this

/-- the last n digits -/
def hexL : Nat → Nat → List UInt8
  | 0, _ => []
  | n + 1, u => hexL n (u / 16) ++ [hd (u % 16)]

theorem hexL_length (n u : Nat) : (hexL n u).length = n := by
  induction n generalizing u with
  | zero => rfl
  | succ n ih => simp [hexL, ih]

theorem hexL_at (n u j : Nat) (h : j < n) : (hexL n u)[n - 1 - j]? = some (hd (u / 16 ^ j % 16)) := by
  induction n generalizing u j with
  | zero => omega
  | succ n ih =>
    cases j with
    | zero =>
      simp only [hexL, Nat.add_sub_cancel, Nat.sub_zero, Nat.pow_zero, Nat.div_one]
      rw [List.getElem?_append_right (by rw [hexL_length]; omega), hexL_length]
      simp
    | succ j =>
      have := ih (u / 16) j (by omega)
      simp only [hexL]
      rw [List.getElem?_append_left (by rw [hexL_length]; omega)]
      rw [show n + 1 - 1 - (j + 1) = n - 1 - j by omega, this, Nat.div_div_eq_div_mul, Nat.pow_succ, Nat.mul_comm 16]

theorem hexL_pad (m n u : Nat) (h : u < 16 ^ n) : hexL (n + m) u = List.replicate m 48 ++ hexL n u := by
  induction n generalizing u with
  | zero =>
    simp at h
    subst h
    induction m with
    | zero => rfl
    | succ m ih =>
      simp only [Nat.zero_add] at ih ⊢
      simp only [hexL, List.append_nil] at ih ⊢
      rw [ih, List.replicate_succ']
      rfl
  | succ n ih =>
    rw [show n + 1 + m = (n + m) + 1 by omega]
    simp only [hexL]
    rw [ih (u / 16) (by rw [Nat.pow_succ] at h; omega), List.append_assoc]

theorem hexL_cons (k u : Nat) : hexL (k + 1) u = hd (u / 16 ^ k % 16) :: hexL k u := by
  induction k generalizing u with
  | zero => simp [hexL]
  | succ k ih =>
    rw [hexL, ih (u / 16), Nat.div_div_eq_div_mul, Nat.mul_comm, ← Nat.pow_succ]
    rfl

theorem let_eq (v : Nat) (h : v < 16) (h' : v < (ByteArray.mk #[48, 49, 50, 51, 52, 53, 54, 55, 56, 57, 97, 98, 99, 100, 101, 102]).size) :
    (ByteArray.mk #[48, 49, 50, 51, 52, 53, 54, 55, 56, 57, 97, 98, 99, 100, 101, 102])[v] = hd v := by
  have : ∀ d : Nat, d < 16 → (#[48, 49, 50, 51, 52, 53, 54, 55, 56, 57, 97, 98, 99, 100, 101, 102] : Array UInt8)[d]? = some (hd d) := by decide
  have := this v h
  rw [Array.getElem?_eq_getElem (by simpa using h)] at this
  exact Option.some.inj this

/-- what holds behind k digits: they stand at the end of the row, v is what is left -/
structure HexInv (u k v : Nat) (dk : Array UInt8) : Prop where
  size : dk.size = 65
  k_le : k ≤ 15
  rest : v = u / 16 ^ k
  pos : k = 0 ∨ 1 ≤ v
  row : ∀ j, j < k → dk[64 - j]? = some (hd (u / 16 ^ j % 16))

theorem HexInv.start (u : Nat) : HexInv u 0 u (Array.replicate 65 0) :=
  ⟨by simp, by omega, by simp, Or.inl rfl, fun j h => by omega⟩

theorem HexInv.step {u k v : Nat} {dk : Array UInt8} (h : HexInv u k v dk) (hu : u < 18446744073709551616) (hv : 16 ≤ v) :
    HexInv u (k + 1) (v / 16) (dk.setIfInBounds (64 - k) (hd (v % 16))) := by
  have hk : k + 1 ≤ 15 := by
    have e := h.rest
    by_cases h15 : k = 15
    · subst h15
      have : u / 16 ^ 15 < 16 := by
        rw [Nat.div_lt_iff_lt_mul (Nat.pow_pos (by decide))]
        exact hu
      omega
    · have := h.k_le; omega
  refine ⟨by simp [h.size], hk, ?_, Or.inr (by omega), ?_⟩
  · rw [h.rest, Nat.div_div_eq_div_mul, Nat.pow_succ]
  · intro j hj
    by_cases hjk : j = k
    · subst hjk
      rw [Array.getElem?_setIfInBounds_self]
      rw [if_pos (by rw [h.size]; omega), h.rest]
    · rw [Array.getElem?_setIfInBounds_ne (by omega)]
      exact h.row j (by omega)

/-- the last digit: the row's end is the number -/
theorem HexInv.last {u k v : Nat} {dk : Array UInt8} (h : HexInv u k v dk) (hv : v < 16) (j : Nat) (hj : j < k + 1) :
    (dk.setIfInBounds (64 - k) (hd v))[64 - k + j]? = (hexL (k + 1) u)[j]? := by
  have hk := h.k_le
  have e := hexL_at (k + 1) u (k - j) (by omega)
  rw [show k + 1 - 1 - (k - j) = j by omega] at e
  rw [e]
  by_cases h0 : j = 0
  · subst h0
    rw [Nat.add_zero, Array.getElem?_setIfInBounds_self, if_pos (by rw [h.size]; omega), Nat.sub_zero, ← h.rest, Nat.mod_eq_of_lt hv]
  · rw [Array.getElem?_setIfInBounds_ne (by omega), show 64 - k + j = 64 - (k - j) by omega]
    exact h.row (k - j) (by omega)

theorem HexInv.lt {u k v : Nat} {dk : Array UInt8} (h : HexInv u k v dk) (hv : v < 16) : u < 16 ^ (k + 1) := by
  have e := h.rest
  rw [Nat.pow_succ, Nat.mul_comm]
  have hp : 0 < 16 ^ k := Nat.pow_pos (by decide)
  rw [← Nat.div_lt_iff_lt_mul hp]
  omega

/-- sixteen digits: noughts ahead -/
theorem HexInv.pad {u k v : Nat} {dk : Array UInt8} (h : HexInv u k v dk) (hv : v < 16) : List.replicate (16 - (k + 1)) 48 ++ hexL (k + 1) u = hexL 16 u := by
  have := hexL_pad (16 - (k + 1)) (k + 1) u (h.lt hv)
  rw [← this]
  congr 1
  have := h.k_le
  omega
/-- the digits, at least one, at most sixteen, without noughts ahead -/
structure HexStr (u : Nat) (l : List UInt8) : Prop where
  lo : 1 ≤ l.length
  hi : l.length ≤ 16
  eq : List.replicate (16 - l.length) 48 ++ l = hexL 16 u

theorem HexInv.str {u k v : Nat} {dk : Array UInt8} (h : HexInv u k v dk) (hv : v < 16) : HexStr u (hexL (k + 1) u) := by
  have hk := h.k_le
  exact ⟨by rw [hexL_length]; omega, by rw [hexL_length]; omega, by rw [hexL_length]; exact h.pad hv⟩
end RealMath
