/- Plain facts on digits: bytes as five bits each, and back. No program is named. -/
import Derived.Laws.BitsAllLaws
namespace BaseMath

/-- the number that digits stand for, the first one highest -/
def val (B : Nat) (ds : List Nat) : Nat := ds.foldl (fun a d => B * a + d) 0
theorem val_foldl (B : Nat) (ds : List Nat) (a : Nat) : ds.foldl (fun a d => B * a + d) a = a * B ^ ds.length + val B ds := by
  induction ds generalizing a with
  | nil => simp [val]
  | cons d ds ih =>
    unfold val
    rw [List.foldl_cons, ih, List.foldl_cons, ih, List.length_cons, Nat.pow_succ]
    simp [Nat.add_mul]
    rw [Nat.mul_comm B a, Nat.mul_assoc, Nat.mul_comm B]; omega
theorem val_nil (B : Nat) : val B [] = 0 := rfl
theorem val_append (B : Nat) (xs ys : List Nat) : val B (xs ++ ys) = val B xs * B ^ ys.length + val B ys := by
  unfold val; rw [List.foldl_append, val_foldl]; rfl
theorem val_snoc (B : Nat) (xs : List Nat) (d : Nat) : val B (xs ++ [d]) = val B xs * B + d := by
  rw [val_append]; simp [val]
theorem val_cons (B : Nat) (d : Nat) (xs : List Nat) : val B (d :: xs) = d * B ^ xs.length + val B xs := by
  have := val_append B [d] xs
  simpa [val] using this
theorem val_lt (B : Nat) (xs : List Nat) (h : ∀ d ∈ xs, d < B) : val B xs < B ^ xs.length := by
  induction xs with
  | nil => simp [val]
  | cons d xs ih =>
    rw [val_cons, List.length_cons, Nat.pow_succ]
    have h1 := ih (fun e he => h e (by simp [he]))
    have h2 := h d (by simp)
    have h3 : (d + 1) * B ^ xs.length ≤ B * B ^ xs.length := Nat.mul_le_mul_right _ (by omega)
    rw [Nat.add_mul, Nat.one_mul] at h3
    rw [Nat.mul_comm (B ^ xs.length) B]; omega
theorem split_eq {q q' m h h' : Nat} (e : q * m + h = q' * m + h') (hh : h < m) (hh' : h' < m) : q = q' ∧ h = h' := by
  have h0 : 0 < m := by omega
  have d1 : (q * m + h) / m = q := by rw [Nat.mul_comm, Nat.mul_add_div h0, Nat.div_eq_of_lt hh]; omega
  have d2 : (q' * m + h') / m = q' := by rw [Nat.mul_comm, Nat.mul_add_div h0, Nat.div_eq_of_lt hh']; omega
  have hq : q = q' := by rw [← d1, e, d2]
  subst hq
  exact ⟨rfl, by omega⟩
theorem val_inj (B : Nat) : ∀ (xs ys : List Nat), xs.length = ys.length → (∀ d ∈ xs, d < B) → (∀ d ∈ ys, d < B) → val B xs = val B ys → xs = ys
  | [], [], _, _, _, _ => rfl
  | [], _ :: _, h, _, _, _ => by simp at h
  | _ :: _, [], h, _, _, _ => by simp at h
  | x :: xs, y :: ys, hl, hx, hy, e => by
    have hl' : xs.length = ys.length := by simpa using hl
    rw [val_cons, val_cons, hl'] at e
    have h1 := val_lt B xs (fun e he => hx e (by simp [he]))
    have h2 := val_lt B ys (fun e he => hy e (by simp [he]))
    rw [hl'] at h1
    obtain ⟨e1, e2⟩ := split_eq e h1 h2
    rw [e1, val_inj B xs ys hl' (fun e he => hx e (by simp [he])) (fun e he => hy e (by simp [he])) e2]

abbrev By := UInt8
def nat (p : List By) : List Nat := p.map UInt8.toNat
theorem nat_lt (p : List By) : ∀ d ∈ nat p, d < 256 := by
  intro d hd; simp [nat] at hd; obtain ⟨a, _, rfl⟩ := hd; exact a.toNat_lt
theorem nat_inj {p q : List By} (h : nat p = nat q) : p = q := by
  unfold nat at h
  exact (List.map_inj_right (fun a b hab => UInt8.toNat_inj.1 hab)).1 h
theorem nat_length (p : List By) : (nat p).length = p.length := by simp [nat]

/-- the letters -/
def letters : List By := [48, 49, 50, 51, 52, 53, 54, 55, 56, 57, 97, 98, 99, 100, 102, 103, 104, 105, 106, 107, 108, 109, 110, 112, 113, 114, 115, 118, 119, 120, 121, 122]
def letter (d : Nat) : By := letters.getD d 0
/-- a letter's place, 32 if it is none -/
def idx (c : By) : Nat := letters.idxOf c
theorem idx_letter : ∀ d, d < 32 → idx (letter d) = d := by decide +kernel
theorem letter_idx (c : By) (h : idx c < 32) : letter (idx c) = c := by
  unfold letter idx
  have h' : letters.idxOf c < letters.length := h
  rw [List.getD_eq_getElem?_getD, List.getElem?_eq_getElem h']
  simp
theorem idx_le (c : By) : idx c ≤ 32 := by
  have := List.idxOf_le_length (a := c) (l := letters)
  simpa [idx, letters] using this
theorem letter_known (d : Nat) (h : d < 32) : idx (letter d) < 32 := by rw [idx_letter d h]; exact h

/-- how many letters n bytes have -/
def len (n : Nat) : Nat := n / 5 * 8 + (n % 5 * 8 + 4) / 5
theorem len_fit (n : Nat) : 8 * n ≤ 5 * len n ∧ 5 * len n < 8 * n + 5 := by unfold len; omega
def pb (p : List By) (i : Nat) : Nat := (p.getD i 0).toNat
theorem pb_lt (p : List By) (i : Nat) : pb p i < 256 := (p.getD i 0).toNat_lt
theorem pb_get (p : List By) (i : Nat) (h : i < p.length) : pb p i = p[i].toNat := by
  unfold pb; rw [List.getD_eq_getElem?_getD, List.getElem?_eq_getElem h]; rfl
theorem pb_behind (p : List By) (i : Nat) (h : p.length ≤ i) : pb p i = 0 := by
  unfold pb; rw [List.getD_eq_getElem?_getD, List.getElem?_eq_none h]; rfl
/-- the five bits of that place -/
def five (p : List By) (j : Nat) : Nat := (pb p (5 * j / 8) * 256 + pb p (5 * j / 8 + 1)) / 2 ^ (11 - 5 * j % 8) % 32
theorem five_lt (p : List By) (j : Nat) : five p j < 32 := by unfold five; omega
def bit (p : List By) (i : Nat) : Nat := pb p (i / 8) / 2 ^ (7 - i % 8) % 2
theorem bit_lt (p : List By) (i : Nat) : bit p i < 2 := by unfold bit; omega
theorem bit_at (p : List By) (i k : Nat) (h : k < 8) : bit p (8 * i + k) = pb p i / 2 ^ (7 - k) % 2 := by
  unfold bit; rw [show (8 * i + k) / 8 = i by omega, show (8 * i + k) % 8 = k by omega]
theorem bit_at2 (p : List By) (i k : Nat) (h0 : 8 ≤ k) (h : k < 16) : bit p (8 * i + k) = pb p (i + 1) / 2 ^ (15 - k) % 2 := by
  unfold bit; rw [show (8 * i + k) / 8 = i + 1 by omega, show (8 * i + k) % 8 = k - 8 by omega, show 7 - (k - 8) = 15 - k by omega]
def fiveAt (p : List By) (t : Nat) : Nat := (pb p (t / 8) * 256 + pb p (t / 8 + 1)) / 2 ^ (11 - t % 8) % 32
theorem fiveAt_at (p : List By) (i k : Nat) (h : k < 8) : fiveAt p (8 * i + k) = (pb p i * 256 + pb p (i + 1)) / 2 ^ (11 - k) % 32 := by
  unfold fiveAt; rw [show (8 * i + k) / 8 = i by omega, show (8 * i + k) % 8 = k by omega]
theorem five_bits_at (p : List By) (a r : Nat) (hr : r < 8) : fiveAt p (8 * a + r) = 16 * bit p (8 * a + r) + 8 * bit p (8 * a + (r + 1)) + 4 * bit p (8 * a + (r + 2)) + 2 * bit p (8 * a + (r + 3)) + bit p (8 * a + (r + 4)) := by
  have hx := pb_lt p a
  have hy := pb_lt p (a + 1)
  rw [fiveAt_at p a r hr]
  have hr' : r = 0 ∨ r = 1 ∨ r = 2 ∨ r = 3 ∨ r = 4 ∨ r = 5 ∨ r = 6 ∨ r = 7 := by omega
  rcases hr' with rfl | rfl | rfl | rfl | rfl | rfl | rfl | rfl
  · rw [bit_at p a 0 (by omega), bit_at p a (0 + 1) (by omega), bit_at p a (0 + 2) (by omega), bit_at p a (0 + 3) (by omega), bit_at p a (0 + 4) (by omega)]; generalize pb p a = x at *; generalize pb p (a + 1) = y at *; omega
  · rw [bit_at p a 1 (by omega), bit_at p a (1 + 1) (by omega), bit_at p a (1 + 2) (by omega), bit_at p a (1 + 3) (by omega), bit_at p a (1 + 4) (by omega)]; generalize pb p a = x at *; generalize pb p (a + 1) = y at *; omega
  · rw [bit_at p a 2 (by omega), bit_at p a (2 + 1) (by omega), bit_at p a (2 + 2) (by omega), bit_at p a (2 + 3) (by omega), bit_at p a (2 + 4) (by omega)]; generalize pb p a = x at *; generalize pb p (a + 1) = y at *; omega
  · rw [bit_at p a 3 (by omega), bit_at p a (3 + 1) (by omega), bit_at p a (3 + 2) (by omega), bit_at p a (3 + 3) (by omega), bit_at p a (3 + 4) (by omega)]; generalize pb p a = x at *; generalize pb p (a + 1) = y at *; omega
  · rw [bit_at p a 4 (by omega), bit_at p a (4 + 1) (by omega), bit_at p a (4 + 2) (by omega), bit_at p a (4 + 3) (by omega), bit_at2 p a (4 + 4) (by omega) (by omega)]; generalize pb p a = x at *; generalize pb p (a + 1) = y at *; omega
  · rw [bit_at p a 5 (by omega), bit_at p a (5 + 1) (by omega), bit_at p a (5 + 2) (by omega), bit_at2 p a (5 + 3) (by omega) (by omega), bit_at2 p a (5 + 4) (by omega) (by omega)]; generalize pb p a = x at *; generalize pb p (a + 1) = y at *; omega
  · rw [bit_at p a 6 (by omega), bit_at p a (6 + 1) (by omega), bit_at2 p a (6 + 2) (by omega) (by omega), bit_at2 p a (6 + 3) (by omega) (by omega), bit_at2 p a (6 + 4) (by omega) (by omega)]; generalize pb p a = x at *; generalize pb p (a + 1) = y at *; omega
  · rw [bit_at p a 7 (by omega), bit_at2 p a (7 + 1) (by omega) (by omega), bit_at2 p a (7 + 2) (by omega) (by omega), bit_at2 p a (7 + 3) (by omega) (by omega), bit_at2 p a (7 + 4) (by omega) (by omega)]; generalize pb p a = x at *; generalize pb p (a + 1) = y at *; omega
theorem five_bits (p : List By) (j : Nat) : five p j = 16 * bit p (5 * j) + 8 * bit p (5 * j + 1) + 4 * bit p (5 * j + 2) + 2 * bit p (5 * j + 3) + bit p (5 * j + 4) := by
  show fiveAt p (5 * j) = _
  generalize 5 * j = t
  obtain ⟨a, r, rfl, hr⟩ : ∃ a r, t = 8 * a + r ∧ r < 8 := ⟨t / 8, t % 8, by omega, by omega⟩
  exact five_bits_at p a r hr
/-- the number of the first k bits; behind the last one noughts stand -/
def V (p : List By) : Nat → Nat
  | 0 => 0
  | k + 1 => 2 * V p k + bit p k
theorem V_five (p : List By) (j : Nat) : V p (5 * j) = val 32 ((List.range j).map (five p)) := by
  induction j with
  | zero => rfl
  | succ j ih =>
    rw [List.range_succ, List.map_append, List.map_singleton, val_snoc, ← ih, five_bits]
    show V p (5 * j + 1 + 1 + 1 + 1 + 1) = _
    simp only [V]; omega
theorem byte_bits (x : Nat) (h : x < 256) : x = 128 * (x / 2 ^ 7 % 2) + 64 * (x / 2 ^ 6 % 2) + 32 * (x / 2 ^ 5 % 2) + 16 * (x / 2 ^ 4 % 2) + 8 * (x / 2 ^ 3 % 2) + 4 * (x / 2 ^ 2 % 2) + 2 * (x / 2 ^ 1 % 2) + x / 2 ^ 0 % 2 := by omega
theorem V_eight (p : List By) (i : Nat) (h : i ≤ p.length) : V p (8 * i) = val 256 (nat (p.take i)) := by
  induction i with
  | zero => rfl
  | succ i ih =>
    have hi : i < p.length := by omega
    rw [List.take_succ_eq_append_getElem hi]
    unfold nat
    rw [List.map_append, List.map_singleton, val_snoc, ← pb_get p i hi]
    have ih' := ih (by omega)
    unfold nat at ih'
    rw [← ih']
    show V p (8 * i + 1 + 1 + 1 + 1 + 1 + 1 + 1 + 1) = _
    simp only [V]
    have b0 : bit p (8 * i) = pb p i / 2 ^ 7 % 2 := bit_at p i 0 (by omega)
    have b1 : bit p (8 * i + 1) = pb p i / 2 ^ 6 % 2 := bit_at p i 1 (by omega)
    have b2 : bit p (8 * i + 2) = pb p i / 2 ^ 5 % 2 := bit_at p i 2 (by omega)
    have b3 : bit p (8 * i + 3) = pb p i / 2 ^ 4 % 2 := bit_at p i 3 (by omega)
    have b4 : bit p (8 * i + 4) = pb p i / 2 ^ 3 % 2 := bit_at p i 4 (by omega)
    have b5 : bit p (8 * i + 5) = pb p i / 2 ^ 2 % 2 := bit_at p i 5 (by omega)
    have b6 : bit p (8 * i + 6) = pb p i / 2 ^ 1 % 2 := bit_at p i 6 (by omega)
    have b7 : bit p (8 * i + 7) = pb p i / 2 ^ 0 % 2 := bit_at p i 7 (by omega)
    have hb := byte_bits (pb p i) (pb_lt p i)
    rw [b0, b1, b2, b3, b4, b5, b6, b7]
    generalize pb p i / 2 ^ 7 % 2 = y7 at *
    generalize pb p i / 2 ^ 6 % 2 = y6 at *
    generalize pb p i / 2 ^ 5 % 2 = y5 at *
    generalize pb p i / 2 ^ 4 % 2 = y4 at *
    generalize pb p i / 2 ^ 3 % 2 = y3 at *
    generalize pb p i / 2 ^ 2 % 2 = y2 at *
    generalize pb p i / 2 ^ 1 % 2 = y1 at *
    generalize pb p i / 2 ^ 0 % 2 = y0 at *
    generalize V p (8 * i) = z at *
    clear ih ih' b0 b1 b2 b3 b4 b5 b6 b7
    omega
theorem V_behind (p : List By) (r : Nat) : V p (8 * p.length + r) = V p (8 * p.length) * 2 ^ r := by
  induction r with
  | zero => simp
  | succ r ih =>
    show 2 * V p (8 * p.length + r) + bit p (8 * p.length + r) = _
    have : bit p (8 * p.length + r) = 0 := by unfold bit; rw [pb_behind p _ (by omega)]; simp
    rw [this, ih, Nat.pow_succ]
    generalize V p (8 * p.length) = v; generalize 2 ^ r = y
    rw [← Nat.mul_assoc v y 2]; omega

/-- the fives of p -/
def digs (p : List By) : List Nat := (List.range (len p.length)).map (five p)
def text (p : List By) : List By := (digs p).map letter
theorem digs_length (p : List By) : (digs p).length = len p.length := by simp [digs]
theorem text_length (p : List By) : (text p).length = len p.length := by simp [text, digs]
theorem digs_lt (p : List By) : ∀ d ∈ digs p, d < 32 := by
  intro d hd; simp [digs] at hd; obtain ⟨a, _, rfl⟩ := hd; exact five_lt p a
theorem digs_val (p : List By) : val 32 (digs p) = val 256 (nat p) * 2 ^ (5 * len p.length - 8 * p.length) := by
  unfold digs
  have h := len_fit p.length
  rw [← V_five, show 5 * len p.length = 8 * p.length + (5 * len p.length - 8 * p.length) by omega, V_behind, V_eight p p.length (Nat.le_refl _), List.take_length]
  congr 2; omega
theorem text_idx (p : List By) : (text p).map idx = digs p := by
  unfold text
  rw [List.map_map]
  conv => rhs; rw [← List.map_id (digs p)]
  apply List.map_congr_left
  intro d hd
  exact idx_letter d (digs_lt p d hd)
theorem digs_inj {p q : List By} (hl : p.length = q.length) (h : digs p = digs q) : p = q := by
  have hv := congrArg (val 32) h
  rw [digs_val, digs_val, hl] at hv
  have h0 : 0 < 2 ^ (5 * len q.length - 8 * q.length) := Nat.two_pow_pos _
  have hv' := Nat.eq_of_mul_eq_mul_right h0 hv
  exact nat_inj (val_inj 256 _ _ (by simp [nat, hl]) (nat_lt p) (nat_lt q) hv')
theorem text_inj {p q : List By} (hl : p.length = q.length) (h : text p = text q) : p = q :=
  digs_inj hl (by rw [← text_idx, ← text_idx, h])
theorem text_join (p q : List By) (h : p.length % 5 = 0) : text (p ++ q) = text p ++ text q := by
  have e1 : len (p.length + q.length) = len p.length + len q.length := by unfold len; omega
  have e2 : 5 * len p.length = 8 * p.length := by unfold len; omega
  have hf := len_fit q.length
  have : digs (p ++ q) = digs p ++ digs q := by
    refine val_inj 32 _ _ (by simp [digs_length, e1]) (digs_lt _) (fun d hd => ?_) ?_
    · rcases List.mem_append.1 hd with h1 | h1
      · exact digs_lt p d h1
      · exact digs_lt q d h1
    · rw [digs_val, val_append, digs_val, digs_val, digs_length]
      unfold nat
      rw [List.map_append, val_append, List.length_append, e1, List.length_map, Nat.add_mul]
      rw [show 5 * (len p.length + len q.length) - 8 * (p.length + q.length) = 5 * len q.length - 8 * q.length by omega, e2, Nat.sub_self, Nat.pow_zero, Nat.mul_one]
      congr 1
      rw [Nat.mul_assoc]
      congr 1
      rw [show (256 : Nat) = 2 ^ 8 by rfl, show (32 : Nat) = 2 ^ 5 by rfl, ← Nat.pow_mul, ← Nat.pow_mul, ← Nat.pow_add]
      congr 1; omega
  unfold text; rw [this, List.map_append]

/-- what the program has made of some fives: the bytes, what is held, how many bits -/
structure St where
  p : List By
  held : Nat
  bits : Nat
def step (s : St) (d : Nat) : St :=
  if s.bits + 5 < 8 then ⟨s.p, s.held * 32 + d, s.bits + 5⟩
  else ⟨s.p ++ [UInt8.ofNat ((s.held * 32 + d) / 2 ^ (s.bits - 3))], (s.held * 32 + d) % 2 ^ (s.bits - 3), s.bits - 3⟩
def run (ds : List Nat) : St := ds.foldl step ⟨[], 0, 0⟩
theorem run_snoc (ds : List Nat) (d : Nat) : run (ds ++ [d]) = step (run ds) d := by simp [run, List.foldl_append]
structure Is (ds : List Nat) (p : List By) (h b : Nat) : Prop where
  eq : val 32 ds = val 256 (nat p) * 2 ^ b + h
  lt : h < 2 ^ b
  len : 8 * p.length + b = 5 * ds.length
  bits : b < 8
theorem Is.unique {ds : List Nat} {p q : List By} {h h' b b' : Nat} (x : Is ds p h b) (y : Is ds q h' b') : p = q ∧ h = h' ∧ b = b' := by
  have h1 := x.len; have h2 := y.len; have h3 := x.bits; have h4 := y.bits
  obtain rfl : b = b' := by omega
  have e := x.eq.symm.trans y.eq
  obtain ⟨e1, e2⟩ := split_eq e x.lt y.lt
  exact ⟨nat_inj (val_inj 256 _ _ (by rw [nat_length, nat_length]; omega) (nat_lt p) (nat_lt q) e1), e2, rfl⟩
theorem step_lt (h b d : Nat) (hb : h < 2 ^ b) (hd : d < 32) : h * 32 + d < 2 ^ (b + 5) := by
  rw [Nat.pow_add]
  have : (h + 1) * 32 ≤ 2 ^ b * 32 := Nat.mul_le_mul_right _ (by omega)
  show _ < 2 ^ b * 32
  omega
theorem snoc_ind {P : List Nat → Prop} (h0 : P []) (h1 : ∀ l d, P l → P (l ++ [d])) (l : List Nat) : P l := by
  have h : ∀ r : List Nat, P r.reverse := by
    intro r
    induction r with
    | nil => exact h0
    | cons d r ih => rw [List.reverse_cons]; exact h1 _ d ih
  simpa using h l.reverse
theorem run_is (ds : List Nat) (hd : ∀ d ∈ ds, d < 32) : Is ds (run ds).p (run ds).held (run ds).bits := by
  revert hd
  refine snoc_ind (P := fun ds => (∀ d ∈ ds, d < 32) → Is ds (run ds).p (run ds).held (run ds).bits) ?_ ?_ ds
  · intro _; exact ⟨by rfl, by decide, by rfl, by decide⟩
  · intro ds d ih hd
    have ih' := ih (fun e he => hd e (by simp [he]))
    have hdd := hd d (by simp)
    rw [run_snoc]
    generalize run ds = s at *
    obtain ⟨p, h, b⟩ := s
    obtain ⟨h1, h2, h3, h4⟩ := ih'
    simp only at h1 h2 h3 h4
    have hs := step_lt h b d h2 hdd
    unfold step
    by_cases hb : b + 5 < 8
    · simp only [if_pos hb]
      refine ⟨?_, hs, ?_, hb⟩
      · rw [val_snoc, h1, show 2 ^ (b + 5) = 2 ^ b * 32 from Nat.pow_add 2 b 5, Nat.add_mul, Nat.mul_assoc]; omega
      · simp; omega
    · simp only [if_neg hb]
      have hp : 2 ^ (b + 5) = 256 * 2 ^ (b - 3) := by rw [show b + 5 = 8 + (b - 3) by omega, Nat.pow_add]
      have h0 : 0 < 2 ^ (b - 3) := Nat.two_pow_pos _
      have hq : (h * 32 + d) / 2 ^ (b - 3) < 256 := by rw [Nat.div_lt_iff_lt_mul h0]; omega
      refine ⟨?_, Nat.mod_lt _ h0, ?_, by omega⟩
      · unfold nat
        rw [val_snoc, h1, List.map_append, List.map_singleton, val_snoc, UInt8.toNat_ofNat_of_lt' hq, Nat.add_mul]
        have hdm := Nat.div_add_mod (h * 32 + d) (2 ^ (b - 3))
        have e : val 256 (nat p) * 2 ^ b * 32 = val 256 (nat p) * 256 * 2 ^ (b - 3) := by
          rw [Nat.mul_assoc, Nat.mul_assoc, ← hp, Nat.pow_add]
        rw [Nat.mul_comm (2 ^ (b - 3))] at hdm
        unfold nat at e ⊢
        rw [Nat.add_mul, e]; omega
      · simp; omega

/-- is it a text of bytes? -/
def known (s : List By) : Bool := s.all fun c => decide (idx c < 32)
def good (s : List By) : Bool := known s && decide (5 * s.length % 8 ≤ 4) && decide ((run (s.map idx)).held = 0)
def dec (s : List By) : List By := (run (s.map idx)).p
theorem known_lt {s : List By} (h : known s = true) : ∀ d ∈ s.map idx, d < 32 := by
  intro d hd; simp [known] at h; obtain ⟨c, hc, rfl⟩ := List.mem_map.1 hd; exact h c hc
theorem dec_is {s : List By} (h : known s = true) : Is (s.map idx) (dec s) (run (s.map idx)).held (run (s.map idx)).bits := run_is _ (known_lt h)
theorem text_is (p : List By) : Is ((text p).map idx) p 0 (5 * len p.length - 8 * p.length) := by
  have h := len_fit p.length
  rw [text_idx]
  refine ⟨by rw [digs_val]; omega, Nat.two_pow_pos _, by rw [digs_length]; omega, by omega⟩
theorem text_known (p : List By) : known (text p) = true := by
  simp only [known, List.all_eq_true, decide_eq_true_eq]
  intro c hc
  obtain ⟨d, hd, rfl⟩ := List.mem_map.1 hc
  exact letter_known d (digs_lt p d hd)
theorem text_good (p : List By) : good (text p) = true ∧ dec (text p) = p := by
  obtain ⟨h1, h2, h3⟩ := (dec_is (text_known p)).unique (text_is p)
  have h := len_fit p.length
  refine ⟨?_, h1⟩
  simp only [good, Bool.and_eq_true, decide_eq_true_eq]
  refine ⟨⟨text_known p, ?_⟩, h2⟩
  rw [text_length]
  obtain ⟨r, hr, h4⟩ : ∃ r, 5 * len p.length = 8 * p.length + r ∧ r ≤ 4 := ⟨5 * len p.length - 8 * p.length, by omega, by omega⟩
  clear h h1 h2 h3; rw [hr, Nat.mul_add_mod, Nat.mod_eq_of_lt (by omega)]; exact h4
theorem len_back (m b L : Nat) (h : 8 * m + b = 5 * L) (hb : b ≤ 4) : len m = L := by
  unfold len
  obtain ⟨a, e, rfl, he⟩ : ∃ a e, m = 5 * a + e ∧ e < 5 := ⟨m / 5, m % 5, by omega, by omega⟩
  rw [show (5 * a + e) / 5 = a by omega, show (5 * a + e) % 5 = e by omega]
  have : e = 0 ∨ e = 1 ∨ e = 2 ∨ e = 3 ∨ e = 4 := by omega
  rcases this with rfl | rfl | rfl | rfl | rfl <;> omega
theorem good_text {s : List By} (h : good s = true) : text (dec s) = s ∧ (dec s).length = 5 * s.length / 8 ∧ len (dec s).length = s.length := by
  simp only [good, Bool.and_eq_true, decide_eq_true_eq] at h
  obtain ⟨⟨hk, hr⟩, hh⟩ := h
  have hi := dec_is hk
  have h1 := hi.len; have h2 := hi.bits; have h3 := hi.eq
  have hl : (s.map idx).length = s.length := by simp
  have hn : len (dec s).length = s.length := len_back _ _ _ (by rw [← hl]; exact h1) (by rw [hl] at h1; clear h3; generalize (run (s.map idx)).bits = b at *; rw [← h1, Nat.mul_add_mod, Nat.mod_eq_of_lt h2] at hr; exact hr)
  refine ⟨?_, by omega, hn⟩
  have hd : digs (dec s) = s.map idx := by
    refine val_inj 32 _ _ (by rw [digs_length, hn, hl]) (digs_lt _) (known_lt hk) ?_
    rw [digs_val, h3, hh, hn]
    congr 2; omega
  unfold text
  rw [hd, List.map_map]
  conv => rhs; rw [← List.map_id s]
  apply List.map_congr_left
  intro c hc
  simp [known] at hk
  exact letter_idx c (hk c hc)
end BaseMath
