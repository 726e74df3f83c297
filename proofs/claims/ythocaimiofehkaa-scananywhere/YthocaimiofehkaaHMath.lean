/- Plain facts on words of 32 bits, and SHA-256 as a Lean function. No program is named. -/
import Derived.Laws.BitsAllLaws
namespace HashMath
open Go

abbrev Wd := BitVec 32
abbrev By := BitVec 8
/-- a word as a number -/
def u (x : Wd) : Int := (x.toNat : Int)
/-- a byte as a number -/
def ub (x : By) : Int := (x.toNat : Int)
theorem u_lo (x : Wd) : 0 ≤ u x := Int.natCast_nonneg _
theorem u_hi (x : Wd) : u x < 4294967296 := by have := x.isLt; unfold u; omega
theorem ub_lo (x : By) : 0 ≤ ub x := Int.natCast_nonneg _
theorem ub_hi (x : By) : ub x < 256 := by have := x.isLt; unfold ub; omega
theorem u_inj {x y : Wd} (h : u x = u y) : x = y := BitVec.eq_of_toNat_eq (by unfold u at h; omega)
theorem ub_inj {x y : By} (h : ub x = ub y) : x = y := BitVec.eq_of_toNat_eq (by unfold ub at h; omega)

theorem u_ofNat (n : Nat) (h : n < 4294967296) : u (BitVec.ofNat 32 n) = (n : Int) := by
  unfold u; rw [BitVec.toNat_ofNat, Nat.mod_eq_of_lt (by omega)]
theorem ub_ofNat (n : Nat) (h : n < 256) : ub (BitVec.ofNat 8 n) = (n : Int) := by
  unfold ub; rw [BitVec.toNat_ofNat, Nat.mod_eq_of_lt (by omega)]
theorem ofInt_u (x : Wd) : BitVec.ofInt 32 (u x) = x := by
  unfold u; rw [BitVec.ofInt_natCast]; simp
theorem ofInt_ub (x : By) : BitVec.ofInt 8 (ub x) = x := by
  unfold ub; rw [BitVec.ofInt_natCast]; simp
theorem wrap_u (x : Wd) : IntKind.u32.wrap (x.toNat : Int) = u x := by
  rw [IntKind.wrap_u32']; have := x.isLt; unfold u; omega
theorem wrap_ub (x : By) : IntKind.u8.wrap (x.toNat : Int) = ub x := by
  rw [IntKind.wrap_u8']; have := x.isLt; unfold ub; omega
theorem u_xor (x y : Wd) : bits .xor .u32 (u x) (u y) = u (x ^^^ y) := by
  show IntKind.u32.wrap ((BitVec.ofInt 32 (u x) ^^^ BitVec.ofInt 32 (u y)).toNat : Int) = _
  rw [ofInt_u, ofInt_u, wrap_u]
theorem u_and (x y : Wd) : bits .and .u32 (u x) (u y) = u (x &&& y) := by
  show IntKind.u32.wrap ((BitVec.ofInt 32 (u x) &&& BitVec.ofInt 32 (u y)).toNat : Int) = _
  rw [ofInt_u, ofInt_u, wrap_u]
theorem u_or (x y : Wd) : bits .or .u32 (u x) (u y) = u (x ||| y) := by
  show IntKind.u32.wrap ((BitVec.ofInt 32 (u x) ||| BitVec.ofInt 32 (u y)).toNat : Int) = _
  rw [ofInt_u, ofInt_u, wrap_u]
theorem u_not (x : Wd) : bits .xor .u32 4294967295 (u x) = u (~~~x) := by
  show IntKind.u32.wrap ((BitVec.ofInt 32 4294967295 ^^^ BitVec.ofInt 32 (u x)).toNat : Int) = _
  rw [ofInt_u, show BitVec.ofInt 32 4294967295 = BitVec.allOnes 32 by decide, wrap_u, BitVec.allOnes_xor]
theorem ub_xor (x y : By) : bits .xor .u8 (ub x) (ub y) = ub (x ^^^ y) := by
  show IntKind.u8.wrap ((BitVec.ofInt 8 (ub x) ^^^ BitVec.ofInt 8 (ub y)).toNat : Int) = _
  rw [ofInt_ub, ofInt_ub, wrap_ub]
theorem u_add (x y : Wd) : IntKind.u32.wrap (u x + u y) = u (x + y) := by
  rw [IntKind.wrap_u32']; unfold u; rw [BitVec.toNat_add]; omega
theorem u_shr (x : Wd) (n : Nat) : u x / 2 ^ n = u (x >>> n) := by
  unfold u; rw [BitVec.toNat_ushiftRight, Nat.shiftRight_eq_div_pow]
  push_cast; rfl
theorem u_shl (x : Wd) (n : Nat) : IntKind.u32.wrap (u x * 2 ^ n) = u (x <<< n) := by
  rw [IntKind.wrap_u32']; unfold u; rw [BitVec.toNat_shiftLeft, Nat.shiftLeft_eq]
  have e : (x.toNat : Int) * 2 ^ n = ((x.toNat * 2 ^ n : Nat) : Int) := by rw [Int.natCast_mul, Int.natCast_pow]; rfl
  rw [e]; generalize x.toNat * 2 ^ n = y; omega
theorem u_add' (x y : Wd) : (u x + u y) % 4294967296 = u (x + y) := by rw [← IntKind.wrap_u32', u_add]
theorem u_shl' (x : Wd) (n : Nat) : u x * 2 ^ n % 4294967296 = u (x <<< n) := by rw [← IntKind.wrap_u32', u_shl]
theorem u_shr3 (x : Wd) : u x / (8 : Int) = u (x >>> 3) := u_shr x 3
theorem u_shr10 (x : Wd) : u x / (1024 : Int) = u (x >>> 10) := u_shr x 10
theorem u_shr24 (x : Wd) : u x / (16777216 : Int) = u (x >>> 24) := u_shr x 24
theorem u_shr16 (x : Wd) : u x / (65536 : Int) = u (x >>> 16) := u_shr x 16
theorem u_shr8 (x : Wd) : u x / (256 : Int) = u (x >>> 8) := u_shr x 8
/-- a byte of a word -/
theorem u_byte (x : Wd) : IntKind.u8.wrap (u x) = ub (x.setWidth 8) := by
  rw [IntKind.wrap_u8']; unfold u ub; rw [BitVec.toNat_setWidth]
  omega

theorem u_byte' (x : Wd) : u x % 256 = ub (x.setWidth 8) := by rw [← IntKind.wrap_u8', u_byte]
theorem u_not' (x : Wd) : bits .xor .u32 (if IntKind.u32.signed = true then -1 else IntKind.u32.max) (u x) = u (~~~x) := u_not x
def rotr (x : Wd) (n : Nat) : Wd := x >>> n ||| x <<< (32 - n)
def bigA (x : Wd) : Wd := rotr x 2 ^^^ rotr x 13 ^^^ rotr x 22
def bigE (x : Wd) : Wd := rotr x 6 ^^^ rotr x 11 ^^^ rotr x 25
def smallA (x : Wd) : Wd := rotr x 7 ^^^ rotr x 18 ^^^ x >>> 3
def smallB (x : Wd) : Wd := rotr x 17 ^^^ rotr x 19 ^^^ x >>> 10
def ch (x y z : Wd) : Wd := x &&& y ^^^ ~~~x &&& z
def maj (x y z : Wd) : Wd := x &&& y ^^^ x &&& z ^^^ y &&& z
theorem maj_or (x y z : Wd) : (x &&& y) ||| (z &&& (x ||| y)) = maj x y z := by
  unfold maj
  apply BitVec.eq_of_getLsbD_eq
  intro i _
  simp only [BitVec.getLsbD_or, BitVec.getLsbD_and, BitVec.getLsbD_xor]
  cases x.getLsbD i <;> cases y.getLsbD i <;> cases z.getLsbD i <;> rfl

def word (a b c d : By) : Wd := BitVec.ofNat 32 (a.toNat * 16777216 + b.toNat * 65536 + c.toNat * 256 + d.toNat)
theorem u_word (a b c d : By) : u (word a b c d) = ub a * 16777216 + ub b * 65536 + ub c * 256 + ub d := by
  have ha := a.isLt; have hb := b.isLt; have hc := c.isLt; have hd := d.isLt
  unfold word; rw [u_ofNat _ (by omega)]; unfold ub; omega
theorem or_add (a b i : Nat) (h : b < 2 ^ i) : a * 2 ^ i ||| b = a * 2 ^ i + b := by
  have := Nat.shiftLeft_add_eq_or_of_lt h a
  rw [Nat.shiftLeft_eq] at this; exact this.symm
theorem word_or (a b c d : By) : bits .or .u32 (bits .or .u32 (bits .or .u32 (IntKind.u32.wrap (ub a * 2 ^ 24)) (IntKind.u32.wrap (ub b * 2 ^ 16))) (IntKind.u32.wrap (ub c * 2 ^ 8))) (ub d) = u (word a b c d) := by
  have ha := a.isLt; have hb := b.isLt; have hc := c.isLt; have hd := d.isLt
  have e1 : IntKind.u32.wrap (ub a * 2 ^ 24) = ((a.toNat * 2 ^ 24 : Nat) : Int) := by rw [IntKind.wrap_u32']; unfold ub; omega
  have e2 : IntKind.u32.wrap (ub b * 2 ^ 16) = ((b.toNat * 2 ^ 16 : Nat) : Int) := by rw [IntKind.wrap_u32']; unfold ub; omega
  have e3 : IntKind.u32.wrap (ub c * 2 ^ 8) = ((c.toNat * 2 ^ 8 : Nat) : Int) := by rw [IntKind.wrap_u32']; unfold ub; omega
  rw [e1, e2, e3, u32_or_nat _ _ (by omega) (by omega)]
  rw [or_add a.toNat (b.toNat * 2 ^ 16) 24 (by omega)]
  rw [u32_or_nat _ _ (by omega) (by omega)]
  rw [show a.toNat * 2 ^ 24 + b.toNat * 2 ^ 16 = (a.toNat * 256 + b.toNat) * 2 ^ 16 by omega, or_add _ (c.toNat * 2 ^ 8) 16 (by omega)]
  unfold ub
  rw [u32_or_nat _ _ (by omega) (by omega)]
  rw [show (a.toNat * 256 + b.toNat) * 2 ^ 16 + c.toNat * 2 ^ 8 = (a.toNat * 65536 + b.toNat * 256 + c.toNat) * 2 ^ 8 by omega, or_add _ d.toNat 8 (by omega)]
  rw [u_word]; unfold ub; omega

theorem word_or' (a b c d : By) : bits .or .u32 (bits .or .u32 (bits .or .u32 (IntKind.u32.wrap (ub a * (16777216 : Int))) (IntKind.u32.wrap (ub b * (65536 : Int)))) (IntKind.u32.wrap (ub c * (256 : Int)))) (ub d) = u (word a b c d) := word_or a b c d
theorem ub_wrap32 (x : By) : IntKind.u32.wrap (ub x) = ub x := by have := ub_lo x; have := ub_hi x; rw [IntKind.wrap_u32']; omega
theorem ub_wrap8 (x : By) : IntKind.u8.wrap (ub x) = ub x := by have := ub_lo x; have := ub_hi x; rw [IntKind.wrap_u8']; omega
/-- the reference's way: by sums -/
theorem word_sum (a b c d : By) : IntKind.u32.wrap (IntKind.u32.wrap (IntKind.u32.wrap (IntKind.u32.wrap (ub a * (16777216 : Int)) + IntKind.u32.wrap (ub b * (65536 : Int))) + IntKind.u32.wrap (ub c * (256 : Int))) + ub d) = u (word a b c d) := by
  have ha := ub_lo a; have hb := ub_lo b; have hc := ub_lo c; have hd := ub_lo d
  have ha' := ub_hi a; have hb' := ub_hi b; have hc' := ub_hi c; have hd' := ub_hi d
  simp only [IntKind.wrap_u32']; rw [u_word]; omega

structure St where
  a : Wd
  b : Wd
  c : Wd
  d : Wd
  e : Wd
  f : Wd
  g : Wd
  h : Wd
def St.list (s : St) : List Wd := [s.a, s.b, s.c, s.d, s.e, s.f, s.g, s.h]
def one (s : St) (k w : Wd) : Wd := s.h + bigE s.e + ch s.e s.f s.g + k + w
def two (s : St) : Wd := bigA s.a + maj s.a s.b s.c
def rnd (s : St) (k w : Wd) : St := ⟨one s k w + two s, s.a, s.b, s.c, s.d + one s k w, s.e, s.f, s.g⟩
def rnds (K M : List Wd) (s : St) : Nat → St
  | 0 => s
  | n + 1 => rnd (rnds K M s n) (K.getD n 0) (M.getD n 0)
def St.plus (s t : St) : St := ⟨s.a + t.a, s.b + t.b, s.c + t.c, s.d + t.d, s.e + t.e, s.f + t.f, s.g + t.g, s.h + t.h⟩
/-- the next word of a plan -/
def next (l : List Wd) : Wd := smallB (l.getD (l.length - 2) 0) + l.getD (l.length - 7) 0 + smallA (l.getD (l.length - 15) 0) + l.getD (l.length - 16) 0
def wordAt (p : List By) (i : Nat) : Wd := word (p.getD (4 * i) 0) (p.getD (4 * i + 1) 0) (p.getD (4 * i + 2) 0) (p.getD (4 * i + 3) 0)
/-- the first n words of a block's plan -/
def plan (p : List By) : Nat → List Wd
  | 0 => []
  | n + 1 => plan p n ++ [if n < 16 then wordAt p n else next (plan p n)]
theorem plan_length (p : List By) (n : Nat) : (plan p n).length = n := by
  induction n with
  | zero => rfl
  | succ n ih => simp [plan, ih]
theorem plan_getD (p : List By) (n i : Nat) (h : i < n) : (plan p n).getD i 0 = (plan p (i + 1)).getD i 0 := by
  induction n with
  | zero => omega
  | succ n ih =>
    by_cases e : i = n
    · subst e; rfl
    · rw [← ih (by omega)]
      show (plan p n ++ _).getD i 0 = _
      rw [List.getD_eq_getElem?_getD, List.getD_eq_getElem?_getD, List.getElem?_append_left (by rw [plan_length]; omega)]
theorem plan_getD_at (p : List By) (n : Nat) : (plan p (n + 1)).getD n 0 = if n < 16 then wordAt p n else next (plan p n) := by
  rw [List.getD_eq_getElem?_getD]; simp [plan, plan_length]
/-- one block -/
def comp (K : List Wd) (s : St) (p : List By) : St := s.plus (rnds K (plan p 64) s 64)
/-- n blocks -/
def run (K : List Wd) (s : St) (q : List By) : Nat → St
  | 0 => s
  | n + 1 => comp K (run K s q n) ((q.drop (64 * n)).take 64)
def bytesOf (x : Wd) : List By := [(x >>> 24).setWidth 8, (x >>> 16).setWidth 8, (x >>> 8).setWidth 8, x.setWidth 8]
def outN (l : List Wd) : List By := (l.map bytesOf).flatten
def be8 (n : Nat) : List By := [BitVec.ofNat 8 (n / 2 ^ 56), BitVec.ofNat 8 (n / 2 ^ 48), BitVec.ofNat 8 (n / 2 ^ 40), BitVec.ofNat 8 (n / 2 ^ 32), BitVec.ofNat 8 (n / 2 ^ 24), BitVec.ofNat 8 (n / 2 ^ 16), BitVec.ofNat 8 (n / 2 ^ 8), BitVec.ofNat 8 n]
def zeros (n : Nat) : Nat := (119 - n % 64) % 64
def pad (p : List By) : List By := p ++ [128#8] ++ List.replicate (zeros p.length) 0#8 ++ be8 (8 * p.length)
theorem pad_length (p : List By) : (pad p).length = p.length + 9 + zeros p.length := by simp [pad, be8]; omega
theorem pad_mod (p : List By) : (pad p).length % 64 = 0 := by rw [pad_length]; unfold zeros; omega
def K0 : List Wd := [0x428a2f98#32, 0x71374491#32, 0xb5c0fbcf#32, 0xe9b5dba5#32, 0x3956c25b#32, 0x59f111f1#32, 0x923f82a4#32, 0xab1c5ed5#32, 0xd807aa98#32, 0x12835b01#32, 0x243185be#32, 0x550c7dc3#32, 0x72be5d74#32, 0x80deb1fe#32, 0x9bdc06a7#32, 0xc19bf174#32, 0xe49b69c1#32, 0xefbe4786#32, 0x0fc19dc6#32, 0x240ca1cc#32, 0x2de92c6f#32, 0x4a7484aa#32, 0x5cb0a9dc#32, 0x76f988da#32, 0x983e5152#32, 0xa831c66d#32, 0xb00327c8#32, 0xbf597fc7#32, 0xc6e00bf3#32, 0xd5a79147#32, 0x06ca6351#32, 0x14292967#32, 0x27b70a85#32, 0x2e1b2138#32, 0x4d2c6dfc#32, 0x53380d13#32, 0x650a7354#32, 0x766a0abb#32, 0x81c2c92e#32, 0x92722c85#32, 0xa2bfe8a1#32, 0xa81a664b#32, 0xc24b8b70#32, 0xc76c51a3#32, 0xd192e819#32, 0xd6990624#32, 0xf40e3585#32, 0x106aa070#32, 0x19a4c116#32, 0x1e376c08#32, 0x2748774c#32, 0x34b0bcb5#32, 0x391c0cb3#32, 0x4ed8aa4a#32, 0x5b9cca4f#32, 0x682e6ff3#32, 0x748f82ee#32, 0x78a5636f#32, 0x84c87814#32, 0x8cc70208#32, 0x90befffa#32, 0xa4506ceb#32, 0xbef9a3f7#32, 0xc67178f2#32]
def H0 : St := ⟨0x6a09e667#32, 0xbb67ae85#32, 0x3c6ef372#32, 0xa54ff53a#32, 0x510e527f#32, 0x9b05688c#32, 0x1f83d9ab#32, 0x5be0cd19#32⟩
theorem K0_length : K0.length = 64 := rfl
/-- SHA-256 -/
def sum (p : List By) : List By := outN (run K0 H0 (pad p) ((pad p).length / 64)).list
theorem outN_length (l : List Wd) : (outN l).length = 4 * l.length := by
  induction l with
  | nil => rfl
  | cons x r ih => simp [outN, bytesOf] at ih ⊢; omega
theorem sum_length (p : List By) : (sum p).length = 32 := by unfold sum; rw [outN_length]; rfl
/-- folded -/
def short (p : List By) : List By := (List.range 20).map fun i => if i < 12 then (sum p).getD i 0 ^^^ (sum p).getD (i + 20) 0 else (sum p).getD i 0
end HashMath
