/- Plain facts on the reference's tables: primes, and the first bits behind the point of their roots, as Lean functions; what they come to, by the kernel. No program is named. -/
import Derived.Test.YthocaimiofehkaaHMath
namespace HashMath

def stepP (l : List Nat) (x : Nat) : List Nat := if l.all (fun y => x % y != 0) then l ++ [x] else l
def primesK : Nat → List Nat
  | 0 => []
  | k + 1 => stepP (primesK k) (k + 2)
theorem stepP_length (l : List Nat) (x : Nat) : l.length ≤ (stepP l x).length := by unfold stepP; split <;> simp
theorem primesK_mono (k d : Nat) : (primesK k).length ≤ (primesK (k + d)).length := by
  induction d with
  | zero => exact Nat.le_refl _
  | succ d ih => exact Nat.le_trans ih (stepP_length _ _)
theorem primesK_ge (k : Nat) : ∀ y ∈ primesK k, 2 ≤ y ∧ y < k + 2 := by
  induction k with
  | zero => intro y hy; cases hy
  | succ k ih =>
    intro y hy
    unfold primesK stepP at hy
    split at hy
    · rcases List.mem_append.1 hy with h | h
      · have := ih y h; omega
      · simp at h; omega
    · have := ih y hy; omega
set_option maxRecDepth 100000 in
theorem primesK_309 : (primesK 309).length = 63 := by decide +kernel
set_option maxRecDepth 100000 in
theorem primesK_310 : (primesK 310).length = 64 := by decide +kernel
theorem primesK_lt (k : Nat) (h : k < 310) : (primesK k).length < 64 := by
  have := primesK_mono k (309 - k)
  rw [show k + (309 - k) = 309 by omega, primesK_309] at this
  omega

/-- 2^64 -/
def Q : Nat := 18446744073709551616
def wMid (a b : Nat) : Nat := (a / 4294967296 * (b % 4294967296) % Q + a % 4294967296 * (b % 4294967296) % Q / 4294967296) % Q
def wLow (a b : Nat) : Nat := (wMid a b % 4294967296 + a % 4294967296 * (b / 4294967296) % Q) % Q
def wHi (a b : Nat) : Nat := ((a / 4294967296 * (b / 4294967296) % Q + wMid a b / 4294967296) % Q + wLow a b / 4294967296) % Q
def wLo (a b : Nat) : Nat := a * b % Q
def sqB (a n : Nat) : Bool := decide (wHi a a < n) || (decide (wHi a a = n) && decide (wLo a a = 0))
def cMid (a : Nat) : Nat := (wLo (wHi a a) a + wHi (wLo a a) a) % Q
def cZ (a : Nat) : Nat := if cMid a < wLo (wHi a a) a then (wHi (wHi a a) a + 1) % Q else wHi (wHi a a) a
def cTop (a : Nat) : Nat := cZ a * 4294967296 % Q ||| cMid a / 4294967296
def cRest (a : Nat) : Nat := cMid a % 4294967296 ||| wLo (wLo a a) a
def cuB (a n : Nat) : Bool := decide (cTop a < n) || (decide (cTop a = n) && decide (cRest a = 0))
def tB (third : Bool) (a n : Nat) : Bool := if third then cuB a n else sqB a n
/-- behind j steps -/
def rootK (n : Nat) (third : Bool) : Nat → Nat
  | 0 => 0
  | j + 1 => if tB third (rootK n third j + 2 ^ (36 - j)) n then rootK n third j + 2 ^ (36 - j) else rootK n third j
def rootM (n : Nat) (third : Bool) : Wd := BitVec.ofNat 32 (rootK n third 37 % 4294967296)
theorem rootK_le (n : Nat) (third : Bool) (j : Nat) (h : j ≤ 37) : rootK n third j + 2 ^ (37 - j) ≤ 2 ^ 37 := by
  induction j with
  | zero => simp [rootK]
  | succ j ih =>
    have ih := ih (by omega)
    have e : 2 ^ (37 - j) = 2 ^ (36 - j) + 2 ^ (36 - j) := by
      rw [show 37 - j = (36 - j) + 1 by omega, Nat.pow_succ]; omega
    have e2 : 37 - (j + 1) = 36 - j := by omega
    have hp : 0 < 2 ^ (36 - j) := Nat.two_pow_pos _
    rw [e2]
    unfold rootK
    split <;> omega
set_option maxRecDepth 100000 in
theorem roots_K : (primesK 310).map (rootM · true) = K0 := by decide +kernel
set_option maxRecDepth 100000 in
theorem roots_H : ((primesK 310).take 8).map (rootM · false) = H0.list := by decide +kernel
end HashMath
