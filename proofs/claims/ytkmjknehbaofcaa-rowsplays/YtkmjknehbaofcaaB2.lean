/- The contracts of base.Len, base.five and base.Text. -/
import Derived.Test.YtkmjknehbaofcaaB1
namespace Go.Proofs.Ytkmjknehbaofcaa
open Go.RowKit BaseMath

theorem i64_or_nat (a b : Nat) (ha : a < 4611686018427387904) (hb : b < 4611686018427387904) : bits .or .i64 (a : Int) (b : Int) = ((a ||| b : Nat) : Int) := by
  show IntKind.i64.wrap ((BitVec.ofInt 64 a ||| BitVec.ofInt 64 b).toNat : Int) = _
  rw [BitVec.toNat_or, ofInt_u64 a (by omega), ofInt_u64 b (by omega)]
  have h := Nat.or_lt_two_pow (n := 62) ha hb
  exact IntWalk.i64_in _ (by omega)
theorem i64_and_nat (a b : Nat) (ha : a < 4611686018427387904) (hb : b < 4611686018427387904) : bits .and .i64 (a : Int) (b : Int) = ((a &&& b : Nat) : Int) := by
  show IntKind.i64.wrap ((BitVec.ofInt 64 a &&& BitVec.ofInt 64 b).toNat : Int) = _
  rw [BitVec.toNat_and, ofInt_u64 a (by omega), ofInt_u64 b (by omega)]
  have h := Nat.and_lt_two_pow (n := 62) a hb
  exact IntWalk.i64_in _ (by omega)
theorem or_low (x y : Nat) (hx : x < 256) (hy : y < 256) : bits .or .i64 ((x : Int) * 256) (y : Int) = ((x * 256 + y : Nat) : Int) := by
  rw [show (x : Int) * 256 = ((x * 256 : Nat) : Int) by omega, i64_or_nat _ _ (by omega) (by omega), nat_join 8 (x * 256) y (by omega) hy]
theorem and31 (z : Nat) (hz : z < 65536) : bits .and .i64 (z : Int) 31 = ((z % 32 : Nat) : Int) := by
  rw [show (31 : Int) = ((31 : Nat) : Int) by rfl, i64_and_nat _ _ (by omega) (by omega), nat_mask5]
theorem pow_div (n k : Nat) : ((n : Nat) : Int) / 2 ^ k = ((n / 2 ^ k : Nat) : Int) := by
  rw [Int.natCast_ediv, Int.natCast_pow]; rfl
theorem five_end (x y r : Nat) (hx : x < 256) (hy : y < 256) : bits .and .i64 (bits .or .i64 ((x : Int) * 256) (y : Int) / 2 ^ (11 - r)) 31 = (((x * 256 + y) / 2 ^ (11 - r) % 32 : Nat) : Int) := by
  rw [or_low x y hx hy, pow_div]
  exact and31 _ (Nat.lt_of_le_of_lt (Nat.div_le_self _ _) (by omega))
theorem five_end0 (x r : Nat) (hx : x < 256) : bits .and .i64 ((x : Int) * 256 / 2 ^ (11 - r)) 31 = (((x * 256 + 0) / 2 ^ (11 - r) % 32 : Nat) : Int) := by
  rw [show (x : Int) * 256 = ((x * 256 + 0 : Nat) : Int) by omega, pow_div]
  exact and31 _ (Nat.lt_of_le_of_lt (Nat.div_le_self _ _) (by omega))
theorem made_zero (n : Nat) : madeCells #[Value.int .u8 0] n = (List.replicate n (Value.int .u8 0)).toArray := by
  apply Array.ext
  · simp [madeCells]
  · intro i h1 h2
    simp [madeCells, Nat.mod_one]
theorem run_mk (l c : Nat) (h : l ≤ c) (hc : c ≤ 1000000) (w : World) : (Instr.makeSlice 66 (.int .i64 l) (.int .i64 c)).run Try.prog w = .ok (.slice (some ⟨w.heap.size, 0, none⟩) l c) (w.alloc (.cells (List.replicate c (.int .u8 0)).toArray 5)) := by
  obtain ⟨i, hi, hz, hs, hb⟩ := info_parts info5
  have := run_make (P := Try.prog) w 66 5 i (.int .u8 0) Try.underlying66 hi hz .i64 .i64 l c (by omega) (by omega) (by rw [hb]; omega) (by omega)
  rw [this, hs]
  simp only [Int.toNat_natCast, Nat.mul_one]
  rw [show (Value.int .u8 0).cells = #[Value.int .u8 0] from rfl, made_zero]
/-- a source of bytes as a text: nil, empty or not -/
theorem run_text_src {w : World} {A : Option Addr} {cap : Nat} {l : List By} (h : SrcIs w A l) : (convert 66 9 (.slice A l.length cap)).run Try.prog w = .ok (.string ⟨l.toArray⟩) w := by
  cases A with
  | some a =>
    refine run_convert_bytes_back w 66 9 5 a cap l Try.underlying66 Try.underlying5 Try.underlying9 (fun j hj => ?_)
    obtain ⟨b, o, he, hb⟩ := h (by omega)
    cases he
    rw [Addr.add_mid]; exact hb j hj
  | none =>
    have hl : l = [] := by
      cases l with
      | nil => rfl
      | cons y r => obtain ⟨b, o, he, _⟩ := h (by simp); cases he
    subst hl
    rw [run_convert_bytes_string w 66 9 5 none _ cap Try.underlying66 Try.underlying5 Try.underlying9]
    rfl
/-- the first k letters are laid -/
def laidN (p : List By) (k : Nat) : List By := ((List.range k).map fun i => letter (five p i)) ++ List.replicate (len p.length - k) 0
theorem laidN_length (p : List By) (k : Nat) (h : k ≤ len p.length) : (laidN p k).length = len p.length := by simp [laidN]; omega
theorem laidN_zero (p : List By) : laidN p 0 = List.replicate (len p.length) 0 := by simp [laidN]
theorem laidN_last (p : List By) : laidN p (len p.length) = text p := by simp [laidN, text, digs]
theorem laidN_step (p : List By) (k : Nat) (h : k < len p.length) : (laidN p k).set k (letter (five p k)) = laidN p (k + 1) := by
  unfold laidN
  rw [List.set_append_right _ _ (by simp)]
  simp only [List.length_map, List.length_range, Nat.sub_self]
  rw [show len p.length - k = (len p.length - (k + 1)) + 1 by omega, List.replicate_succ, List.set_cons_zero, List.range_succ, List.map_append, List.append_assoc]; rfl
/-- the letters of the constant -/
theorem letter_get (d : Nat) (h : d < (ByteArray.mk #[48, 49, 50, 51, 52, 53, 54, 55, 56, 57, 97, 98, 99, 100, 102, 103, 104, 105, 106, 107, 108, 109, 110, 112, 113, 114, 115, 118, 119, 120, 121, 122]).size) : (ByteArray.mk #[48, 49, 50, 51, 52, 53, 54, 55, 56, 57, 97, 98, 99, 100, 102, 103, 104, 105, 106, 107, 108, 109, 110, 112, 113, 114, 115, 118, 119, 120, 121, 122])[d]'h = letter d := by
  have : ∀ d, d < 32 → (ByteArray.mk letters.toArray)[d]? = some (letter d) := by decide +kernel
  have h2 : (ByteArray.mk #[48, 49, 50, 51, 52, 53, 54, 55, 56, 57, 97, 98, 99, 100, 102, 103, 104, 105, 106, 107, 108, 109, 110, 112, 113, 114, 115, 118, 119, 120, 121, 122])[d]? = some (letter d) := this d h
  rw [ByteArray.getElem?_lt' _ _ h] at h2
  exact Option.some.inj h2
/-- bytes at a place as a text -/
theorem run_text {w : World} {b o cap : Nat} {l : List By} {n : Nat} (h : BytesAt w b o l) (hn : l.length = n) : (convert 66 9 (.slice (some ⟨b, o, none⟩) n cap)).run Try.prog w = .ok (.string ⟨l.toArray⟩) w := by
  subst hn
  exact run_convert_bytes_back w 66 9 5 ⟨b, o, none⟩ cap l Try.underlying66 Try.underlying5 Try.underlying9 (fun j hj => by rw [Addr.add_mid]; exact h j hj)
structure TextRel (w : World) (g : Nat) (p : List By) (k : Nat) (wr : World) : Prop where
  below : Below w.heap.size w wr
  blk : Blk wr g 5 ((laidN p k).map vb)
end Go.Proofs.Ytkmjknehbaofcaa
