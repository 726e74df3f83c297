/- The contracts of base.Len, base.five and base.Text. -/
import Derived.Test.YtghbabnekalgpaaDoorB1
namespace Go.Proofs.YtghbabnekalgpaaDoor
open Go.RowKit BaseMath

set_option maxRecDepth 100000 in
theorem i64_or_nat (a b : Nat) (ha : a < 4611686018427387904) (hb : b < 4611686018427387904) : bits .or .i64 (a : Int) (b : Int) = ((a ||| b : Nat) : Int) := by
  show IntKind.i64.wrap ((BitVec.ofInt 64 a ||| BitVec.ofInt 64 b).toNat : Int) = _
  rw [BitVec.toNat_or, ofInt_u64 a (by omega), ofInt_u64 b (by omega)]
  have h := Nat.or_lt_two_pow (n := 62) ha hb
  exact IntWalk.i64_in _ (by omega)
set_option maxRecDepth 100000 in
theorem i64_and_nat (a b : Nat) (ha : a < 4611686018427387904) (hb : b < 4611686018427387904) : bits .and .i64 (a : Int) (b : Int) = ((a &&& b : Nat) : Int) := by
  show IntKind.i64.wrap ((BitVec.ofInt 64 a &&& BitVec.ofInt 64 b).toNat : Int) = _
  rw [BitVec.toNat_and, ofInt_u64 a (by omega), ofInt_u64 b (by omega)]
  have h := Nat.and_lt_two_pow (n := 62) a hb
  exact IntWalk.i64_in _ (by omega)
set_option maxRecDepth 100000 in
theorem or_low (x y : Nat) (hx : x < 256) (hy : y < 256) : bits .or .i64 ((x : Int) * 256) (y : Int) = ((x * 256 + y : Nat) : Int) := by
  rw [show (x : Int) * 256 = ((x * 256 : Nat) : Int) by omega, i64_or_nat _ _ (by omega) (by omega), nat_join 8 (x * 256) y (by omega) hy]
set_option maxRecDepth 100000 in
theorem and31 (z : Nat) (hz : z < 65536) : bits .and .i64 (z : Int) 31 = ((z % 32 : Nat) : Int) := by
  rw [show (31 : Int) = ((31 : Nat) : Int) by rfl, i64_and_nat _ _ (by omega) (by omega), nat_mask5]
set_option maxRecDepth 100000 in
theorem made_zero (n : Nat) : madeCells #[Value.int .u8 0] n = (List.replicate n (Value.int .u8 0)).toArray := by
  apply Array.ext
  · simp [madeCells]
  · intro i h1 h2
    simp [madeCells, Nat.mod_one]
set_option maxRecDepth 100000 in
theorem run_mk (l c : Nat) (h : l ≤ c) (hc : c ≤ 1000000) (w : World) : (Instr.makeSlice 37 (.int .i64 l) (.int .i64 c)).run Tryd.prog w = .ok (.slice (some ⟨w.heap.size, 0, none⟩) l c) (w.alloc (.cells (List.replicate c (.int .u8 0)).toArray 5)) := by
  obtain ⟨i, hi, hz, hs, hb⟩ := info_parts info5
  have := run_make (P := Tryd.prog) w 37 5 i (.int .u8 0) Tryd.underlying37 hi hz .i64 .i64 l c (by omega) (by omega) (by rw [hb]; omega) (by omega)
  rw [this, hs]
  simp only [Int.toNat_natCast, Nat.mul_one]
  rw [show (Value.int .u8 0).cells = #[Value.int .u8 0] from rfl, made_zero]
set_option maxRecDepth 100000 in
/-- a source of bytes as a text: nil, empty or not -/
theorem run_text_src {w : World} {A : Option Addr} {cap : Nat} {l : List By} (h : SrcIs w A l) : (convert 37 9 (.slice A l.length cap)).run Tryd.prog w = .ok (.string ⟨l.toArray⟩) w := by
  cases A with
  | some a =>
    refine run_convert_bytes_back w 37 9 5 a cap l Tryd.underlying37 Tryd.underlying5 Tryd.underlying9 (fun j hj => ?_)
    obtain ⟨b, o, he, hb⟩ := h (by omega)
    cases he
    rw [Addr.add_mid]; exact hb j hj
  | none =>
    have hl : l = [] := by
      cases l with
      | nil => rfl
      | cons y r => obtain ⟨b, o, he, _⟩ := h (by simp); cases he
    subst hl
    rw [run_convert_bytes_string w 37 9 5 none _ cap Tryd.underlying37 Tryd.underlying5 Tryd.underlying9]
    rfl
end Go.Proofs.YtghbabnekalgpaaDoor
