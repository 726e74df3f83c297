/- The contracts of the leaves of layer 2: turns, the mixers, of the program and of the reference. -/
import Derived.Test.YthocaimiofehkaaChecked
import Derived.Test.YthocaimiofehkaaHMath
import Derived.WalkKit
import Derived.WalkSpells
import Derived.WalkLawsBesides
import Derived.BigQuiet
import Derived.Lib.Hide
namespace Go.Proofs.Ythocaimiofehkaa.Hs
open Go.RowKit HashMath
attribute [go_sem] u_xor u_and u_or u_not u_not' u_add u_add' u_shl u_shl' u_shr u_shr3 u_shr10 u_shr24 u_shr16 u_shr8 u_byte u_byte' ub_xor ub_wrap32 ub_wrap8 word_or'

theorem ret_int {k : IntKind} {a b : Int} (h : a = b) : Ending.returned (.int k a) = .returned (.int k b) := by rw [h]
theorem and31 (n : Nat) (h : n < 32) (h0 : 0 < n) : bits .and .u64 (IntKind.u64.wrap (-(n : Int))) 31 = ((32 - n : Nat) : Int) := by
  have : ∀ n : Fin 32, 0 < n.val → bits .and .u64 (IntKind.u64.wrap (-(n.val : Int))) 31 = ((32 - n.val : Nat) : Int) := by decide
  exact this ⟨n, h⟩ h0

set_option maxHeartbeats 400000 in
theorem turned_any (x : Wd) (n : Nat) (h : n < 32) (h0 : 0 < n) (w : World) :
    Calls Try.prog 46 #[.int .u32 (u x), .int .i64 (n : Int)] w fun e w' => e = .returned (.int .u32 (u (rotr x n))) ∧ ∃ q, w' = w.drewN q := by
  go_enter Try.func46, Try.ntmps46
  go_wp2
  go_quiet (fail)
  go_wp2
  go_ret
  exact ⟨rfl, nq, rfl⟩
end Go.Proofs.Ythocaimiofehkaa.Hs
