/- The contracts of the leaves of layer 2: turns, the mixers, of the program and of the reference. -/
import Derived.Test.YthmenbccofhjfaaDoorChecked
import Derived.Test.YthmenbccofhjfaaDoorHMath
import Derived.WalkKit
import Derived.WalkSpells
import Derived.WalkLawsBesides
import Derived.BigQuiet
import Derived.Lib.Hide
namespace Go.Proofs.YthmenbccofhjfaaDoor.Hs
open Go.RowKit HashMath
attribute [go_sem] u_xor u_and u_or u_not u_not' u_add u_add' u_shl u_shl' u_shr u_shr3 u_shr10 u_shr24 u_shr16 u_shr8 u_byte u_byte' ub_xor ub_wrap32 ub_wrap8 word_or'

theorem ret_int {k : IntKind} {a b : Int} (h : a = b) : Ending.returned (.int k a) = .returned (.int k b) := by rw [h]
theorem and31 (n : Nat) (h : n < 32) (h0 : 0 < n) : bits .and .u64 (IntKind.u64.wrap (-(n : Int))) 31 = ((32 - n : Nat) : Int) := by
  have : ∀ n : Fin 32, 0 < n.val → bits .and .u64 (IntKind.u64.wrap (-(n.val : Int))) 31 = ((32 - n.val : Nat) : Int) := by decide
  exact this ⟨n, h⟩ h0

set_option maxHeartbeats 400000 in
theorem rot_any (x : Wd) (n : Nat) (h : n < 32) (h0 : 0 < n) (w : World) :
    Calls Tryd.prog 66 #[.int .u32 (u x), .int .i64 (-(n : Int))] w fun e w' => e = .returned (.int .u32 (u (rotr x n))) ∧ w = w' := by
  have hA := and31 n h h0
  obtain ⟨m, hm⟩ : ∃ m, m = 32 - n := ⟨_, rfl⟩
  rw [← hm] at hA
  have h1 : m < 32 := by omega
  have h2 : 0 < m := by omega
  have HM := Lib.hid hm; clear hm
  go_enter Tryd.func66, Tryd.ntmps66
  go_wp2
  go_ret
  refine ⟨ret_int ?_, rfl⟩
  have hm := HM.out
  unfold rotr
  rw [BitVec.or_comm, show 32 - n = m by omega]
  congr 3
  omega
set_option maxHeartbeats 400000 in
theorem turned_any (x : Wd) (n : Nat) (h : n < 32) (h0 : 0 < n) (w : World) :
    Calls Tryd.prog 42 #[.int .u32 (u x), .int .i64 (n : Int)] w fun e w' => e = .returned (.int .u32 (u (rotr x n))) ∧ ∃ q, w' = w.drewN q := by
  go_enter Tryd.func42, Tryd.ntmps42
  go_wp2
  go_quiet (fail)
  go_wp2
  go_ret
  exact ⟨rfl, nq, rfl⟩
theorem choose_any (x y z : Wd) (w : World) :
    Calls Tryd.prog 59 #[.int .u32 (u x), .int .u32 (u y), .int .u32 (u z)] w fun e w' => e = .returned (.int .u32 (u (ch x y z))) ∧ w = w' := by
  go_enter Tryd.func59, Tryd.ntmps59
  go_wp2
  go_ret
  exact ⟨rfl, rfl⟩
theorem majority_any (x y z : Wd) (w : World) :
    Calls Tryd.prog 61 #[.int .u32 (u x), .int .u32 (u y), .int .u32 (u z)] w fun e w' => e = .returned (.int .u32 (u (maj x y z))) ∧ w = w' := by
  go_enter Tryd.func61, Tryd.ntmps61
  go_wp2
  go_ret
  exact ⟨rfl, rfl⟩
theorem right_any (x : Wd) (n : Nat) (h : n < 32) (h0 : 0 < n) (w : World) :
    Calls Tryd.prog 65 #[.int .u32 (u x), .int .i64 (n : Int)] w fun e w' => e = .returned (.int .u32 (u (rotr x n))) ∧ w = w' := by
  go_enter Tryd.func65, Tryd.ntmps65
  go_wp2_with fail
  refine (rot_any x n h h0 w).mono ?_
  rintro e w' ⟨rfl, rfl⟩
  go_wp2
  go_ret
  exact ⟨rfl, rfl⟩
theorem bigE_any (x : Wd) (w : World) : Calls Tryd.prog 58 #[.int .u32 (u x)] w fun e w' => e = .returned (.int .u32 (u (bigE x))) ∧ w = w' := by
  go_enter Tryd.func58, Tryd.ntmps58
  go_wp2_with fail
  refine (right_any x 6 (by decide) (by decide) w).mono ?_
  rintro e w' ⟨rfl, rfl⟩
  go_wp2_with fail
  refine (right_any x 11 (by decide) (by decide) w).mono ?_
  rintro e w' ⟨rfl, rfl⟩
  go_wp2_with fail
  refine (right_any x 25 (by decide) (by decide) w).mono ?_
  rintro e w' ⟨rfl, rfl⟩
  go_wp2
  go_ret
  exact ⟨rfl, rfl⟩
theorem bigA_any (x : Wd) (w : World) : Calls Tryd.prog 60 #[.int .u32 (u x)] w fun e w' => e = .returned (.int .u32 (u (bigA x))) ∧ w = w' := by
  go_enter Tryd.func60, Tryd.ntmps60
  go_wp2_with fail
  refine (right_any x 2 (by decide) (by decide) w).mono ?_
  rintro e w' ⟨rfl, rfl⟩
  go_wp2_with fail
  refine (right_any x 13 (by decide) (by decide) w).mono ?_
  rintro e w' ⟨rfl, rfl⟩
  go_wp2_with fail
  refine (right_any x 22 (by decide) (by decide) w).mono ?_
  rintro e w' ⟨rfl, rfl⟩
  go_wp2
  go_ret
  exact ⟨rfl, rfl⟩
theorem smallB_any (x : Wd) (w : World) : Calls Tryd.prog 63 #[.int .u32 (u x)] w fun e w' => e = .returned (.int .u32 (u (smallB x))) ∧ w = w' := by
  go_enter Tryd.func63, Tryd.ntmps63
  go_wp2_with fail
  refine (right_any x 17 (by decide) (by decide) w).mono ?_
  rintro e w' ⟨rfl, rfl⟩
  go_wp2_with fail
  refine (right_any x 19 (by decide) (by decide) w).mono ?_
  rintro e w' ⟨rfl, rfl⟩
  go_wp2
  go_ret
  exact ⟨rfl, rfl⟩
theorem smallA_any (x : Wd) (w : World) : Calls Tryd.prog 64 #[.int .u32 (u x)] w fun e w' => e = .returned (.int .u32 (u (smallA x))) ∧ w = w' := by
  go_enter Tryd.func64, Tryd.ntmps64
  go_wp2_with fail
  refine (right_any x 7 (by decide) (by decide) w).mono ?_
  rintro e w' ⟨rfl, rfl⟩
  go_wp2_with fail
  refine (right_any x 18 (by decide) (by decide) w).mono ?_
  rintro e w' ⟨rfl, rfl⟩
  go_wp2
  go_ret
  exact ⟨rfl, rfl⟩
end Go.Proofs.YthmenbccofhjfaaDoor.Hs
