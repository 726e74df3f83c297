/- The contract of the library's formatBits at base 16. -/
import Derived.Test.YtgbnbbgiaaealaaDoorW2
import Derived.Sort.Row
import Derived.Sort.Grow
import Derived.Lib.ItoaMem
namespace Go.Proofs.YtgbnbbgiaaealaaDoor
open Go.RowKit RealMath Go.Sort

abbrev encB : UInt8 → Value := fun (b : UInt8) => Value.int .u8 (b.toNat : Int)

theorem zero75 : Tryd.zeroCells75 = Array.replicate 65 (.int .u8 0) := by kernel_rfl
theorem zeros_holds (w : World) : Holds encB (w.alloc (.cells Tryd.zeroCells75 75)) w.heap.size 0 (Array.replicate 65 (0 : UInt8)) := fun j hj => by
  have hj' : j < 65 := by simpa using hj
  refine ⟨?_, ?_⟩
  · rw [Nat.zero_add, World.cell?_alloc_new, zero75]
    simp [hj', encB]
  · exact World.frozen?_alloc_new _ _ _ _

/-- what formatBits answers at base 16 -/
def FbPost (u : Nat) (w : World) (e : Ending) (w' : World) : Prop := ∃ l, HexStr u l ∧ e = .returned (.tuple #[.slice none 0 0, .string ⟨l.toArray⟩]) ∧ Below w.heap.size w w'

theorem below_put (w : World) (o : Obj) (dk : Array UInt8) : Below w.heap.size w (putRow encB (w.alloc o) w.heap.size 0 dk) := by
  obtain ⟨os, e⟩ := putRow_grow_new encB w #[o] w.heap.size 0 dk (Nat.le_refl _)
  rw [alloc_eq_grow, e.2]
  exact ⟨rfl, rfl, rfl, by simp [grow], fun k hk => by simp [grow, Array.getElem?_append_left hk]⟩

theorem and15 (v : Nat) (hv : v < 18446744073709551616) : bits BinOp.and IntKind.u64 (v : Int) 15 = ((v % 16 : Nat) : Int) := by
  have := u64_and_nat v 15 hv (by decide)
  rw [show ((15 : Nat) : Int) = 15 from rfl] at this
  rw [this, show (15 : Nat) = 2 ^ 4 - 1 from rfl, Nat.and_two_pow_sub_one_eq_mod]
set_option maxHeartbeats 1000000 in
set_option maxRecDepth 100000 in
theorem fbits_16 (u : Nat) (hu : u < 18446744073709551616) (w : World) (h3 : 3 < w.heap.size) (h : w.cell? ⟨3, 15, none⟩ = some (.int .u8 4)) :
    Calls Tryd.prog 47 #[.slice none 0 0, .int .u64 u, .int .i64 16, .bool false, .bool false] w fun e w' => FbPost u w e w' := by
  have hc : ∀ o, (w.alloc o).cell? ⟨3, 15, none⟩ = some (.int .u8 4) := fun o => by rw [World.cell?_alloc_lt _ _ _ h3]; exact h
  have HC := Lib.hid hc; clear hc
  go_enter Tryd.func47, Tryd.ntmps47
  go_wp2_with (first | (go_at_call 59; refine (pow_16 _).mono ?_; rintro e w' ⟨rfl, rfl⟩) | (go_at_call 60; refine (tz_16 _ (HC.out _)).mono ?_; rintro e w' ⟨rfl, rfl⟩))
  clear HC h
  have hZ := zeros_holds w
  go_loopw [1, 13] (fun vu vi wr => ∃ (k v i : Nat) (dk : Array UInt8), vu = .int .u64 v ∧ vi = .int .i64 i ∧ Hid (wr = putRow encB (w.alloc (.cells Tryd.zeroCells75 75)) w.heap.size 0 dk) ∧ Hid (i + k = 65) ∧ Hid (HexInv u k v dk)) (fun vu _ _ => (intOf vu).toNat)
  case atStart => exact ⟨0, u, 65, _, rfl, rfl, (putRow_self _ _ _ _ _ hZ).symm, rfl, HexInv.start u⟩
  case round =>
    obtain ⟨k, v, i, dk, rfl, rfl, HW, HK, HI⟩ := hrel
    rename World => W0
    have hk := HI.out.k_le
    have hi : 50 ≤ i := by have := HK.out; omega
    have hi2 : i ≤ 65 := by have := HK.out; omega
    have hv : v < 18446744073709551616 := by have := HI.out.rest; have := Nat.div_le_self u (16 ^ k); omega
    have hsz := HI.out.size
    have hH : Holds encB W0 w.heap.size 0 dk := by rw [HW.out]; exact holds_putRow _ _ _ _ _ dk hZ (by simp [hsz])
    have hc1 : W0.cell? ⟨w.heap.size, i - 1, none⟩ = some (.int .u8 (dk[i - 1]!.toNat : Int)) := by have := (hH (i - 1) (by omega)).1; rwa [Nat.zero_add] at this
    have hf1 : W0.frozen? ⟨w.heap.size, i - 1, none⟩ = false := by have := (hH (i - 1) (by omega)).2; rwa [Nat.zero_add] at this
    generalize (dk[i - 1]!.toNat : Int) = c1 at hc1
    clear hH hsz
    have HZ := Lib.hid hZ; clear hZ
    by_cases h16 : 16 ≤ v
    · obtain ⟨d, hd'⟩ : ∃ d, v % 16 = d := ⟨_, rfl⟩
      have hd16 : d < 16 := by omega
      have eand : bits BinOp.and IntKind.u64 (v : Int) 15 = (d : Int) := by
        rw [← hd']; exact and15 v hv
      have HD := Lib.hid hd'; clear hd'
      go_wp2
      refine ⟨⟨k + 1, v / 16, i - 1, dk.setIfInBounds (64 - k) (hd (v % 16)), by go_num, by go_num, ?_, by have := HK.out; show i - 1 + (k + 1) = 65; omega, HI.out.step hu h16⟩, by simp [intOf]; omega⟩
      have e := putRow_set encB (w.alloc (.cells Tryd.zeroCells75 75)) w.heap.size 0 dk (64 - k) (hd (v % 16)) (by rw [HI.out.size]; omega)
      rw [← HW.out, Nat.zero_add] at e
      rw [show i - 1 = 64 - k by have := HK.out; omega]
      show _ = _
      rw [← e]
      have ed := HD.out
      subst ed
      rw [dig_eq _ hd16]
    · have hv16 : v < 16 := by omega
      have hsl : ∀ W, (Instr.sliceAt 75 (.pointer (some ⟨w.heap.size, 0, none⟩)) (some (.int .i64 ((i : Int) - 1))) none none).run Tryd.prog W = .ok (.slice (some ⟨w.heap.size, i - 1, none⟩) (66 - i) (66 - i)) W := fun W => by
        rw [run_sliceAt_array_l W 75 ⟨w.heap.size, 0, none⟩ (by simp [Program.arrayLen, Program.elem, Tryd.underlying75]) .i64 ((i : Int) - 1) (by omega) (by simp [Program.arrayLen, Tryd.underlying75]; omega)]
        simp [Program.arrayLen, Tryd.underlying75, go_sem]
        omega
      have hdig := dig_eq v hv16
      have e := putRow_set encB (w.alloc (.cells Tryd.zeroCells75 75)) w.heap.size 0 dk (64 - k) (hd v) (by rw [HI.out.size]; omega)
      rw [← HW.out, Nat.zero_add, show 64 - k = i - 1 by have := HK.out; omega] at e
      have hrow := fun j hj => HI.out.last hv16 j hj
      rw [show 64 - k = i - 1 by have := HK.out; omega] at hrow
      have hcv : (convert 49 9 (.slice (some ⟨w.heap.size, i - 1, none⟩) (66 - i) (66 - i))).run Tryd.prog (W0.setCell ⟨w.heap.size, i - 1, none⟩ (.int .u8 ((hd v).toNat : Int))) = .ok (.string ⟨(hexL (k + 1) u).toArray⟩) (W0.setCell ⟨w.heap.size, i - 1, none⟩ (.int .u8 ((hd v).toNat : Int))) := by
        have hl : 66 - i = (hexL (k + 1) u).length := by rw [hexL_length]; have := HK.out; omega
        have h := run_convert_bytes_back (P := Tryd.prog) (W0.setCell ⟨w.heap.size, i - 1, none⟩ (.int .u8 ((hd v).toNat : Int))) 49 9 5 ⟨w.heap.size, i - 1, none⟩ (66 - i) (hexL (k + 1) u) Tryd.underlying49 Tryd.underlying5 Tryd.underlying9 (fun j hj => by
          rw [Lib.add_plain, e]
          have hj' : j < k + 1 := by rw [hexL_length] at hj; exact hj
          have hs : (dk.setIfInBounds (i - 1) (hd v)).size = (Array.replicate 65 (0 : UInt8)).size := by simp [HI.out.size]
          have hi65 : i - 1 + j < (dk.setIfInBounds (i - 1) (hd v)).size := by rw [hs, Array.size_replicate]; have := HK.out; omega
          have c := cell?_putRow encB (w.alloc (.cells Tryd.zeroCells75 75)) w.heap.size 0 _ _ HZ.out hs (i - 1 + j) hi65
          rw [Nat.zero_add] at c
          rw [c]
          have r := hrow j hj'
          rw [List.getElem?_eq_getElem hj, Array.getElem?_eq_getElem hi65] at r
          rw [getElem!_pos (dk.setIfInBounds (i - 1) (hd v)) _ hi65, Option.some.inj r])
        rw [← hl] at h
        exact h
      clear hrow
      have E := Lib.hid e; clear e
      go_wp2
      go_ret2
      refine ⟨_, HI.out.str hv16, rfl, ?_⟩
      rw [E.out]
      exact below_put _ _ _
end Go.Proofs.YtgbnbbgiaaealaaDoor
