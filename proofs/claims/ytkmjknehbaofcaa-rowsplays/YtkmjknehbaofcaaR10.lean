/- Acts in memory; the contract of the laws' key. -/
import Derived.Test.YtkmjknehbaofcaaR9
import Derived.Deep.RegionHeld3
import Derived.Deep.DeepCutAuto
namespace Go.Proofs.Ytkmjknehbaofcaa
open Go.RowKit Go.Maps Go.WideShapes Go.MapKept Go.WideMaps Go.ChangeMaps BaseMath WireMath NameMath ScanMath

/-- something that is done with a table -/
structure Ac where
  d : By
  k : List By
  v : Int
  hk : k.length ≤ maxLen
  hv : (Lit.int .i64 v).wf = true
def Ac.vals (x : Ac) : List Value := [vb x.d, vs x.k, .int .i64 x.v]
def AcsIs (w : World) (A : Option Addr) (l : List Ac) : Prop := 0 < l.length → ∃ b o, A = some ⟨b, o, none⟩ ∧ ∀ i (h : i < l.length), ∀ j v, (l[i].vals)[j]? = some v → w.cell? ⟨b, o + i * 3 + j, none⟩ = some v
/-- the letter of a number -/
def nearB (d : By) : By := UInt8.ofNat (97 + d.toNat / 8 % 5)
theorem nearB_nat (d : By) : (nearB d).toNat = 97 + d.toNat / 8 % 5 := UInt8.toNat_ofNat_of_lt' (by show _ < 256; have := Nat.mod_lt (d.toNat / 8) (y := 5) (by decide); omega)
theorem one_src (w : World) (x : By) : SrcIs (w.alloc (.cells #[vb x] 5)) (some ⟨w.heap.size, 0, none⟩) [x] := fun _ => ⟨w.heap.size, 0, rfl, fun k hk => by
  have : k = 0 := by simp at hk; exact hk
  subst this
  rw [Nat.zero_add, (Blk.new w 5 #[vb x]).cell]; rfl⟩
set_option maxHeartbeats 1000000 in
set_option maxRecDepth 100000 in
theorem key_near (d : By) (k : List By) (v : Int) (w : World) : Calls Try.prog 11 #[.agg #[vb d, vs k, .int .i64 v], .bool true] w fun e w' => e = .returned (vs [nearB d]) ∧ Below w.heap.size w w' := by
  have hx3 : 97 + (d.toNat : Int) / 8 % 256 % 5 = ((nearB d).toNat : Int) := by have := d.toNat_lt; rw [nearB_nat]; omega
  have hcv := run_text_src (cap := 1) (one_src (w.alloc (.cells #[vb d, vs k, .int .i64 v] 32)) (nearB d))
  rw [World.size_alloc, show [nearB d].length = 1 from rfl] at hcv
  generalize nearB d = x at *
  go_enter Try.func11, Try.ntmps11
  go_wp2_with fail
  go_ret
  exact ⟨rfl, ((Below.refl _ _).alloc (Nat.le_refl _) _).alloc (by simp) _⟩
end Go.Proofs.Ytkmjknehbaofcaa
