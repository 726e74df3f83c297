/- The kinds' table in memory; the contracts of lookUp and Kind. -/
import Derived.Test.YtghbabnekalgpaaDoorW11
import Derived.Test.YtghbabnekalgpaaDoorRqMath
namespace Go.Proofs.YtghbabnekalgpaaDoor
open Go.RowKit BaseMath WireMath ReqMath

/-- the table of kinds, as the program's text lays it -/
def KTab (w : World) : Prop := ∀ k : Nat, k < 13 → w.cell? ⟨1, k * 2, none⟩ = some (vs (nameK k)) ∧ w.cell? ⟨1, k * 2 + 1, none⟩ = some (.int .i64 (hasK k : Nat))
theorem KTab.size {w : World} (h : KTab w) : 1 < w.heap.size := block_of_cell (h 0 (by decide)).1
theorem KTab.of_block {w w' : World} (h : KTab w) (hb : w'.heap[1]? = w.heap[1]?) : KTab w' := fun k hk => by
  rw [World.cell?_of_block (w := w) (a := ⟨1, k * 2, none⟩) hb, World.cell?_of_block (w := w) (a := ⟨1, k * 2 + 1, none⟩) hb]; exact h k hk
theorem KTab.below {w w' : World} {B : Nat} (h : KTab w) (hb : Below B w w') (hB : 1 < B) : KTab w' := h.of_block (hb.block 1 hB)
theorem KTab.belowS {w w' : World} (h : KTab w) (hb : Below w.heap.size w w') : KTab w' := h.below hb h.size
theorem KTab.drew {w : World} (h : KTab w) : KTab w.drew := h
theorem KTab.drewN {w : World} (h : KTab w) (n : Nat) : KTab (w.drewN n) := h
abbrev zk : Value := .string ⟨#[]⟩
set_option maxHeartbeats 1000000 in
set_option maxRecDepth 100000 in
theorem lookup_any (k : By) (w : World) (ht : KTab w) :
    Calls Tryd.prog 40 #[vb k] w fun e w' => e = .returned (.agg #[vs (nameK k.toNat), .int .i64 (hasK k.toNat : Nat)]) ∧ Below w.heap.size w w' := by
  have hb0 : Below w.heap.size w (w.alloc (.cells #[.string ⟨#[]⟩, .int .i64 0] 92)) := (Below.refl _ _).alloc (Nat.le_refl _) _
  have hs := ht.size
  have hk2 : k.toNat < 256 := k.toNat_lt
  by_cases hk : 13 ≤ k.toNat
  · have HN := Lib.hid (nameK_big _ hk); have HH := Lib.hid (hasK_big _ hk)
    have hk' : (13 : Int) ≤ (k.toNat : Int) := by omega
    rw [HN.out, HH.out]
    have HB := Lib.hid hb0
    clear ht hb0 hk
    go_enter Tryd.func40, Tryd.ntmps40
    go_wp2_with fail
    refine bodyPost_ret (v := .agg #[vs [], .int .i64 0]) (by simp [results, Tryd.results40, go_sem]) rfl ⟨rfl, (Below.refl _ _).alloc (Nat.le_refl _) _⟩
  · obtain ⟨c0, c1⟩ := (ht.belowS hb0) k.toNat (by omega)
    have hk' : ¬ (13 : Int) ≤ (k.toNat : Int) := by omega
    have HB := Lib.hid hb0
    clear ht hb0 hk
    generalize nameK k.toNat = n at *
    generalize hasK k.toNat = h at *
    go_enter Tryd.func40, Tryd.ntmps40
    go_wp2_with fail
    refine bodyPost_ret (v := .agg #[vs n, .int .i64 (h : Nat)]) (by simp [results, Tryd.results40, go_sem]) rfl ⟨rfl, (Below.refl _ _).alloc (Nat.le_refl _) _⟩
/-- the two fields of a line of the table -/
theorem field92_0 (x y : Value) (w : World) : (Instr.field 92 (.agg #[x, y]) 0).run Tryd.prog w = .ok x w := by kernel_rfl
theorem field92_1 (x y : Value) (w : World) : (Instr.field 92 (.agg #[x, y]) 1).run Tryd.prog w = .ok y w := by kernel_rfl
attribute [go_sem] field92_0 field92_1
set_option maxRecDepth 100000 in
theorem kind_any (k : By) (w : World) (ht : KTab w) :
    Calls Tryd.prog 30 #[vb k] w fun e w' => e = .returned (vs (nameK k.toNat)) ∧ Below w.heap.size w w' := by
  have HT := Lib.hid ht; clear ht
  go_enter Tryd.func30, Tryd.ntmps30
  go_wp2_with fail
  refine (lookup_any k w HT.out).mono ?_
  rintro e w1 ⟨rfl, hb⟩
  have HB := Lib.hid hb; clear hb
  go_wp2_with fail
  go_ret
  exact ⟨rfl, HB.out⟩
end Go.Proofs.YtghbabnekalgpaaDoor
