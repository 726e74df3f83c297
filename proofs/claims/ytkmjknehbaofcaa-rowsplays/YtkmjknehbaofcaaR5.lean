/- The contract of slices.Delete at formers, of all behind a place. -/
import Derived.Test.YtkmjknehbaofcaaR3
import Derived.Deep.RegionLaw
namespace Go.Proofs.Ytkmjknehbaofcaa
open Go.RowKit Go.Maps Go.WideShapes Go.MapKept Go.WideMaps Go.ChangeMaps BaseMath WireMath NameMath

theorem setCells_nil (w : World) (b o : Nat) : w.setCells b o [] = w := rfl
def Z3 (n : Nat) : List Value := (Builtin.zeroCells #[.string ⟨#[]⟩, .int .i64 0, .bool false] n).toList
theorem Z3_length (n : Nat) : (Z3 n).length = n * 3 := by unfold Z3; rw [Array.length_toList, size_zeroCells]; rfl
theorem Z3_one (n : Nat) : ∀ v ∈ Z3 n, v.oneCell' = true := by
  intro v hv
  unfold Z3 Builtin.zeroCells at hv
  rw [Array.toList_map, List.mem_map] at hv
  obtain ⟨i, -, rfl⟩ := hv
  show (#[Value.string ⟨#[]⟩, .int .i64 0, .bool false])[i % 3]!.oneCell' = true
  rcases (by omega : i % 3 = 0 ∨ i % 3 = 1 ∨ i % 3 = 2) with h | h | h <;> rw [h] <;> rfl
theorem run_clear_row (w : World) (g o n c : Nat) (cur : Array Value) (hg : w.heap[g]? = some (.cells cur 76 (0, 0))) (hn : 0 < n) (hfit : o + n * 3 ≤ cur.size) (ty : TypeId) :
    (Builtin.clear_ #[63] ty #[.slice (some ⟨g, o, none⟩) n c]).run Try.prog w = .ok (.tuple #[]) (w.setRow g (cur.toList.take o ++ Z3 n ++ cur.toList.drop (o + n * 3)).toArray) := by
  have hst := run_storeCells_at Try.prog g o 76 (Z3 n) 0 cur w hg (by rw [Z3_length]; omega) (Z3_one n)
  rw [Z3_length, Nat.add_zero] at hst
  unfold Z3 at hst ⊢
  obtain ⟨m, rfl⟩ : ∃ m, n = m + 1 := ⟨n - 1, by omega⟩
  simp [Builtin.clear_, run_underlying Try.underlying63, Try.zeroValue76, Value.cells, hst]
theorem clear_size (cur : Array Value) (o n : Nat) (h : o + n * 3 ≤ cur.size) : (cur.toList.take o ++ Z3 n ++ cur.toList.drop (o + n * 3)).toArray.size = cur.size := by
  simp only [List.size_toArray, List.length_append, List.length_take, List.length_drop, Array.length_toList, Z3_length]; omega
theorem clear_take (cur : Array Value) (o n : Nat) (h : o ≤ cur.size) : (cur.toList.take o ++ Z3 n ++ cur.toList.drop (o + n * 3)).toArray.toList.take o = cur.toList.take o := by
  rw [List.append_assoc, List.take_append_of_le_length (by simp; omega), List.take_take, Nat.min_self]
set_option maxRecDepth 100000 in
set_option maxHeartbeats 4000000 in
theorem delete_any (base g n cap i : Nat) (xs : List Value) (w : World) (h : w.ownsRow base 76 3 (.slice (some ⟨g, 0, none⟩) n cap) n xs) (hi : i < n) (hn : n ≤ 1000) :
    Calls Try.prog 39 #[.slice (some ⟨g, 0, none⟩) n cap, .int .i64 i, .int .i64 n] w fun e w' => e = .returned (.slice (some ⟨g, 0, none⟩) i cap) ∧ w'.ownsRow base 76 3 (.slice (some ⟨g, 0, none⟩) i cap) i (xs.take (i * 3)) ∧ w.grownBy w' (some g) := by
  obtain ⟨hlen, hr⟩ := h
  rcases hr with ⟨hv, -⟩ | ⟨g', cap', cur, hv, hb, hg, hnc, hcm, hcs, hct⟩
  · cases hv
  · cases hv
    obtain ⟨i0, hi0, hz0, hz1, hz2⟩ := info_parts info76
    have hcl := fun ty => run_clear_row w.drew g (i * 3) (n - i) (cap - i) cur hg (by omega) (by omega) ty
    have HF : Hid ((w.drew.setRow g (cur.toList.take (i * 3) ++ Z3 (n - i) ++ cur.toList.drop (i * 3 + (n - i) * 3)).toArray).ownsRow base 76 3 (.slice (some ⟨g, 0, none⟩) i cap) i (xs.take (i * 3)) ∧ w.grownBy (w.drew.setRow g (cur.toList.take (i * 3) ++ Z3 (n - i) ++ cur.toList.drop (i * 3 + (n - i) * 3)).toArray) (some g)) := by
      refine ⟨⟨by rw [List.length_take, hlen]; omega, .inr ⟨g, cap, _, rfl, hb, setRow_heap _ g _ _ 76 _ hg, by omega, hcm, by rw [clear_size _ _ _ (by omega)]; exact hcs, ?_⟩⟩, ⟨rfl, rfl, rfl, by simp, fun k _ hk => setRow_other _ g k _ (fun e => hk (by rw [e]))⟩⟩
      rw [clear_take _ _ _ (by omega), ← hct, List.take_take]; congr 1; omega
    generalize w.drew.setRow g (cur.toList.take (i * 3) ++ Z3 (n - i) ++ cur.toList.drop (i * 3 + (n - i) * 3)).toArray = w2 at *
    have h1 : (i : Int) ≤ n := by omega
    have h2 : (n : Int) ≤ cap := by omega
    have h3 : (i : Int) ≤ cap := by omega
    have h4 : ((i : Int) == (n : Int)) = false := by simp; omega
    have h5 : ¬ i = n := by omega
    have h6 : ¬ cap = i := by omega
    have h7 : ¬ (i : Int) = n := by omega
    have h8 : i ≤ n := by omega
    clear hct hlen hb hcm hg
    by_cases hcap : cap = n
    · subst hcap
      go_enter Try.func39, Try.ntmps39
      go_wp2_with fail
      go_region_law (refine step_append_room rfl (.tmp 22) (.tmp 25) 63 rfl 76 i0 3 Try.underlying63 hi0 hz1 g 0 i cap (by simp [Act.eval, Act.put]) ⟨g, 0, none⟩ 0 0 [] (by simp [Act.eval, Act.put]) rfl (fun j u h => by simp at h) (fun u h => by cases h) (by omega) (fun j h => by simp at h) ?_; rw [setCells_nil])
      go_wp2_with fail
      go_ret
      exact ⟨rfl, HF.out⟩
    · go_enter Try.func39, Try.ntmps39
      go_wp2_with fail
      go_region_law (refine step_append_room rfl (.tmp 22) (.tmp 25) 63 rfl 76 i0 3 Try.underlying63 hi0 hz1 g 0 i cap (by simp [Act.eval, Act.put]) ⟨g, n * 3, none⟩ 0 (cap - n) [] (by simp [Act.eval, Act.put]) rfl (fun j u h => by simp at h) (fun u h => by cases h) (by omega) (fun j h => by simp at h) ?_; rw [setCells_nil])
      go_wp2_with fail
      go_ret
      exact ⟨rfl, HF.out⟩
end Go.Proofs.Ytkmjknehbaofcaa
