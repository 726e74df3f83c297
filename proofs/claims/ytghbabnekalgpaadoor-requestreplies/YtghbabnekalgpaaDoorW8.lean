/- The contracts of the reference's Num and Text, and the walk of WireCut. -/
import Derived.Test.YtghbabnekalgpaaDoorW6
import Derived.Test.YtghbabnekalgpaaDoorWMath2
import Derived.Deep.DeepCutAuto
namespace Go.Proofs.YtghbabnekalgpaaDoor
open Go.RowKit BaseMath WireMath

set_option maxRecDepth 100000 in
theorem new_row (w : World) (l : List By) (n : Nat) (hn : l.length = n) (hm : n ≤ 1000000) : RowRel w 5 (l.map vb) (.slice (some ⟨w.heap.size, 0, .none⟩) n n) (w.alloc (.cells (l.map vb).toArray 5)) :=
  ⟨(Below.refl _ _).alloc (Nat.le_refl _) _, by simp, .inr ⟨w.heap.size, n, _, by simp [hn], Nat.le_refl _, Blk.new w 5 _, by simp; omega, by unfold maxLen; omega, by simp [hn], by rw [Nat.mul_one, List.length_map]; exact List.take_of_length_le (by simp)⟩⟩
set_option maxRecDepth 100000 in
theorem num_hi (n : Int) : IntKind.u64.wrap (((IntKind.u64.wrap n).tmod 65536).tdiv 256) % 256 = n / 256 % 256 := by
  rw [IntKind.wrap_u64 n, Int.tmod_eq_emod_of_nonneg (by omega), Int.tdiv_eq_ediv_of_nonneg (by omega), IntKind.wrap_u64]; omega
set_option maxRecDepth 100000 in
theorem num_lo (n : Int) : (IntKind.u64.wrap n).tmod 256 % 256 = n % 256 := by
  rw [IntKind.wrap_u64 n, Int.tmod_eq_emod_of_nonneg (by omega)]; omega
set_option maxRecDepth 100000 in
set_option maxHeartbeats 1000000 in
theorem rnum_any (n : Int) (w : World) :
    Calls Tryd.prog 56 #[.int .i64 n] w fun e w' => ∃ v, e = .returned v ∧ RowRel w 5 ((numB n).map vb) v w' := by
  have HR := Lib.hid (new_row w (numB n) 2 rfl (by decide))
  rw [numB_cells] at HR
  go_enter Tryd.func56, Tryd.ntmps56
  go_wp2_with fail
  go_ret
  refine ⟨_, rfl, ?_⟩
  rw [num_hi n, num_lo n]
  exact HR.out
set_option maxRecDepth 100000 in
set_option maxHeartbeats 1000000 in
theorem rtextb_any (s : List By) (hs : s.length ≤ 500000) (w : World) :
    Calls Tryd.prog 22 #[.string ⟨s.toArray⟩] w fun e w' => ∃ v, e = .returned v ∧ RowRel w 5 ((textB s).map vb) v w' := by
  go_enter Tryd.func22, Tryd.ntmps22
  go_wp2_with fail
  refine (rnum_any s.length w).mono ?_
  rintro e w1 ⟨v1, rfl, hr⟩
  obtain ⟨c, w2, hcv, hsrc, hb⟩ := str_bytes s w1
  have HS := Lib.hid hsrc
  have HR : Hid (RowRel w 5 ((numB s.length).map vb) v1 w2) := ⟨hr.below.trans (hb.mono hr.below.size), ownsRow_keep hr.own (fun k hk => hb.block k (hr.own.lt k hk).2)⟩
  clear hr hsrc hb
  have hsz := HR.out.below.size
  go_wp2_with (refine wpList_append_x rfl (.tmp 5) (.tmp 7) rfl w.heap.size v1 (numB s.length) rfl HR.out.own (some ⟨w1.heap.size, 0, none⟩) c s rfl (fun h => by cases h) HS.out (by rw [numB_length]; omega) hsz ?_)
  intro v3 w3 ho hg hk
  rw [← List.map_append, ← List.length_append] at ho
  have HR3 : Hid (RowRel w 5 ((textB s).map vb) v3 w3) := ⟨HR.out.below.grown hg hsz (fun k hk => (HR.out.own.lt k hk).1), by rw [List.length_map]; exact ho⟩
  clear ho hg hk HR HS
  go_wp2_with fail
  go_ret
  exact ⟨_, rfl, HR3.out⟩
end Go.Proofs.YtghbabnekalgpaaDoor
