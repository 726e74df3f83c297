/- The contracts of the reference's Tables and New. -/
import Derived.Test.YthocaimiofehkaaHW13
import Derived.Test.YthocaimiofehkaaHW3
import Derived.Maps.AppendAt
namespace Go.Proofs.Ythocaimiofehkaa.Hs
open Go.RowKit HashMath

theorem info38 : (Try.prog.info? 68).map (fun i => (i.zero, i.size, i.bytes)) = some (some (.int .u32 0), 1, 4) := by kernel_rfl
/-- two rows of the call's own, apart from one another -/
structure TabRel (w1 : World) (lh lk : List Wd) (vh vk : Value) (wr : World) : Prop where
  below : Below w1.heap.size w1 wr
  h : wr.ownsRow w1.heap.size 68 1 vh lh.length (lh.map vw)
  k : wr.ownsRow w1.heap.size 68 1 vk lk.length (lk.map vw)
  apart : ∀ g, vh.ownBlock = some g → vk.ownBlock = some g → False
theorem TabRel.stepH {w1 : World} {lh lk : List Wd} {vh vk v' : Value} {W0 w2 : World} {o : Obj} {x : Wd} (r : TabRel w1 lh lk vh vk W0) (ho : w2.ownsRow w1.heap.size 68 1 v' (lh.length + 1) (lh.map vw ++ [vw x]))
    (hg : (W0.alloc o).grownBy w2 vh.ownBlock) (ha : v'.ownBlock = vh.ownBlock ∨ v'.ownBlock = some (W0.alloc o).heap.size) : TabRel w1 (lh ++ [x]) lk v' vk w2 := by
  have hs := r.below.size
  refine ⟨(r.below.alloc hs _).grown hg (by simp; omega) (fun g hg' => (r.h.lt g hg').1), by simpa using ho, (r.k.alloc o).kept hg ?_, ?_⟩
  · cases hk : vk.ownBlock with
    | none => exact .inl rfl
    | some g => exact .inr (fun e => r.apart g e.symm hk)
  · intro g h1 h2
    rcases ha with e | e
    · exact r.apart g (e ▸ h1) h2
    · rw [e] at h1
      have := (r.k.lt g h2).2
      simp at h1
      omega
theorem TabRel.stepK {w1 : World} {lh lk : List Wd} {vh vk v' : Value} {W0 w2 : World} {o : Obj} {x : Wd} (r : TabRel w1 lh lk vh vk W0) (ho : w2.ownsRow w1.heap.size 68 1 v' (lk.length + 1) (lk.map vw ++ [vw x]))
    (hg : (W0.alloc o).grownBy w2 vk.ownBlock) (ha : v'.ownBlock = vk.ownBlock ∨ v'.ownBlock = some (W0.alloc o).heap.size) : TabRel w1 lh (lk ++ [x]) vh v' w2 := by
  have hs := r.below.size
  refine ⟨(r.below.alloc hs _).grown hg (by simp; omega) (fun g hg' => (r.k.lt g hg').1), (r.h.alloc o).kept hg ?_, by simpa using ho, ?_⟩
  · cases hk : vh.ownBlock with
    | none => exact .inl rfl
    | some g => exact .inr (fun e => r.apart g hk e.symm)
  · intro g h1 h2
    rcases ha with e | e
    · exact r.apart g h1 (e ▸ h2)
    · rw [e] at h2
      have := (r.h.lt g h1).2
      simp at h2
      omega
theorem take_snoc {l : List Wd} (k : Nat) (x : Wd) (h : l[k]? = some x) : l.take (k + 1) = l.take k ++ [x] := by
  obtain ⟨h1, h2⟩ := List.getElem?_eq_some_iff.1 h
  rw [List.take_succ_eq_append_getElem h1, h2]
theorem kth_K (k : Nat) (h : k < 64) : K0[k]? = some (rootM ((primesK 310).getD k 0) true) := by
  have hl : k < (primesK 310).length := by rw [primesK_310]; exact h
  rw [← roots_K, List.getElem?_map, List.getElem?_eq_getElem hl, List.getD_eq_getElem?_getD, List.getElem?_eq_getElem hl]; rfl
theorem kth_H (k : Nat) (h : k < 8) : H0.list[k]? = some (rootM ((primesK 310).getD k 0) false) := by
  have hl : k < (primesK 310).length := by rw [primesK_310]; omega
  rw [← roots_H, List.getElem?_map, List.getElem?_take, if_pos h, List.getElem?_eq_getElem hl, List.getD_eq_getElem?_getD, List.getElem?_eq_getElem hl]; rfl

set_option maxHeartbeats 1000000 in
set_option maxRecDepth 100000 in
theorem tables_any (w : World) :
    Calls Try.prog 37 #[] w fun e w' => ∃ w1 vh vk, e = .returned (.tuple #[vh, vk]) ∧ Below w.heap.size w w1 ∧ TabRel w1 H0.list K0 vh vk w' := by
  obtain ⟨i0, hi, hz0, hz1, hz2⟩ := info_parts info38
  go_enter Try.func37, Try.ntmps37
  go_wp2_with fail
  refine (primes_any w).mono ?_
  rintro e w1 ⟨v, rfl, hP⟩
  have ho := hP.own
  obtain ⟨A, c, rfl, hform⟩ := own_form ho
  obtain ⟨g, rfl, hg1, hg2, hcell⟩ := hform (by rw [primesK_310]; omega)
  have HC := Lib.hid hcell
  have HB1 := Lib.hid hP.below
  rw [primesK_310]
  clear hcell hP ho hform
  go_wp2_with fail
  go_loopw [3, 4, 5] (fun vh vk vi wr => ∃ k : Nat, k ≤ 64 ∧ vi = .int .i64 k ∧ Hid (TabRel w1 (H0.list.take k) (K0.take k) vh vk wr)) (fun _ _ vi _ => 64 - (intOf vi).toNat)
  case atStart => exact ⟨0, Nat.zero_le _, rfl, Below.refl _ _, World.ownsRow_nil _ _ _ _, World.ownsRow_nil _ _ _ _, fun g h => by cases h⟩
  case round =>
    obtain ⟨k, hk, rfl, HR⟩ := hrel
    rename World => W0
    by_cases hlt : k < 64
    · have hcl : w1.cell? ⟨g, k, none⟩ = some (vq ((primesK 310).getD k 0)) := by
        have hl : k < (primesK 310).length := by rw [primesK_310]; exact hlt
        rw [HC.out k hl, List.getElem?_map, List.getElem?_eq_getElem hl, List.getD_eq_getElem?_getD, List.getElem?_eq_getElem hl]; rfl
      have hk1 := kth_K k hlt
      have HK1 := Lib.hid hk1; clear hk1
      have HH1 := Lib.hid (kth_H k)
      obtain ⟨lk, hlk⟩ : ∃ lk, lk = K0.take k := ⟨_, rfl⟩
      obtain ⟨lh, hlh⟩ : ∃ lh, lh = H0.list.take k := ⟨_, rfl⟩
      rw [← hlk, ← hlh] at HR
      have HLK : Hid (lk.length = k) := by show _ = _; rw [hlk]; simp [K0_length]; omega
      have HNK : Hid (K0.take (k + 1) = lk ++ [rootM ((primesK 310).getD k 0) true]) := by show _ = _; rw [hlk]; exact take_snoc k _ HK1.out
      generalize (primesK 310).getD k 0 = p at *
      have hc0 : W0.cell? ⟨g, k, none⟩ = some (vq p) := by rw [HR.out.below.cell (p := ⟨g, k, none⟩) hg2]; exact hcl
      have HSZ := Lib.hid HR.out.below.size
      have hk64 : (k : Int) < 64 := by omega
      by_cases h8 : k < 8
      · have hk8 : (k : Int) < 8 := by omega
        have HLH : Hid (lh.length = k) := by show _ = _; rw [hlh]; simp [St.list]; omega
        have HNH : Hid (H0.list.take (k + 1) = lh ++ [rootM p false]) := by show _ = _; rw [hlh]; exact take_snoc k _ (HH1.out h8)
        clear hlk hlh HK1 HH1
        have hownH := HR.out.h
        rw [HLH.out] at hownH
        go_upto_region 8 with (first
          | (go_at_call 49; refine (root_square p _).mono ?_; rintro e w' ⟨rfl, rfl⟩)
          | (at_builtin; refine wpList_append_own_at _ rfl _ _ 45 rfl w1.heap.size 68 i0 (.int .u32 0) 1 4 Try.underlying45 hi hz0 hz1 hz2 rfl (by decide) _ _ _ rfl (hownH.alloc _) ⟨W0.heap.size, 0, none⟩ 1 1 [vw (rootM p false)] rfl rfl ?c1 ?c2 ?c3 ?c4 ?c5 ?_))
        case c1 =>
          intro j v hj
          rw [Addr.add_mid, Nat.zero_add, (Blk.new W0 68 #[vw (rootM p false)]).cell]
          exact hj
        case c2 => intro v hv; simp at hv; subst hv; rfl
        case c3 => unfold maxLen; omega
        case c4 => omega
        case c5 => have := HSZ.out; simp; omega
        intro v' w2 hown' hgrow _ hat
        have HR2 := Lib.hid (HR.out.stepH (x := rootM p false) (by rw [HLH.out]; exact hown') hgrow (by simpa using hat))
        clear hown' hgrow hat hownH hc0
        have hc2 : w2.cell? ⟨g, k, none⟩ = some (vq p) := by rw [HR2.out.below.cell (p := ⟨g, k, none⟩) hg2]; exact hcl
        have HSZ2 := Lib.hid HR2.out.below.size
        have hownK := HR2.out.k
        rw [HLK.out] at hownK
        go_wp2_with (first
          | (go_at_call 49; refine (root_third p _).mono ?_; rintro e w' ⟨rfl, rfl⟩)
          | (at_builtin; refine wpList_append_own_at _ rfl _ _ 45 rfl w1.heap.size 68 i0 (.int .u32 0) 1 4 Try.underlying45 hi hz0 hz1 hz2 rfl (by decide) _ _ _ rfl (hownK.alloc _) ⟨w2.heap.size, 0, none⟩ 1 1 [vw (rootM p true)] rfl rfl ?d1 ?d2 ?d3 ?d4 ?d5 ?_))
        case d1 =>
          intro j v hj
          rw [Addr.add_mid, Nat.zero_add, (Blk.new w2 68 #[vw (rootM p true)]).cell]
          exact hj
        case d2 => intro v hv; simp at hv; subst hv; rfl
        case d3 => unfold maxLen; omega
        case d4 => omega
        case d5 => have := HSZ2.out; simp; omega
        intro v2 w3 hown2 hgrow2 _ hat2
        have HR3 := Lib.hid (HR2.out.stepK (x := rootM p true) (by rw [HLK.out]; exact hown2) hgrow2 (by simpa using hat2))
        clear hown2 hgrow2 hat2 hownK
        go_wp2_with fail
        go_roundw
        case rel => exact ⟨k + 1, by omega, by go_num, by rw [HNK.out, HNH.out]; exact HR3.out⟩
        case measure => simp [intOf]; omega
      · have hk8 : ¬ (k : Int) < 8 := by omega
        have HNH : Hid (H0.list.take (k + 1) = lh) := by show _ = _; rw [hlh, List.take_of_length_le (by simp [St.list]; omega), List.take_of_length_le (by simp [St.list]; omega)]
        clear hlk hlh HK1 HH1
        have hc2 : W0.cell? ⟨g, k, none⟩ = some (vq p) := by rw [HR.out.below.cell (p := ⟨g, k, none⟩) hg2]; exact hcl
        have HSZ2 := Lib.hid HR.out.below.size
        have hownK := HR.out.k
        rw [HLK.out] at hownK
        go_wp2_with (first
          | (go_at_call 49; refine (root_third p _).mono ?_; rintro e w' ⟨rfl, rfl⟩)
          | (at_builtin; refine wpList_append_own_at _ rfl _ _ 45 rfl w1.heap.size 68 i0 (.int .u32 0) 1 4 Try.underlying45 hi hz0 hz1 hz2 rfl (by decide) _ _ _ rfl (hownK.alloc _) ⟨W0.heap.size, 0, none⟩ 1 1 [vw (rootM p true)] rfl rfl ?d1 ?d2 ?d3 ?d4 ?d5 ?_))
        case d1 =>
          intro j v hj
          rw [Addr.add_mid, Nat.zero_add, (Blk.new W0 68 #[vw (rootM p true)]).cell]
          exact hj
        case d2 => intro v hv; simp at hv; subst hv; rfl
        case d3 => unfold maxLen; omega
        case d4 => omega
        case d5 => have := HSZ2.out; simp; omega
        intro v2 w3 hown2 hgrow2 _ hat2
        have HR3 := Lib.hid (HR.out.stepK (x := rootM p true) (by rw [HLK.out]; exact hown2) hgrow2 (by simpa using hat2))
        clear hown2 hgrow2 hat2 hownK
        go_wp2_with fail
        go_roundw
        case rel => exact ⟨k + 1, by omega, by go_num, by rw [HNK.out, HNH.out]; exact HR3.out⟩
        case measure => simp [intOf]; omega
    · obtain rfl : k = 64 := by omega
      have HR2 := Lib.hid HR.out
      rw [show H0.list.take 64 = H0.list from rfl, show K0.take 64 = K0 from rfl] at HR2
      clear HR HC
      go_wp2
      go_ret2
      exact ⟨w1, _, _, rfl, HB1.out, HR2.out⟩
end Go.Proofs.Ythocaimiofehkaa.Hs
