/- The contracts of Short, and of the reference's Bytes and Join. -/
import Derived.Test.YthmenbccofhjfaaDoorHW7
import Derived.Laws.AppendOwnNone
import Derived.Maps.AppendAt
namespace Go.Proofs.YthmenbccofhjfaaDoor.Hs
open Go.RowKit HashMath

/-- the first k folded -/
def foldK (s : List By) (k : Nat) : List By := (List.range 20).map fun i => if i < k then s.getD i 0 ^^^ s.getD (i + 20) 0 else s.getD i 0
theorem foldK_length (s : List By) (k : Nat) : (foldK s k).length = 20 := by simp [foldK]
theorem foldK_zero (s : List By) (h : s.length = 32) : foldK s 0 = s.take 20 := by
  apply List.ext_getElem
  · simp [foldK, h]
  · intro i h1 h2
    have : i < 32 := by simp [foldK] at h1; omega
    simp [foldK, List.getD, h, this]
theorem foldK_get (s : List By) (k : Nat) (h : k < 20) : (foldK s k)[k]? = some (s.getD k 0) := by
  unfold foldK
  rw [List.getElem?_map, List.getElem?_range h]; simp
theorem foldK_set (s : List By) (k : Nat) : (foldK s k).set k (s.getD k 0 ^^^ s.getD (k + 20) 0) = foldK s (k + 1) := by
  apply List.ext_getElem
  · simp [foldK]
  · intro i h1 h2
    rw [List.getElem_set]
    by_cases e : k = i
    · subst e; simp [foldK]
    · rw [if_neg e]
      simp only [foldK, List.getElem_map, List.getElem_range]
      by_cases h3 : i < k
      · rw [if_pos h3, if_pos (by omega)]
      · rw [if_neg h3, if_neg (by omega)]
theorem foldK_last (p : List By) : foldK (sum p) 12 = short p := rfl
theorem short_length (p : List By) : (short p).length = 20 := by simp [short]
structure ShortRel (w : World) (g g2 : Nat) (s : List By) (tl : List Value) (k : Nat) (wr : World) : Prop where
  below : Below w.heap.size w wr
  sum : Blk wr g 5 (s.map vb ++ tl)
  short : Blk wr g2 5 ((foldK s k).map vb)

set_option maxHeartbeats 1000000 in
set_option maxRecDepth 100000 in
theorem short_any (A : Option Addr) (cap : Nat) (p : List By) (hp : p.length ≤ 1000) (hcap : p.length ≤ cap) (w : World) (ht : Tabs w) (hA : SrcIs w A p) :
    Calls Tryd.prog 37 #[.slice A p.length cap] w (NewB w (short p)) := by
  have hmk : ∀ w, (Instr.makeSlice 26 (.int .i64 20) (.int .i64 20)).run Tryd.prog w = .ok (.slice (some ⟨w.heap.size, 0, none⟩) 20 20) (w.alloc (.cells (List.replicate 20 (.int .u8 0)).toArray 5)) := run_mk 20 20 (by omega) (by omega)
  obtain ⟨z0, hzz⟩ : ∃ z, z = List.replicate 20 (Value.int .u8 0) := ⟨_, rfl⟩
  rw [← hzz] at hmk
  have HZ0 := Lib.hid hzz; clear hzz
  go_enter Tryd.func37, Tryd.ntmps37
  go_wp2_with fail
  refine (sum_new A cap p hp hcap w ht hA).mono ?_
  rintro e w1 ⟨g, c1, tl, rfl, hg, hblk, hc, hb⟩
  have HSL := Lib.hid (sum_length p)
  rw [HSL.out] at hc ⊢
  have HF := Lib.hid (foldK_last p)
  generalize sum p = s at *
  have HB := Lib.hid hb; have HBlk := Lib.hid hblk
  clear hb hblk hA ht
  have hg1 := HBlk.out.lt
  go_upto_region 3 with fail
  generalize hW1 : w1.alloc (.cells z0.toArray 5) = W1
  have HN : Hid (Blk W1 w1.heap.size 5 z0) := by show Blk _ _ _ _; rw [← hW1]; exact Blk.new w1 5 _
  have HG : Hid (Blk W1 g 5 (s.map vb ++ tl)) := by show Blk _ _ _ _; rw [← hW1]; exact HBlk.out.alloc _
  have HL : Hid (Below w.heap.size w W1) := by show Below _ _ _; rw [← hW1]; exact HB.out.alloc HB.out.size _
  clear hW1 hmk HBlk
  have hw1 : w.heap.size ≤ w1.heap.size := HB.out.size
  clear HB
  generalize w1.heap.size = g2 at *
  obtain ⟨s20, h20⟩ : ∃ s20, s20 = s.take 20 := ⟨_, rfl⟩
  have HS20 := Lib.hid h20; clear h20
  have HL20 : Hid (s20.length = 20) := by have := HSL.out; show _ = _; rw [HS20.out]; simp; omega
  refine wp_region_lit ?_
  go_upto_region 4 with (refine wpList_copy_blk rfl (.tmp 10) (.tmp 11) 26 26 rfl 5 Tryd.underlying26 (by kernel_rfl) 0 20 20 ⟨g, 0, none⟩ 32 c1 rfl rfl HN.out (s20.map vb) ?c1 ?c2 ?c3 ?c4 ?_)
  case c1 => rw [List.length_map, HL20.out]; rfl
  case c2 => rw [HS20.out]; exact (HG.out.bytes_app.take 20).src
  case c3 => rw [HZ0.out, List.length_map, HL20.out]; simp
  case c4 => intro v hv; obtain ⟨x, _, rfl⟩ := List.mem_map.1 hv; rfl
  intro W2 hset
  have HR : Hid (ShortRel w g g2 s tl 0 W2) := by
    refine ⟨hset.below _ _ HL.out hw1, hset.keep HG.out (by omega), ?_⟩
    have := hset.blk
    rw [foldK_zero s HSL.out, ← HS20.out]
    have e : z0.drop s20.length = [] := by rw [HZ0.out, HL20.out]; simp
    try simp only [List.take_zero, List.nil_append, Nat.zero_add, List.length_map] at this
    rw [e, List.append_nil] at this
    exact this
  clear hset HN HG HL HZ0
  have hc20 : ¬ c1 = 20 := by omega
  go_wp2_with fail
  go_loopw [16] (fun vi wr => ∃ k : Nat, k ≤ 12 ∧ vi = .int .i64 k ∧ Hid (ShortRel w g g2 s tl k wr)) (fun vi _ => 12 - (intOf vi).toNat)
  case atStart => exact ⟨0, Nat.zero_le _, rfl, HR.out⟩
  case round =>
    clear HR
    obtain ⟨k, hk, rfl, HR⟩ := hrel
    rename World => W0
    by_cases hlt : k < 12
    · have c1' : W0.cell? ⟨g, 20 + k, none⟩ = some (vb (s.getD (k + 20) 0)) := by
        have := HR.out.sum.bytes_app.getD (k + 20) (by have := HSL.out; omega)
        rw [Nat.zero_add, Nat.add_comm k 20] at this
        rw [this, Nat.add_comm]
      have c2' : W0.cell? ⟨g2, k, none⟩ = some (vb (s.getD k 0)) := by
        rw [HR.out.short.cell, List.getElem?_map, foldK_get s k (by omega)]; rfl
      have f2 := HR.out.short.frozen k
      have HS : Hid (ShortRel w g g2 s tl (k + 1) (W0.setCell ⟨g2, k, none⟩ (vb (s.getD k 0 ^^^ s.getD (k + 20) 0)))) := by
        refine ⟨HR.out.below.setCell hw1 _, HR.out.sum.other (by show g ≠ g2; omega) _, ?_⟩
        have := HR.out.short.set k (vb (s.getD k 0 ^^^ s.getD (k + 20) 0))
        rwa [← List.map_set, foldK_set] at this
      generalize s.getD k 0 = x at *
      generalize s.getD (k + 20) 0 = y at *
      have hk12 : (k : Int) < 12 := by omega
      have hk20 : (k : Int) < 20 := by omega
      go_wp2_with fail
      go_roundw
      case rel => exact ⟨k + 1, by omega, by go_num, HS.out⟩
      case measure => simp [intOf]; omega
    · obtain rfl : k = 12 := by omega
      have hsh := HR.out.short
      rw [HF.out] at hsh
      have HSh := Lib.hid hsh; have HBel := Lib.hid HR.out.below
      clear hsh HR HF
      go_wp2
      go_ret
      exact ⟨g2, 20, [], by rw [short_length]; rfl, hw1, by rw [List.append_nil]; exact HSh.out, by rw [short_length]; exact Nat.le_refl _, HBel.out⟩

end Go.Proofs.YthmenbccofhjfaaDoor.Hs
