/- The contract of the reference's Short. -/
import Derived.Test.YthocaimiofehkaaHW21
namespace Go.Proofs.Ythocaimiofehkaa.Hs
open Go.RowKit HashMath

set_option maxRecDepth 100000 in
theorem short_at (p : List By) (k : Nat) (h : k < 20) : (short p).take (k + 1) = (short p).take k ++ [if k < 12 then (sum p).getD k 0 ^^^ (sum p).getD (k + 20) 0 else (sum p).getD k 0] := by
  have hl : k < (short p).length := by rw [short_length]; exact h
  rw [List.take_succ_eq_append_getElem hl]
  congr 2
  simp [short]
set_option maxRecDepth 100000 in
theorem info26s : (Try.prog.info? 47).map (·.size) = some 2 := by kernel_rfl

set_option maxHeartbeats 1000000 in
set_option maxRecDepth 100000 in
theorem refShort_any (A : Option Addr) (cap : Nat) (p : List By) (hp : p.length ≤ 1000) (hN : A = none → cap = 0) (t : Value) (w : World) (ht : HasherIs w t) (hA : SrcIs w A p) :
    Calls Try.prog 36 #[t, .slice A p.length cap] w fun e w' => ∃ v, e = .returned v ∧ w'.ownsRow w.heap.size 5 1 v 20 ((short p).map vb) ∧ Below w.heap.size w w' := by
  have HT := Lib.hid ht
  obtain ⟨gh, ch, gk, ck, rfl, hth, htk⟩ := ht
  have HA := Lib.hid hA; have HN := Lib.hid hN
  clear hth htk hA hN
  go_enter Try.func36, Try.ntmps36
  go_upto_region 1 with fail
  generalize hW1 : w.alloc (.cells #[.slice (some ⟨gh, 0, none⟩) 8 ch, .slice (some ⟨gk, 0, none⟩) 64 ck] 47) = w1
  have HB1 : Hid (Below w.heap.size w w1) := by show Below _ _ _; rw [← hW1]; exact (Below.refl _ _).alloc (Nat.le_refl _) _
  have HBox : Hid (Blk w1 w.heap.size 47 [.slice (some ⟨gh, 0, none⟩) 8 ch, .slice (some ⟨gk, 0, none⟩) 64 ck]) := by show Blk _ _ _ _; rw [← hW1]; exact Blk.new w 47 _
  clear hW1
  go_wp2_with (refine wpList_load_mid rfl 47 (.tmp 2) rfl w.heap.size 0 rfl [.slice (some ⟨gh, 0, none⟩) 8 ch, .slice (some ⟨gk, 0, none⟩) 64 ck] _ HBox.out.range Try.underlying47 rfl info26s ?_)
  refine (refSum_any A cap p hp HN.out _ w1 (HT.out.below HB1.out) (HA.out.below HB1.out)).mono ?_
  rintro e w2 ⟨v2, rfl, ho2, hb2⟩
  obtain ⟨g, c, tl, hv2, hg, hblk, hc, _⟩ := own_newB ho2 (sum_length p) (by omega) hb2
  injection hv2 with hv2
  subst hv2
  rw [sum_length] at hc ⊢
  have HSm := Lib.hid hblk
  have HB2 : Hid (Below w.heap.size w w2) := HB1.out.trans (hb2.mono HB1.out.size)
  clear ho2 hb2 hblk HA HN HT HBox
  go_wp2_with fail
  go_loopw [6, 7] (fun v vi wr => ∃ k : Nat, k ≤ 20 ∧ vi = .int .i64 k ∧ Hid (RowRel w2 5 (((short p).take k).map vb) v wr)) (fun _ vi _ => 20 - (intOf vi).toNat)
  case atStart => exact ⟨0, Nat.zero_le _, rfl, RowRel.none _ _⟩
  case round =>
    obtain ⟨k, hk, rfl, HR⟩ := hrel
    rename World => W0
    by_cases hlt : k < 20
    · have hbs := HSm.out.bytes_app.below HR.out.below HSm.out.lt
      have d0 : W0.cell? ⟨g, k, none⟩ = some (vb ((sum p).getD k 0)) := by
        have := hbs.getD k (by rw [sum_length]; omega)
        rwa [Nat.zero_add] at this
      have HST := Lib.hid (short_at p k hlt)
      have HLn : Hid ((((short p).take k).map vb).length ≤ 20) := by show _ ≤ _; rw [List.length_map, List.length_take]; omega
      by_cases h12 : k < 12
      · have d1 : W0.cell? ⟨g, k + 20, none⟩ = some (vb ((sum p).getD (k + 20) 0)) := by
          have := hbs.getD (k + 20) (by rw [sum_length]; omega)
          rwa [Nat.zero_add] at this
        rw [if_pos h12] at HST
        generalize (sum p).getD k 0 = x at *
        generalize (sum p).getD (k + 20) 0 = y at *
        have hk12 : (k : Int) + 20 < 32 := by omega
        clear hbs
        go_wp2_with (refine wpList_push Try.underlying26 info5 rfl (by decide) rfl (.tmp 30) (.tmp 32) rfl HR.out rfl [vb (x ^^^ y)] 1 rfl rfl rfl (by have := HLn.out; omega) ?_)
        intro v' w' hr
        have HR2 : Hid (RowRel w2 5 (((short p).take (k + 1)).map vb) v' w') := by rw [HST.out, List.map_append, List.map_take]; exact hr
        clear hr HR
        go_wp2_with fail
        go_roundw
        case rel => exact ⟨k + 1, by omega, by go_num, HR2.out⟩
        case measure => simp [intOf]; omega
      · rw [if_neg h12] at HST
        generalize (sum p).getD k 0 = x at *
        have hk12 : ¬ (k : Int) + 20 < 32 := by omega
        clear hbs
        go_wp2_with (refine wpList_push Try.underlying26 info5 rfl (by decide) rfl (.tmp 30) (.tmp 32) rfl HR.out rfl [vb x] 1 rfl rfl rfl (by have := HLn.out; omega) ?_)
        intro v' w' hr
        have HR2 : Hid (RowRel w2 5 (((short p).take (k + 1)).map vb) v' w') := by rw [HST.out, List.map_append, List.map_take]; exact hr
        clear hr HR
        go_wp2_with fail
        go_roundw
        case rel => exact ⟨k + 1, by omega, by go_num, HR2.out⟩
        case measure => simp [intOf]; omega
    · obtain rfl : k = 20 := by omega
      have hrow := HR.out
      rw [List.take_of_length_le (by rw [short_length]; omega)] at hrow
      have HRow := Lib.hid hrow
      have hw2 := HB2.out.size
      clear hrow HR
      go_wp2
      go_ret
      have h1 := HRow.out.own
      rw [List.length_map, short_length] at h1
      refine ⟨_, rfl, ⟨h1.1, ?_⟩, HB2.out.trans (HRow.out.below.mono HB2.out.size)⟩
      rcases h1.2 with h | ⟨g, cap, cur, h1, h2, h3⟩
      · exact .inl h
      · exact .inr ⟨g, cap, cur, h1, Nat.le_trans hw2 h2, h3⟩
end Go.Proofs.Ythocaimiofehkaa.Hs
