/- The contract of lay: words as bytes. -/
import Derived.Test.YthmenbccofhjfaaDoorHW4
import Derived.Deep.AppendLies
namespace Go.Proofs.YthmenbccofhjfaaDoor.Hs
open Go.RowKit HashMath

theorem outN_take (l : List Wd) (k : Nat) (h : k < l.length) : outN (l.take (k + 1)) = outN (l.take k) ++ bytesOf (l.getD k 0) := by
  unfold outN
  rw [List.take_succ_eq_append_getElem h, List.map_append, List.flatten_append, List.getD_eq_getElem?_getD, List.getElem?_eq_getElem h]; simp
/-- what stands behind k rounds -/
structure LayRel (w : World) (l : List Wd) (k : Nat) (v : Value) (wr : World) : Prop where
  below : Below w.heap.size w wr
  own : wr.ownsRow w.heap.size 5 1 v (4 * k) ((outN (l.take k)).map vb)

set_option maxHeartbeats 1000000 in
set_option maxRecDepth 100000 in
theorem lay_any (s : St) (w : World) :
    Calls Tryd.prog 50 #[aggS s] w fun e w' => ∃ v, e = .returned v ∧ w'.ownsRow w.heap.size 5 1 v 32 ((outN s.list).map vb) ∧ Below w.heap.size w w' := by
  obtain ⟨i0, hi, hz0, hz1, hz2⟩ := info_parts info5
  obtain ⟨hz39, hs39⟩ := zero_of_info info39
  have HZ39 := Lib.hid hs39; clear hs39 hz39
  have hmk : ∀ w, (Instr.makeSlice 26 (.int .i64 0) (.int .i64 32)).run Tryd.prog w = .ok (.slice (some ⟨w.heap.size, 0, none⟩) 0 32) (w.alloc (.cells (List.replicate 32 (.int .u8 0)).toArray 5)) := run_mk 0 32 (by omega) (by omega)
  obtain ⟨z0, hzz⟩ : ∃ z, z = List.replicate 32 (Value.int .u8 0) := ⟨_, rfl⟩
  rw [← hzz] at hmk
  have HZ0 := Lib.hid hzz; clear hzz
  go_enter Tryd.func50, Tryd.ntmps50
  go_upto_region 2 with fail
  generalize hW1 : (w.alloc (.cells #[vw s.a, vw s.b, vw s.c, vw s.d, vw s.e, vw s.f, vw s.g, vw s.h] 77)).alloc (.cells z0.toArray 5) = W1
  have bW : Blk W1 w.heap.size 77 (cellsS s) := by rw [← hW1]; exact (Blk.new w 77 _).alloc _
  have hL0 : LayRel w s.list 0 (.slice (some ⟨w.heap.size + 1, 0, none⟩) 0 32) W1 := by
    rw [← hW1]
    refine ⟨((Below.refl _ _).alloc (Nat.le_refl _) _).alloc (by simp) _, ?_⟩
    have := World.ownsRow_made (base := w.heap.size) (e := 5) (size := 1) (w.alloc (.cells #[vw s.a, vw s.b, vw s.c, vw s.d, vw s.e, vw s.f, vw s.g, vw s.h] 77)) z0.toArray 32 (by simp) (by unfold maxLen; omega) (by rw [HZ0.out]; simp)
    simpa [outN] using this
  have HbW := Lib.hid bW; have HL0 := Lib.hid hL0
  clear bW hL0 hW1 hmk
  go_wp2_with (refine wpList_load_blk rfl (.tmp 1) rfl rfl HbW.out Tryd.underlying77 HZ39.out ?_)
  clear HbW
  go_loopw [3, 8] (fun v vi wr => ∃ k : Nat, k ≤ 8 ∧ vi = .int .i64 k ∧ Hid (LayRel w s.list k v wr)) (fun _ vi _ => 8 - (intOf vi).toNat)
  case atStart => exact ⟨0, Nat.zero_le _, rfl, HL0.out⟩
  case round =>
    clear HL0
    obtain ⟨k, hk, rfl, HR⟩ := hrel
    rename World => W0
    by_cases hlt : k < 8
    · have hki : ∀ w, (Instr.index 77 (.agg (cellsS s).toArray) (.int .i64 k)).run Tryd.prog w = .ok (vw (s.list.getD k 0)) w := by
        refine run_index39 _ k _ hlt ?_
        rw [List.getElem?_toArray]; exact map_getD s.list k hlt
      have hE : (outN (s.list.take (k + 1))).map vb = (outN (s.list.take k)).map vb ++ (bytesOf (s.list.getD k 0)).map vb := by
        rw [outN_take s.list k hlt, List.map_append]
      have HE := Lib.hid hE; clear hE
      generalize s.list.getD k 0 = x at *
      have hown := HR.out.own
      have hk8 : (k : Int) < 8 := by omega
      have HSZ := Lib.hid HR.out.below.size
      go_wp2_with (at_builtin; refine wpList_append_own _ rfl _ _ 26 rfl w.heap.size 5 i0 (.int .u8 0) 1 1 Tryd.underlying26 hi hz0 hz1 hz2 rfl (by decide) _ _ _ rfl (hown.alloc _) ⟨W0.heap.size, 0, none⟩ 4 4 ((bytesOf x).map vb) rfl rfl ?c1 ?c2 ?c3 ?c4 ?c5 ?_)
      case c1 =>
        intro j v hj
        rw [Addr.add_mid, Nat.zero_add, (Blk.new W0 5 #[vb ((x >>> 24).setWidth 8), vb ((x >>> 16).setWidth 8), vb ((x >>> 8).setWidth 8), vb (x.setWidth 8)]).cell]
        exact hj
      case c2 => intro v hv; obtain ⟨y, _, rfl⟩ := List.mem_map.1 hv; rfl
      case c3 => unfold maxLen; omega
      case c4 => omega
      case c5 => have := HSZ.out; simp; omega
      intro v' w2 hown' hgrow _
      have HN : Hid (LayRel w s.list (k + 1) v' w2) := by
        refine ⟨?_, ?_⟩
        · refine (HR.out.below.alloc HSZ.out _).grown hgrow (by have := HSZ.out; simp; omega) ?_
          intro g hg'
          exact (hown.lt g hg').1
        · rw [HE.out]
          exact hown'
      clear hown' hgrow hown HE
      go_wp2_with fail
      go_roundw
      case rel => exact ⟨k + 1, by omega, by go_num, HN.out⟩
      case measure => simp [intOf]; omega
    · obtain rfl : k = 8 := by omega
      have ho := HR.out.own
      rw [show s.list.take 8 = s.list from rfl] at ho
      have HO := Lib.hid ho; have HB := Lib.hid HR.out.below
      clear ho
      go_wp2
      go_ret
      exact ⟨_, rfl, HO.out, HB.out⟩
end Go.Proofs.YthmenbccofhjfaaDoor.Hs
