/- The contract of schedule: the plan of a block, by value. -/
import Derived.Test.YthmenbccofhjfaaDoorHW1
import Derived.Test.YthmenbccofhjfaaDoorBlk
import Derived.StillTailTactics
import Derived.Deep.DeepCutAuto
namespace Go.Proofs.YthmenbccofhjfaaDoor.Hs
open Go.RowKit HashMath

/-- a word in a cell -/
abbrev vw (x : Wd) : Value := .int .u32 (u x)
abbrev vb (x : By) : Value := .int .u8 (ub x)
/-- bytes that the walk may read -/
def BytesAt (w : World) (b o : Nat) (p : List By) : Prop := ∀ k (h : k < p.length), w.cell? ⟨b, o + k, none⟩ = some (vb p[k])
theorem BytesAt.getD {w : World} {b o : Nat} {p : List By} (h : BytesAt w b o p) (k : Nat) (hk : k < p.length) : w.cell? ⟨b, o + k, none⟩ = some (vb (p.getD k 0)) := by
  rw [h k hk]; simp [List.getD, List.getElem?_eq_getElem hk]
theorem block_of_cell {W : World} {p : Addr} {v : Value} (h : W.cell? p = some v) : p.block < W.heap.size := World.block_lt_of_cell? W _ h
theorem BytesAt.lt {w : World} {b o : Nat} {p : List By} (h : BytesAt w b o p) (hk : 0 < p.length) : b < w.heap.size := block_of_cell (h 0 hk)
theorem BytesAt.below {B : Nat} {w w' : World} {b o : Nat} {p : List By} (h : BytesAt w b o p) (hb : Below B w w') (hB : b < B) : BytesAt w' b o p :=
  fun k hk => by rw [hb.cell (p := ⟨b, o + k, none⟩) hB]; exact h k hk
theorem info49 : (Tryd.prog.info? 83).map (fun i => (i.zero, i.size)) = some (some (.agg (Array.replicate 64 (.int .u32 0))), 64) := by kernel_rfl

/-- what the two blocks of schedule hold behind the first words -/
structure PlanRel (w : World) (l : List Wd) (wr : World) : Prop where
  below : Below w.heap.size w wr
  res : Blk wr w.heap.size 83 (List.replicate 64 (.int .u32 0))
  plan : Blk wr (w.heap.size + 1) 83 (l.map vw ++ List.replicate (64 - l.length) (.int .u32 0))
theorem PlanRel.start (w : World) : PlanRel w [] ((w.alloc (.cells (Array.replicate 64 (.int .u32 0)) 83)).alloc (.cells (Array.replicate 64 (.int .u32 0)) 83)) := by
  refine ⟨((Below.refl _ _).alloc (Nat.le_refl _) _).alloc (by simp) _, ?_, ?_⟩
  · have := (Blk.new w 83 (Array.replicate 64 (.int .u32 0))).alloc (.cells (Array.replicate 64 (.int .u32 0)) 83)
    simpa using this
  · have := Blk.new (w.alloc (.cells (Array.replicate 64 (.int .u32 0)) 83)) 83 (Array.replicate 64 (.int .u32 0))
    simpa using this
theorem PlanRel.size {w wr : World} {l : List Wd} (h : PlanRel w l wr) : w.heap.size + 1 < wr.heap.size := h.plan.lt
theorem PlanRel.cell {w wr : World} {l : List Wd} (h : PlanRel w l wr) (i : Nat) (hi : i < l.length) : wr.cell? ⟨w.heap.size + 1, i, none⟩ = some (vw (l.getD i 0)) := by
  rw [h.plan.cell, List.getElem?_append_left (by simpa using hi)]
  simp [List.getD, List.getElem?_eq_getElem hi]
theorem PlanRel.free {w wr : World} {l : List Wd} (h : PlanRel w l wr) (hl : l.length < 64) : wr.cell? ⟨w.heap.size + 1, l.length, none⟩ = some (.int .u32 0) := by
  rw [h.plan.cell, List.getElem?_append_right (by simp)]
  have e : 64 - l.length = (63 - l.length) + 1 := by omega
  rw [e, List.replicate_succ]
  simp
theorem PlanRel.step {w wr : World} {l : List Wd} (h : PlanRel w l wr) (hl : l.length < 64) (x : Wd) : PlanRel w (l ++ [x]) (wr.setCell ⟨w.heap.size + 1, l.length, none⟩ (vw x)) := by
  refine ⟨h.below.setCell (by show _ ≤ w.heap.size + 1; omega) _, h.res.other (by show _ ≠ w.heap.size + 1; omega) _, ?_⟩
  have := h.plan.set l.length (vw x)
  rw [List.set_append_right _ _ (by simp)] at this
  have e : 64 - l.length = (64 - (l ++ [x]).length) + 1 := by simp; omega
  rw [e, List.replicate_succ] at this
  simpa using this
theorem PlanRel.drew {w wr : World} {l : List Wd} (h : PlanRel w l wr) : PlanRel w l wr.drew := ⟨h.below.drew, h.res, h.plan⟩

set_option maxHeartbeats 1000000 in
set_option maxRecDepth 100000 in
theorem schedule_any (b o cap : Nat) (p : List By) (hp : p.length = 64) (w : World) (hc : BytesAt w b o p) :
    Calls Tryd.prog 57 #[.slice (some ⟨b, o, none⟩) 64 cap] w fun e w' => e = .returned (.agg ((plan p 64).map vw).toArray) ∧ Below w.heap.size w w' := by
  obtain ⟨hz, hsz⟩ := zero_of_info info49
  have hblt := hc.lt (by omega)
  have HP := Lib.hid hp; clear hp
  have HC := Lib.hid hc; clear hc
  have HSZ := Lib.hid hsz; clear hsz
  go_enter Tryd.func57, Tryd.ntmps57
  go_wp2_with fail
  go_loopw [6] (fun vi wr => ∃ k : Nat, k ≤ 16 ∧ vi = .int .i64 k ∧ Hid (PlanRel w (plan p k) wr)) (fun vi _ => 16 - (intOf vi).toNat)
  case atStart => exact ⟨0, Nat.zero_le _, rfl, PlanRel.start w⟩
  case round =>
    obtain ⟨k, hk, rfl, HR⟩ := hrel
    rename World => W0
    by_cases hlt : k < 16
    · have hbs := HC.out.below HR.out.below hblt
      have c0 := hbs.getD (4 * k) (by have := HP.out; omega)
      have c1 := hbs.getD (4 * k + 1) (by have := HP.out; omega)
      have c2 := hbs.getD (4 * k + 2) (by have := HP.out; omega)
      have c3 := hbs.getD (4 * k + 3) (by have := HP.out; omega)
      have hst := HR.out.free (by rw [plan_length]; omega)
      rw [plan_length] at hst
      have hfr := HR.out.plan.frozen k
      have HS := Lib.hid (fun x => HR.out.drew.step (by rw [plan_length]; omega) x)
      clear hbs
      have i0 : IntKind.i64.wrap (4 * (k : Int)) = 4 * k := IntWalk.i64_in _ (by omega)
      have i1 : IntKind.i64.wrap (4 * (k : Int) + 1) = 4 * k + 1 := IntWalk.i64_in _ (by omega)
      have i2 : IntKind.i64.wrap (4 * (k : Int) + 2) = 4 * k + 2 := IntWalk.i64_in _ (by omega)
      have i3 : IntKind.i64.wrap (4 * (k : Int) + 3) = 4 * k + 3 := IntWalk.i64_in _ (by omega)
      have b0 : (0 : Int) ≤ 4 * (k : Int) ∧ 4 * (k : Int) < 64 ∧ (4 * (k : Int)).toNat = 4 * k := ⟨by omega, by omega, by omega⟩
      have b1 : (0 : Int) ≤ 4 * (k : Int) + 1 ∧ 4 * (k : Int) + 1 < 64 ∧ (4 * (k : Int) + 1).toNat = 4 * k + 1 := ⟨by omega, by omega, by omega⟩
      have b2 : (0 : Int) ≤ 4 * (k : Int) + 2 ∧ 4 * (k : Int) + 2 < 64 ∧ (4 * (k : Int) + 2).toNat = 4 * k + 2 := ⟨by omega, by omega, by omega⟩
      have b3 : (0 : Int) ≤ 4 * (k : Int) + 3 ∧ 4 * (k : Int) + 3 < 64 ∧ (4 * (k : Int) + 3).toNat = 4 * k + 3 := ⟨by omega, by omega, by omega⟩
      have hk64 : (k : Int) < 64 := by omega
      have HW : Hid (plan p (k + 1) = plan p k ++ [word (p.getD (4 * k) 0) (p.getD (4 * k + 1) 0) (p.getD (4 * k + 2) 0) (p.getD (4 * k + 3) 0)]) := by
        show plan p k ++ [if k < 16 then wordAt p k else next (plan p k)] = _
        rw [if_pos hlt]; rfl
      generalize p.getD (4 * k) 0 = x0 at *
      generalize p.getD (4 * k + 1) 0 = x1 at *
      generalize p.getD (4 * k + 2) 0 = x2 at *
      generalize p.getD (4 * k + 3) 0 = x3 at *
      go_wp2_with fail
      refine wp_region_still_tail 35 (by kernel_rfl) (by kernel_rfl) ?_
      simp only [List.take_succ_cons, List.take_zero, List.drop_succ_cons, List.drop_zero]
      replace c0 : W0.drew.cell? ⟨b, o + 4 * k, none⟩ = _ := c0
      replace c1 : W0.drew.cell? ⟨b, o + (4 * k + 1), none⟩ = _ := c1
      replace c2 : W0.drew.cell? ⟨b, o + (4 * k + 2), none⟩ = _ := c2
      replace c3 : W0.drew.cell? ⟨b, o + (4 * k + 3), none⟩ = _ := c3
      replace hst : W0.drew.cell? ⟨w.heap.size + 1, k, none⟩ = _ := hst
      replace hfr : W0.drew.frozen? ⟨w.heap.size + 1, k, none⟩ = _ := hfr
      change wpStill _ _ W0.drew (fun a' => wpList _ _ _ _ a' W0.drew) _ _
      generalize W0.drew = W1 at *
      repeat still_step
      refine wpStill_nil ?_
      go_wp2
      go_roundw
      case rel => exact ⟨k + 1, by omega, by go_num, by rw [HW.out]; have := HS.out (word x0 x1 x2 x3); rw [plan_length] at this; exact this⟩
      case measure => simp [intOf]; omega
    · have HK : Hid (k = 16) := (by omega : k = 16)
      go_wp2_with fail
      go_loopw [5] (fun vi wr => ∃ k : Nat, k ≤ 64 ∧ 16 ≤ k ∧ vi = .int .i64 k ∧ Hid (PlanRel w (plan p k) wr)) (fun vi _ => 64 - (intOf vi).toNat)
      case atStart => exact ⟨16, by omega, by omega, rfl, by rw [HK.out] at HR; exact HR.out⟩
      case round =>
        clear HR W0
        rename Nat => k1
        obtain ⟨k, hk, hk16, rfl, HR⟩ := hrel
        rename World => W0
        by_cases hlt : k < 64
        · have c0 := HR.out.cell (k - 2) (by rw [plan_length]; omega)
          have c1 := HR.out.cell (k - 7) (by rw [plan_length]; omega)
          have c2 := HR.out.cell (k - 15) (by rw [plan_length]; omega)
          have c3 := HR.out.cell (k - 16) (by rw [plan_length]; omega)
          have hst := HR.out.free (by rw [plan_length]; omega)
          rw [plan_length] at hst
          have hfr := HR.out.plan.frozen k
          have HS := Lib.hid (fun x => HR.out.drew.step (by rw [plan_length]; omega) x)
          have i0 : IntKind.i64.wrap ((k : Int) - 2) = k - 2 := IntWalk.i64_in _ (by omega)
          have i1 : IntKind.i64.wrap ((k : Int) - 7) = k - 7 := IntWalk.i64_in _ (by omega)
          have i2 : IntKind.i64.wrap ((k : Int) - 15) = k - 15 := IntWalk.i64_in _ (by omega)
          have i3 : IntKind.i64.wrap ((k : Int) - 16) = k - 16 := IntWalk.i64_in _ (by omega)
          have b0 : (0 : Int) ≤ (k : Int) - 2 ∧ (k : Int) - 2 < 64 ∧ ((k : Int) - 2).toNat = k - 2 := ⟨by omega, by omega, by omega⟩
          have b1 : (0 : Int) ≤ (k : Int) - 7 ∧ (k : Int) - 7 < 64 ∧ ((k : Int) - 7).toNat = k - 7 := ⟨by omega, by omega, by omega⟩
          have b2 : (0 : Int) ≤ (k : Int) - 15 ∧ (k : Int) - 15 < 64 ∧ ((k : Int) - 15).toNat = k - 15 := ⟨by omega, by omega, by omega⟩
          have b3 : (0 : Int) ≤ (k : Int) - 16 ∧ (k : Int) - 16 < 64 ∧ ((k : Int) - 16).toNat = k - 16 := ⟨by omega, by omega, by omega⟩
          have l0 : (2 : Int) ≤ k := by omega
          have l1 : (7 : Int) ≤ k := by omega
          have l2 : (15 : Int) ≤ k := by omega
          have l3 : (16 : Int) ≤ k := by omega
          have HW : Hid (plan p (k + 1) = plan p k ++ [smallB ((plan p k).getD (k - 2) 0) + (plan p k).getD (k - 7) 0 + smallA ((plan p k).getD (k - 15) 0) + (plan p k).getD (k - 16) 0]) := by
            show plan p k ++ [if k < 16 then wordAt p k else next (plan p k)] = _
            rw [if_neg (by omega), next, plan_length]
          generalize (plan p k).getD (k - 2) 0 = x0 at *
          generalize (plan p k).getD (k - 7) 0 = x1 at *
          generalize (plan p k).getD (k - 15) 0 = x2 at *
          generalize (plan p k).getD (k - 16) 0 = x3 at *
          go_wp2_with fail
          refine wp_region_still_tail 23 (by kernel_rfl) (by kernel_rfl) ?_
          simp only [List.take_succ_cons, List.take_zero, List.drop_succ_cons, List.drop_zero]
          replace c0 : W0.drew.cell? ⟨w.heap.size + 1, k - 2, none⟩ = _ := c0
          replace c1 : W0.drew.cell? ⟨w.heap.size + 1, k - 7, none⟩ = _ := c1
          replace c2 : W0.drew.cell? ⟨w.heap.size + 1, k - 15, none⟩ = _ := c2
          replace c3 : W0.drew.cell? ⟨w.heap.size + 1, k - 16, none⟩ = _ := c3
          replace hst : W0.drew.cell? ⟨w.heap.size + 1, k, none⟩ = _ := hst
          replace hfr : W0.drew.frozen? ⟨w.heap.size + 1, k, none⟩ = _ := hfr
          change wpStill _ _ W0.drew (fun a' => wpList _ _ _ _ a' W0.drew) _ _
          generalize W0.drew = W1 at *
          repeat still_step
          refine wpStill_step (fun K hK => ?_)
          go_simp
          refine ⟨_, (smallB_any x0 W1).mono fun e w' h => ⟨h.1, h.2.symm⟩, hK _ ?_⟩
          clear hK K
          repeat still_step
          refine wpStill_step (fun K hK => ?_)
          go_simp
          refine ⟨_, (smallA_any x2 W1).mono fun e w' h => ⟨h.1, h.2.symm⟩, hK _ ?_⟩
          clear hK K
          repeat still_step
          refine wpStill_nil ?_
          go_wp2
          go_roundw
          case rel => exact ⟨k + 1, by omega, by omega, by go_num, by rw [HW.out]; have := HS.out (smallB x0 + x1 + smallA x2 + x3); rw [plan_length] at this; exact this⟩
          case measure => simp [intOf]; omega
        · obtain rfl : k = 64 := by omega
          have hl : (plan p 64).map vw ++ List.replicate (64 - (plan p 64).length) (.int .u32 0) = (plan p 64).map vw := by rw [plan_length]; simp
          have hb := HR.out.plan
          rw [hl] at hb
          have hz' : (Tryd.prog.info? 83).map (·.size) = some ((plan p 64).map vw).length := by simpa [plan_length] using HSZ.out
          have hz2 : (Tryd.prog.info? 83).map (·.size) = some (List.replicate 64 (Value.int .u32 0)).length := by simpa using HSZ.out
          have h1 : ((plan p 64).map vw).all (·.oneCell') = true := by simp [List.all_eq_true, Value.oneCell']
          have hlen : ((plan p 64).map vw).length = (List.replicate 64 (Value.int .u32 0)).length := by simp [plan_length]
          have HB := Lib.hid hb; have HZ := Lib.hid hz'; have HZ2 := Lib.hid hz2; have H1 := Lib.hid h1; have HL := Lib.hid hlen
          clear hb hz' hz2 h1 hlen hl
          obtain ⟨cs, hcs⟩ : ∃ cs, cs = (plan p 64).map vw := ⟨_, rfl⟩
          rw [← hcs] at HB HZ H1 HL
          have HCS := Lib.hid hcs; clear hcs
          have HRes := Lib.hid HR.out.res
          have HBel := Lib.hid HR.out.below
          clear HR HP HC HSZ hz hblt HK hk16
          go_upto_region 11 with fail
          refine wp_region_lit ?_
          refine wpList_load_blk rfl (.tmp 3) rfl rfl HB.out Tryd.underlying83 HZ.out ?_
          refine wpList_store_blk (cs' := cs) rfl (.tmp 2) (.tmp 72) rfl rfl rfl HRes.out HL.out (HZ2.out) H1.out ?_
          intro w2 hset
          have HS := Lib.hid hset; clear hset
          go_wp2
          exact bodyPost_blk rfl rfl HS.out.blk Tryd.underlying83 HZ.out rfl ⟨by rw [HCS.out], HS.out.below _ _ HBel.out (Nat.le_refl _)⟩
end Go.Proofs.YthmenbccofhjfaaDoor.Hs
