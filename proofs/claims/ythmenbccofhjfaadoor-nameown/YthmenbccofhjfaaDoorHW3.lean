/- The contract of mix: one block. -/
import Derived.Test.YthmenbccofhjfaaDoorHW2
namespace Go.Proofs.YthmenbccofhjfaaDoor.Hs
open Go.RowKit HashMath

/-- the eight words, by value -/
abbrev cellsS (s : St) : List Value := [vw s.a, vw s.b, vw s.c, vw s.d, vw s.e, vw s.f, vw s.g, vw s.h]
abbrev aggS (s : St) : Value := .agg #[vw s.a, vw s.b, vw s.c, vw s.d, vw s.e, vw s.f, vw s.g, vw s.h]
/-- the two tables of the program -/
structure Tabs (w : World) : Prop where
  start : w.rangeAt 0 0 (cellsS H0)
  rounds : w.rangeAt 1 0 (K0.map vw)
theorem Tabs.size {w : World} (h : Tabs w) : 1 < w.heap.size := block_of_cell (h.rounds 0 (vw (K0.getD 0 0)) rfl)
theorem Tabs.below {B : Nat} {w w' : World} (h : Tabs w) (hb : Below B w w') (hB : 1 < B) : Tabs w' :=
  ⟨fun j v hv => by rw [hb.cell (p := ⟨0, 0 + j, none⟩) (by show 0 < B; omega)]; exact h.start j v hv, fun j v hv => by rw [hb.cell (p := ⟨1, 0 + j, none⟩) hB]; exact h.rounds j v hv⟩
theorem info39 : (Tryd.prog.info? 77).map (fun i => (i.zero, i.size)) = some (some (.agg #[.int .u32 0, .int .u32 0, .int .u32 0, .int .u32 0, .int .u32 0, .int .u32 0, .int .u32 0, .int .u32 0]), 8) := by kernel_rfl

theorem run_index49 (cs : Array Value) (k : Nat) (v : Value) (hk : k < 64) (hv : cs[k]? = some v) (w : World) : (Instr.index 83 (.agg cs) (.int .i64 k)).run Tryd.prog w = .ok v w := by
  simp [Instr.index, go_sem, part, hv]
  intro h; omega
theorem run_index39 (cs : Array Value) (k : Nat) (v : Value) (hk : k < 8) (hv : cs[k]? = some v) (w : World) : (Instr.index 77 (.agg cs) (.int .i64 k)).run Tryd.prog w = .ok v w := by
  simp [Instr.index, go_sem, part, hv]
  intro h; omega
theorem map_getD (l : List Wd) (k : Nat) (h : k < l.length) : (l.map vw)[k]? = some (vw (l.getD k 0)) := by
  rw [List.getElem?_map, List.getElem?_eq_getElem h, List.getD_eq_getElem?_getD, List.getElem?_eq_getElem h]; rfl
/-- what the blocks of mix hold -/
structure MixRel (w : World) (B5 B6 : Nat) (pl : List Value) (ws : List Wd) (st : St) (wr : World) : Prop where
  below : Below w.heap.size w wr
  words : Blk wr w.heap.size 77 (ws.map vw)
  res : Blk wr (w.heap.size + 1) 77 (List.replicate 8 (.int .u32 0))
  plan : Blk wr B5 83 pl
  state : Blk wr B6 77 (cellsS st)
theorem MixRel.drew {w : World} {B5 B6 : Nat} {pl : List Value} {ws : List Wd} {st : St} {wr : World} (h : MixRel w B5 B6 pl ws st wr) : MixRel w B5 B6 pl ws st wr.drew :=
  ⟨h.below.drew, h.words, h.res, h.plan, h.state⟩
theorem MixRel.row {w : World} {B5 B6 : Nat} {pl : List Value} {ws : List Wd} {st st' : St} {wr w2 : World} (h : MixRel w B5 B6 pl ws st wr) (h5 : w.heap.size + 2 ≤ B5) (h6 : B6 = B5 + 1) (hs : RowSet wr B6 77 (cellsS st') w2) :
    MixRel w B5 B6 pl ws st' w2 :=
  ⟨hs.below _ _ h.below (by omega), hs.keep h.words (by omega), hs.keep h.res (by omega), hs.keep h.plan (by omega), hs.blk⟩
theorem MixRel.step {w : World} {B5 B6 : Nat} {pl : List Value} {ws : List Wd} {a b c d e f g h : Wd} {wr : World} (hr : MixRel w B5 B6 pl ws ⟨a, b, c, d, e, f, g, h⟩ wr) (h5 : w.heap.size + 2 ≤ B5) (h6 : B6 = B5 + 1) (x y : Wd) :
    MixRel w B5 B6 pl ws ⟨y, b, c, d, x, f, g, h⟩ ((wr.setCell ⟨B6, 4, none⟩ (vw x)).setCell ⟨B6, 0, none⟩ (vw y)) := by
  refine ⟨(hr.below.setCell (by show _ ≤ B6; omega) _).setCell (by show _ ≤ B6; omega) _, (hr.words.other (by show _ ≠ B6; omega) _).other (by show _ ≠ B6; omega) _,
    (hr.res.other (by show _ ≠ B6; omega) _).other (by show _ ≠ B6; omega) _, (hr.plan.other (by show _ ≠ B6; omega) _).other (by show _ ≠ B6; omega) _, ?_⟩
  exact (hr.state.set 4 (vw x)).set 0 (vw y)

/-- the first k words summed up -/
def addUp (ss ts : List Wd) (k : Nat) : List Wd := (List.zipWith (· + ·) ss ts).take k ++ ss.drop k
theorem addUp_zero (ss ts : List Wd) : addUp ss ts 0 = ss := by simp [addUp]
theorem addUp_getD (ss ts : List Wd) (k : Nat) (h1 : k < ss.length) (h2 : k < ts.length) : (addUp ss ts k)[k]? = some (ss.getD k 0) := by
  have : ((List.zipWith (· + ·) ss ts).take k).length = k := by simp; omega
  unfold addUp
  rw [List.getElem?_append_right (by omega), this, Nat.sub_self, List.getElem?_drop, Nat.add_zero, List.getElem?_eq_getElem h1, List.getD_eq_getElem?_getD, List.getElem?_eq_getElem h1]; rfl
theorem addUp_succ (ss ts : List Wd) (k : Nat) (h1 : k < ss.length) (h2 : k < ts.length) : (addUp ss ts k).set k (ss.getD k 0 + ts.getD k 0) = addUp ss ts (k + 1) := by
  have hl : ((List.zipWith (· + ·) ss ts).take k).length = k := by simp; omega
  unfold addUp
  rw [List.set_append_right _ _ (by omega), hl, Nat.sub_self, List.drop_eq_getElem_cons h1, List.set_cons_zero]
  rw [List.take_succ_eq_append_getElem (by simp; omega), List.getElem_zipWith]
  rw [List.getD_eq_getElem?_getD, List.getElem?_eq_getElem h1, List.getD_eq_getElem?_getD, List.getElem?_eq_getElem h2]
  simp
theorem MixRel.word {w : World} {B5 B6 : Nat} {pl : List Value} {ws : List Wd} {st : St} {wr : World} (hr : MixRel w B5 B6 pl ws st wr) (h5 : w.heap.size + 2 ≤ B5) (h6 : B6 = B5 + 1) (k : Nat) (x : Wd) :
    MixRel w B5 B6 pl (ws.set k x) st (wr.setCell ⟨w.heap.size, k, none⟩ (vw x)) := by
  refine ⟨hr.below.setCell (Nat.le_refl _) _, ?_, hr.res.other (by show _ ≠ w.heap.size; omega) _, hr.plan.other (by show _ ≠ w.heap.size; omega) _, hr.state.other (by show _ ≠ w.heap.size; omega) _⟩
  have := hr.words.set k (vw x)
  rwa [← List.map_set] at this

set_option maxHeartbeats 1000000 in
set_option maxRecDepth 100000 in
theorem mix_any (s : St) (b o cap : Nat) (p : List By) (hp : p.length = 64) (w : World) (ht : Tabs w) (hc : BytesAt w b o p) :
    Calls Tryd.prog 48 #[aggS s, .slice (some ⟨b, o, none⟩) 64 cap] w fun e w' => e = .returned (aggS (comp K0 s p)) ∧ Below w.heap.size w w' := by
  obtain ⟨hz49, hs49⟩ := zero_of_info info49
  obtain ⟨hz39, hs39⟩ := zero_of_info info39
  have hblt := hc.lt (by omega)
  have HP := Lib.hid hp; clear hp
  have HC := Lib.hid hc; clear hc
  have HT := Lib.hid ht; clear ht
  have HZ49 := Lib.hid hs49; clear hs49
  have HZ39 := Lib.hid hs39; clear hs39
  go_enter Tryd.func48, Tryd.ntmps48
  go_wp2_with fail
  generalize hW1 : (w.alloc (.cells #[vw s.a, vw s.b, vw s.c, vw s.d, vw s.e, vw s.f, vw s.g, vw s.h] 77)).alloc (.cells #[.int .u32 0, .int .u32 0, .int .u32 0, .int .u32 0, .int .u32 0, .int .u32 0, .int .u32 0, .int .u32 0] 77) = W1
  have bW : Blk W1 w.heap.size 77 (cellsS s) := by rw [← hW1]; exact (Blk.new w 77 _).alloc _
  have bR : Blk W1 (w.heap.size + 1) 77 (List.replicate 8 (.int .u32 0)) := by
    rw [← hW1]
    have := Blk.new (w.alloc (.cells #[vw s.a, vw s.b, vw s.c, vw s.d, vw s.e, vw s.f, vw s.g, vw s.h] 77)) 77 #[.int .u32 0, .int .u32 0, .int .u32 0, .int .u32 0, .int .u32 0, .int .u32 0, .int .u32 0, .int .u32 0]
    simpa using this
  have b1 : Below w.heap.size w W1 := by rw [← hW1]; exact ((Below.refl _ _).alloc (Nat.le_refl _) _).alloc (by simp) _
  have z1 : W1.heap.size = w.heap.size + 2 := by rw [← hW1]; simp
  clear hW1
  have HbW := Lib.hid bW; have HbR := Lib.hid bR; have Hb1 := Lib.hid b1; have Hz1 := Lib.hid z1
  clear bW bR b1 z1
  refine (schedule_any b o cap p HP.out W1 (HC.out.below Hb1.out hblt)).mono ?_
  rintro e w1 ⟨rfl, hb⟩
  have Hb := Lib.hid hb; clear hb
  have HPL : Hid (((plan p 64).map vw).length = 64) := by show _ = _; simp [plan_length]
  have HP1 : Hid (((plan p 64).map vw).all (·.oneCell') = true) := by show _ = _; simp [List.all_eq_true, Value.oneCell']
  obtain ⟨pl, hpl⟩ : ∃ pl, pl = (plan p 64).map vw := ⟨_, rfl⟩
  rw [← hpl] at HPL HP1 ⊢
  have Hpl := Lib.hid hpl; clear hpl
  go_upto_region 2 with (refine wpList_store_blk (cs' := pl) rfl (.tmp 5) (.tmp 14) rfl rfl rfl (Blk.new w1 83 (Array.replicate 64 (.int .u32 0))) (by rw [HPL.out]; simp) (by rw [HZ49.out]; simp) HP1.out ?_; intro w2 hset; have HS2 := Lib.hid hset; clear hset)
  have hz1 := Hz1.out
  have hlt1 : w.heap.size + 2 ≤ w1.heap.size := by have := Hb.out.size; omega
  have HbW2 : Hid (Blk w2 w.heap.size 77 (cellsS s)) := HS2.out.keep ((HbW.out.below Hb.out (by omega)).alloc _) (by omega)
  have HbR2 : Hid (Blk w2 (w.heap.size + 1) 77 (List.replicate 8 (.int .u32 0))) := HS2.out.keep ((HbR.out.below Hb.out (by omega)).alloc _) (by omega)
  have HbP2 : Hid (Blk w2 w1.heap.size 83 pl) := HS2.out.blk
  have Hb2 : Hid (Below w.heap.size w w2) := HS2.out.below _ _ ((Hb1.out.trans (Hb.out.mono (by omega))).alloc (by omega) _) (by omega)
  have hz2 : w2.heap.size = w1.heap.size + 1 := by have := HS2.out.size; simpa using this
  have Hz2 := Lib.hid hz2
  clear hz1 hz2 HS2 HbW HbR Hb Hb1 Hz1 W1
  go_upto_region 3 with (first
    | (refine wpList_load_blk rfl (.tmp 2) rfl rfl HbW2.out Tryd.underlying77 HZ39.out ?_)
    | (refine wpList_store_blk (cs' := cellsS s) rfl (.tmp 6) (.tmp 15) rfl rfl rfl (Blk.new w2 77 #[.int .u32 0, .int .u32 0, .int .u32 0, .int .u32 0, .int .u32 0, .int .u32 0, .int .u32 0, .int .u32 0]) rfl HZ39.out rfl ?_; intro w3 hset; have HS3 := Lib.hid hset; clear hset))
  have hz2 := Hz2.out
  have h2 := HS3.out.size
  have h6 : w2.heap.size = w1.heap.size + 1 := hz2
  have HR0 : Hid (MixRel w w1.heap.size w2.heap.size pl s.list s w3) :=
    ⟨HS3.out.below _ _ (Hb2.out.alloc (by omega) _) (by omega), HS3.out.keep (HbW2.out.alloc _) (by omega), HS3.out.keep (HbR2.out.alloc _) (by omega), HS3.out.keep (HbP2.out.alloc _) (by omega), HS3.out.blk⟩
  have HT3 := Lib.hid (HT.out.below HR0.out.below HT.out.size)
  have H6 := Lib.hid h6
  clear hz2 h2 h6 HS3 Hb2 HbW2 HbR2 HbP2 Hz2 HC hblt
  generalize w1.heap.size = B5 at *
  generalize w2.heap.size = B6 at *
  have HKZ : Hid ((Tryd.prog.info? 83).map (·.size) = some (K0.map vw).length) := by show _ = _; rw [HZ49.out]; rfl
  obtain ⟨kl, hkl⟩ : ∃ kl, kl = K0.map vw := ⟨_, rfl⟩
  have HRG := Lib.hid HT3.out.rounds
  rw [← hkl] at HKZ HRG
  have Hkl := Lib.hid hkl
  clear hkl
  go_wp2_with (refine wpList_load_mid rfl 83 (.global 1) rfl 1 0 rfl kl _ HRG.out Tryd.underlying83 rfl HKZ.out ?_)
  go_loopw [17] (fun vi wr => ∃ k : Nat, k ≤ 64 ∧ vi = .int .i64 k ∧ Hid (MixRel w B5 B6 pl s.list (rnds K0 (plan p 64) s k) wr)) (fun vi _ => 64 - (intOf vi).toNat)
  case atStart => exact ⟨0, Nat.zero_le _, rfl, HR0.out⟩
  case round =>
    obtain ⟨k, hk, rfl, HR⟩ := hrel
    rename World => W0
    by_cases hlt : k < 64
    · have hki : ∀ w, (Instr.index 83 (.agg kl.toArray) (.int .i64 k)).run Tryd.prog w = .ok (vw (K0.getD k 0)) w := by
        refine run_index49 _ k _ hlt ?_
        rw [Hkl.out, List.getElem?_toArray]; exact map_getD _ _ hlt
      have HW : Hid (rnds K0 (plan p 64) s (k + 1) = rnd (rnds K0 (plan p 64) s k) (K0.getD k 0) ((plan p 64).getD k 0)) := (rfl : _ = _)
      have cp : W0.cell? ⟨B5, k, none⟩ = some (vw ((plan p 64).getD k 0)) := by
        rw [HR.out.plan.cell, Hpl.out]; exact map_getD _ _ (by rw [plan_length]; exact hlt)
      generalize rnds K0 (plan p 64) s k = st at *
      generalize K0.getD k 0 = kk at *
      generalize (plan p 64).getD k 0 = mm at *
      obtain ⟨sa, sb, sc, sd, se, sf, sg, sh⟩ := st
      have c0 := HR.out.state.cell 0
      have c1 := HR.out.state.cell 1
      have c2 := HR.out.state.cell 2
      have c4 := HR.out.state.cell 4
      have c5 := HR.out.state.cell 5
      have c6 := HR.out.state.cell 6
      have c7 := HR.out.state.cell 7
      simp only [List.getElem?_cons_zero, List.getElem?_cons_succ] at c0 c1 c2 c4 c5 c6 c7
      have hk64 : (k : Int) < 64 := by omega
      go_upto_region 6 with fail
      refine wp_region_still_lit (by kernel_rfl) (by kernel_rfl) ?_
      replace cp : W0.drew.cell? ⟨B5, k, none⟩ = _ := cp
      replace c0 : W0.drew.cell? ⟨B6, 0, none⟩ = _ := c0
      replace c1 : W0.drew.cell? ⟨B6, 1, none⟩ = _ := c1
      replace c2 : W0.drew.cell? ⟨B6, 2, none⟩ = _ := c2
      replace c4 : W0.drew.cell? ⟨B6, 4, none⟩ = _ := c4
      replace c5 : W0.drew.cell? ⟨B6, 5, none⟩ = _ := c5
      replace c6 : W0.drew.cell? ⟨B6, 6, none⟩ = _ := c6
      replace c7 : W0.drew.cell? ⟨B6, 7, none⟩ = _ := c7
      replace HR := Lib.hid HR.out.drew
      change wpStill _ _ W0.drew (fun a' => Exit.then _ _ _ a' W0.drew) _ _
      generalize W0.drew = W1 at *
      repeat still_step
      refine wpStill_step (fun K hK => ?_)
      go_simp
      refine ⟨_, (bigE_any se W1).mono fun e w' h => ⟨h.1, h.2.symm⟩, hK _ ?_⟩
      clear hK K
      repeat still_step
      refine wpStill_step (fun K hK => ?_)
      go_simp
      refine ⟨_, (choose_any se sf sg W1).mono fun e w' h => ⟨h.1, h.2.symm⟩, hK _ ?_⟩
      clear hK K
      repeat still_step
      refine wpStill_nil ?_
      go_upto_region 7 with fail
      refine wp_region_still_lit (by kernel_rfl) (by kernel_rfl) ?_
      clear cp c4 c5 c6 c7
      replace c0 : W1.drew.cell? ⟨B6, 0, none⟩ = _ := c0
      replace c1 : W1.drew.cell? ⟨B6, 1, none⟩ = _ := c1
      replace c2 : W1.drew.cell? ⟨B6, 2, none⟩ = _ := c2
      replace HR := Lib.hid HR.out.drew
      change wpStill _ _ W1.drew (fun a' => Exit.then _ _ _ a' W1.drew) _ _
      generalize W1.drew = W2 at *
      repeat still_step
      refine wpStill_step (fun K hK => ?_)
      go_simp
      refine ⟨_, (bigA_any sa W2).mono fun e w' h => ⟨h.1, h.2.symm⟩, hK _ ?_⟩
      clear hK K
      repeat still_step
      refine wpStill_step (fun K hK => ?_)
      go_simp
      refine ⟨_, (majority_any sa sb sc W2).mono fun e w' h => ⟨h.1, h.2.symm⟩, hK _ ?_⟩
      clear hK K
      repeat still_step
      refine wpStill_nil ?_
      go_upto_region 8 with fail
      refine wp_region_still_tail 2 (by kernel_rfl) (by kernel_rfl) ?_
      simp only [List.take_succ_cons, List.take_zero, List.drop_succ_cons, List.drop_zero]
      clear c0 c1 c2
      replace HR := Lib.hid HR.out.drew
      change wpStill _ _ W2.drew (fun a' => wpList _ _ _ _ a' W2.drew) _ _
      generalize W2.drew = W3 at *
      repeat still_step
      refine wpStill_nil ?_
      refine wpList_copy_blk rfl (.tmp 52) (.tmp 53) 30 30 rfl 69 Tryd.underlying30 (by kernel_rfl) 1 7 7 ⟨B6, 0, none⟩ 7 8 rfl rfl HR.out.state [vw sa, vw sb, vw sc, vw sd, vw se, vw sf, vw sg] rfl ?csrc (by simp) ?cone ?_
      case csrc =>
        intro j v hv
        rw [Addr.add_mid]
        refine HR.out.state.range j v ?_
        rw [show cellsS ⟨sa, sb, sc, sd, se, sf, sg, sh⟩ = [vw sa, vw sb, vw sc, vw sd, vw se, vw sf, vw sg] ++ [vw sh] from rfl, List.getElem?_append_left (List.getElem?_eq_some_iff.1 hv).1]
        exact hv
      case cone => intro v hv; simp at hv; rcases hv with rfl | rfl | rfl | rfl | rfl | rfl | rfl <;> rfl
      intro W4 hset
      replace HR := Lib.hid (HR.out.row (st' := ⟨sa, sa, sb, sc, sd, se, sf, sg⟩) hlt1 H6.out hset)
      clear hset
      have c4 := HR.out.state.cell 4
      have c0 := HR.out.state.cell 0
      have f4 := HR.out.state.frozen 4
      have f0 := HR.out.state.frozen 0
      simp only [List.getElem?_cons_zero, List.getElem?_cons_succ] at c4 c0
      have HS := Lib.hid (fun x y => HR.out.step hlt1 H6.out x y)
      go_wp2
      go_roundw
      case rel => exact ⟨k + 1, by omega, by go_num, by rw [HW.out]; exact HS.out _ _⟩
      case measure => simp [intOf]; omega
    · have HK : Hid (k = 64) := (by omega : k = 64)
      rw [HK.out] at HR
      obtain ⟨st, hst⟩ : ∃ st, st = rnds K0 (plan p 64) s 64 := ⟨_, rfl⟩
      rw [← hst] at HR
      have HST := Lib.hid hst; clear hst
      go_wp2_with (refine wpList_load_blk rfl (.tmp 6) rfl rfl HR.out.state Tryd.underlying77 HZ39.out ?_)
      go_loopw [66] (fun vi wr => ∃ k : Nat, k ≤ 8 ∧ vi = .int .i64 k ∧ Hid (MixRel w B5 B6 pl (addUp s.list st.list k) st wr)) (fun vi _ => 8 - (intOf vi).toNat)
      case atStart => exact ⟨0, Nat.zero_le _, rfl, by rw [addUp_zero]; exact HR.out⟩
      case round =>
        clear HR
        rename Nat => k1
        rename World => W00
        obtain ⟨k, hk, rfl, HR⟩ := hrel
        by_cases hlt : k < 8
        · have hki : ∀ w, (Instr.index 77 (.agg (cellsS st).toArray) (.int .i64 k)).run Tryd.prog w = .ok (vw (st.list.getD k 0)) w := by
            refine run_index39 _ k _ hlt ?_
            rw [List.getElem?_toArray]; exact map_getD st.list k hlt
          have hcw : W00.cell? ⟨w.heap.size, k, none⟩ = some (vw (s.list.getD k 0)) := by
            rw [HR.out.words.cell, List.getElem?_map, addUp_getD s.list st.list k hlt hlt]; rfl
          have hfw := HR.out.words.frozen k
          have hk8 : (k : Int) < 8 := by omega
          have HS := Lib.hid (HR.out.word hlt1 H6.out k (s.list.getD k 0 + st.list.getD k 0))
          rw [addUp_succ s.list st.list k hlt hlt] at HS
          generalize st.list.getD k 0 = y at *
          generalize s.list.getD k 0 = x at *
          go_wp2
          go_roundw
          case rel => exact ⟨k + 1, by omega, by go_num, HS.out⟩
          case measure => simp [intOf]; omega
        · have HK2 : Hid (k = 8) := (by omega : k = 8)
          rw [HK2.out] at HR
          have HE : Hid ((addUp s.list st.list 8).map vw = cellsS (comp K0 s p)) := by
            show _ = _
            rw [show comp K0 s p = s.plus st by rw [HST.out]; rfl]; rfl
          have hw := HR.out.words
          rw [HE.out] at hw
          obtain ⟨r, hr⟩ : ∃ r, r = comp K0 s p := ⟨_, rfl⟩
          rw [← hr] at hw
          have HRr := Lib.hid hr; clear hr
          have HWd := Lib.hid hw; clear hw
          have HRes := Lib.hid HR.out.res
          have HBel := Lib.hid HR.out.below
          clear HR HE HP HT HT3 hz49 hz39
          go_upto_region 17 with fail
          refine wp_region_lit ?_
          refine wpList_load_blk rfl (.tmp 2) rfl rfl HWd.out Tryd.underlying77 HZ39.out ?_
          refine wpList_store_blk (cs' := cellsS r) rfl (.tmp 4) (.tmp 77) rfl rfl rfl HRes.out rfl (by rw [HZ39.out]; rfl) rfl ?_
          intro w5 hset
          have HS := Lib.hid hset; clear hset
          go_wp2
          exact bodyPost_blk rfl rfl HS.out.blk Tryd.underlying77 HZ39.out rfl ⟨by rw [← HRr.out], HS.out.below _ _ HBel.out (by omega)⟩
end Go.Proofs.YthmenbccofhjfaaDoor.Hs
