/- The request of an Ask: one without fields. -/
import Derived.Test.YtggmogjgaoobjaaDoorXCT28
namespace Go.Proofs.YtggmogjgaoobjaaDoor
open Go.RowKit RealMath BaseMath WireMath ReqMath PackMath
open TreeMath hiding By
set_option maxRecDepth 100000 in
set_option maxHeartbeats 8000000 in
theorem request_0 (v : Value) (xk xn xf xp xm : By) (w : World) (h : WorldIs w v) (hkx : xk.toNat % 12 = 10 ∨ xk.toNat % 12 = 11) :
    Calls Tryd.prog 14 #[v, .agg #[vb xk, vb xn, vb xf, vb xp, vb xm]] w (RqPost w) := by
  have HWI := Lib.hid h
  obtain ⟨hv, kv, g, ca, cells, nb, PV, cp, paths, rfl, hc0, hc30, hc, har, hns, hp0, hp30, hps, hpl⟩ := h
  have HC := Lib.hid hc; have HAR := Lib.hid har; have HNS := Lib.hid hns
  clear hc har hns hps hpl
  have HKA := Lib.hid (kindA_nat xk)
  have hk256 := xk.toNat_lt; have hn256 := xn.toNat_lt; have hf256 := xf.toNat_lt; have hp256 := xp.toNat_lt; have hm256 := xm.toNat_lt
  have HKV : Hid (Value.int .u8 (1 + (xk.toNat : Int) % 12) = vb (kindA xk)) := by show _ = _; unfold vb; rw [HKA.out]; simp
  go_enter Tryd.func14, Tryd.ntmps14
  go_upto_region 2 with fail
  rw [HKV.out]
  have hB1 : Below w.heap.size w ((((w.alloc (.cells #[hv, kv, .slice (some ⟨g, 0, none⟩) cells.length ca, .slice (some ⟨nb, 0, none⟩) 3 3, .slice PV paths.length cp] 34)).alloc (.cells #[vb xk, vb xn, vb xf, vb xp, vb xm] 25)).alloc (.cells #[.int .u8 0, .string ⟨#[]⟩, .string ⟨#[]⟩, ns, ns, ns] 40)).alloc (.cells #[vb (kindA xk), .string ⟨#[]⟩, .string ⟨#[]⟩, ns, ns, ns] 40)) := ((((Below.refl _ _).alloc (Nat.le_refl _) _).alloc (by simp) _).alloc (by simp; omega) _).alloc (by simp; omega) _
  have hbw : Blk ((((w.alloc (.cells #[hv, kv, .slice (some ⟨g, 0, none⟩) cells.length ca, .slice (some ⟨nb, 0, none⟩) 3 3, .slice PV paths.length cp] 34)).alloc (.cells #[vb xk, vb xn, vb xf, vb xp, vb xm] 25)).alloc (.cells #[.int .u8 0, .string ⟨#[]⟩, .string ⟨#[]⟩, ns, ns, ns] 40)).alloc (.cells #[vb (kindA xk), .string ⟨#[]⟩, .string ⟨#[]⟩, ns, ns, ns] 40)) w.heap.size 34 [hv, kv, .slice (some ⟨g, 0, none⟩) cells.length ca, .slice (some ⟨nb, 0, none⟩) 3 3, .slice PV paths.length cp] := (((Blk.new w 34 _).alloc _).alloc _).alloc _
  have hbx : Blk ((((w.alloc (.cells #[hv, kv, .slice (some ⟨g, 0, none⟩) cells.length ca, .slice (some ⟨nb, 0, none⟩) 3 3, .slice PV paths.length cp] 34)).alloc (.cells #[vb xk, vb xn, vb xf, vb xp, vb xm] 25)).alloc (.cells #[.int .u8 0, .string ⟨#[]⟩, .string ⟨#[]⟩, ns, ns, ns] 40)).alloc (.cells #[vb (kindA xk), .string ⟨#[]⟩, .string ⟨#[]⟩, ns, ns, ns] 40)) (w.heap.size + 1) 25 [vb xk, vb xn, vb xf, vb xp, vb xm] := by
    have := (((Blk.new (w.alloc (.cells #[hv, kv, .slice (some ⟨g, 0, none⟩) cells.length ca, .slice (some ⟨nb, 0, none⟩) 3 3, .slice PV paths.length cp] 34)) 25 #[vb xk, vb xn, vb xf, vb xp, vb xm]).alloc (.cells #[.int .u8 0, .string ⟨#[]⟩, .string ⟨#[]⟩, ns, ns, ns] 40)).alloc (.cells #[vb (kindA xk), .string ⟨#[]⟩, .string ⟨#[]⟩, ns, ns, ns] 40))
    simpa using this
  have hbr : Blk ((((w.alloc (.cells #[hv, kv, .slice (some ⟨g, 0, none⟩) cells.length ca, .slice (some ⟨nb, 0, none⟩) 3 3, .slice PV paths.length cp] 34)).alloc (.cells #[vb xk, vb xn, vb xf, vb xp, vb xm] 25)).alloc (.cells #[.int .u8 0, .string ⟨#[]⟩, .string ⟨#[]⟩, ns, ns, ns] 40)).alloc (.cells #[vb (kindA xk), .string ⟨#[]⟩, .string ⟨#[]⟩, ns, ns, ns] 40)) (w.heap.size + 1 + 1) 40 [.int .u8 0, .string ⟨#[]⟩, .string ⟨#[]⟩, ns, ns, ns] := by
    have := ((Blk.new ((w.alloc (.cells #[hv, kv, .slice (some ⟨g, 0, none⟩) cells.length ca, .slice (some ⟨nb, 0, none⟩) 3 3, .slice PV paths.length cp] 34)).alloc (.cells #[vb xk, vb xn, vb xf, vb xp, vb xm] 25)) 40 #[.int .u8 0, .string ⟨#[]⟩, .string ⟨#[]⟩, ns, ns, ns]).alloc (.cells #[vb (kindA xk), .string ⟨#[]⟩, .string ⟨#[]⟩, ns, ns, ns] 40))
    simpa using this
  have hbq : Blk ((((w.alloc (.cells #[hv, kv, .slice (some ⟨g, 0, none⟩) cells.length ca, .slice (some ⟨nb, 0, none⟩) 3 3, .slice PV paths.length cp] 34)).alloc (.cells #[vb xk, vb xn, vb xf, vb xp, vb xm] 25)).alloc (.cells #[.int .u8 0, .string ⟨#[]⟩, .string ⟨#[]⟩, ns, ns, ns] 40)).alloc (.cells #[vb (kindA xk), .string ⟨#[]⟩, .string ⟨#[]⟩, ns, ns, ns] 40)) (w.heap.size + 1 + 1 + 1) 40 [vb (kindA xk), .string ⟨#[]⟩, .string ⟨#[]⟩, ns, ns, ns] := by
    have := Blk.new (((w.alloc (.cells #[hv, kv, .slice (some ⟨g, 0, none⟩) cells.length ca, .slice (some ⟨nb, 0, none⟩) 3 3, .slice PV paths.length cp] 34)).alloc (.cells #[vb xk, vb xn, vb xf, vb xp, vb xm] 25)).alloc (.cells #[.int .u8 0, .string ⟨#[]⟩, .string ⟨#[]⟩, ns, ns, ns] 40)) 40 #[vb (kindA xk), .string ⟨#[]⟩, .string ⟨#[]⟩, ns, ns, ns]
    simpa using this
  generalize (((w.alloc (.cells #[hv, kv, .slice (some ⟨g, 0, none⟩) cells.length ca, .slice (some ⟨nb, 0, none⟩) 3 3, .slice PV paths.length cp] 34)).alloc (.cells #[vb xk, vb xn, vb xf, vb xp, vb xm] 25)).alloc (.cells #[.int .u8 0, .string ⟨#[]⟩, .string ⟨#[]⟩, ns, ns, ns] 40)).alloc (.cells #[vb (kindA xk), .string ⟨#[]⟩, .string ⟨#[]⟩, ns, ns, ns] 40) = W1 at *
  clear HKV
  obtain ⟨jn, hjn, hjn1, hjn2⟩ := rest_nat xn.toNat 3 (by decide)
  replace hjn1 : (xn.toNat : Int) % 3 = (jn : Int) := hjn1
  replace hjn2 : Int.tmod (xn.toNat : Int) 3 = (jn : Int) := hjn2
  obtain ⟨jf, hjf, hjf1, hjf2⟩ := rest_nat xf.toNat cells.length hc0
  have e1 : (0 : Int) ≤ (jn : Int) := by omega
  have e2 : (jn : Int) < 3 := by omega
  have e3 : (0 : Int) ≤ (jf : Int) := by omega
  have e4 : (jf : Int) < (cells.length : Int) := by omega
  have e5 : ((cells.length : Int) == 0) = false := by rw [beq_eq_false_iff_ne]; omega
  have e6 : ¬ cells = [] := fun e => by rw [e] at hc0; cases hc0
  have e7 : IntKind.i64.wrap (xn.toNat : Int) = (xn.toNat : Int) := by simp [IntKind.wrap, IntKind.signed, IntKind.bits]; omega
  have e8 : IntKind.i64.wrap (xf.toNat : Int) = (xf.toNat : Int) := by simp [IntKind.wrap, IntKind.signed, IntKind.bits]; omega
  have e9 : IntKind.i64.wrap (jn : Int) = (jn : Int) := by simp [IntKind.wrap, IntKind.signed, IntKind.bits]; omega
  have e10 : IntKind.i64.wrap (jf : Int) = (jf : Int) := by simp [IntKind.wrap, IntKind.signed, IntKind.bits]; omega
  have hnbw : nb < w.heap.size := by
    obtain ⟨b, o, e, hh⟩ := HNS.out (by decide)
    injection e with e; injection e with e
    subst e; exact block_of_cell (hh 0 (by decide))
  have hgw : g < w.heap.size := block_of_cell (HC.out 0 hc0)
  have HNM : Hid (∃ nm : List UInt8, w.cell? ⟨nb, jn, none⟩ = some (vs nm) ∧ nm.length ≤ 100) := by
    obtain ⟨b, o, e, hh⟩ := HNS.out (by decide)
    injection e with e; injection e with e f
    subst e f
    have h3 : jn < names3.length := hjn
    have := hh jn h3
    rw [Nat.zero_add] at this
    refine ⟨names3[jn], this, ?_⟩
    have : ∀ j, j < 3 → (names3.getD j []).length ≤ 100 := by decide
    have := this jn hjn
    rwa [List.getD_eq_getElem?_getD, List.getElem?_eq_getElem h3] at this
  obtain ⟨nm, hnm, hnml⟩ := HNM.out
  obtain ⟨a0, A0, ac, hav, hA0, hN0, hac, hal, -⟩ := HAR.out cells[jf] (List.getElem_mem hjf)
  have hcf := HC.out jf hjf
  rw [hav] at hcf
  have q0 := hbw.cell 3; have q1 := hbx.cell 1; have q3 := hbw.cell 2; have q4 := hbx.cell 2
  simp only [List.getElem?_cons_zero, List.getElem?_cons_succ] at q0 q1 q3 q4
  have q2 : W1.cell? ⟨nb, jn, none⟩ = some (vs nm) := by rw [hB1.cell (p := ⟨nb, jn, none⟩) hnbw]; exact hnm
  have q5 : W1.cell? ⟨g, jf, none⟩ = some (.slice A0 a0.length ac) := by rw [hB1.cell (p := ⟨g, jf, none⟩) hgw]; exact hcf
  have HA0 := Lib.hid hA0; have HN0 := Lib.hid hN0; have HNML := Lib.hid hnml
  have HBQ := Lib.hid hbq; have HBW := Lib.hid hbw; have HBX := Lib.hid hbx; have HBR := Lib.hid hbr; have HB1 := Lib.hid hB1
  clear HNM hnm hcf hav hA0 hN0 hnml hbq hbw hbx hbr hB1
  go_region_held3 (fun w' => w'.cell? ⟨w.heap.size, 3, none⟩ = some (.slice (some ⟨nb, 0, none⟩) 3 3) ∧ w'.cell? ⟨w.heap.size + 1, 1, none⟩ = some (vb xn) ∧ w'.cell? ⟨nb, jn, none⟩ = some (vs nm) ∧ w'.cell? ⟨w.heap.size, 2, none⟩ = some (.slice (some ⟨g, 0, none⟩) cells.length ca) ∧ w'.cell? ⟨w.heap.size + 1, 2, none⟩ = some (vb xf) ∧ w'.cell? ⟨g, jf, none⟩ = some (.slice A0 a0.length ac)) (go_keep) (fail)
  have hB2 : Below w.heap.size w W1.drew := HB1.out.drew
  have hbw2 : Blk W1.drew w.heap.size 34 [hv, kv, .slice (some ⟨g, 0, none⟩) cells.length ca, .slice (some ⟨nb, 0, none⟩) 3 3, .slice PV paths.length cp] := HBW.out
  have hbx2 : Blk W1.drew (w.heap.size + 1) 25 [vb xk, vb xn, vb xf, vb xp, vb xm] := HBX.out
  have hbr2 : Blk W1.drew (w.heap.size + 1 + 1) 40 [.int .u8 0, .string ⟨#[]⟩, .string ⟨#[]⟩, ns, ns, ns] := HBR.out
  have hbq2 : Blk W1.drew (w.heap.size + 1 + 1 + 1) 40 [vb (kindA xk), .string ⟨#[]⟩, .string ⟨#[]⟩, ns, ns, ns] := HBQ.out
  clear HBQ HBW HBX HBR HB1 q0 q1 q2 q3 q4 q5 hjn1 hjn2 hjf1 hjf2 e1 e2 e3 e4 e5 e6 e7 e8 e9 e10 hjn hjf HC HAR HNS
  generalize W1.drew = W2 at *
  have HBQ := Lib.hid hbq2; have HBW := Lib.hid hbw2; have HBX := Lib.hid hbx2; have HBR := Lib.hid hbr2; have HB2 := Lib.hid hB2
  have x1 := hbx2.cell 1; have x2 := hbx2.cell 2
  simp only [List.getElem?_cons_zero, List.getElem?_cons_succ] at x1 x2
  clear hB2 hbw2 hbx2 hbr2 hbq2
  generalize kindA xk = kb at *
  have hkb := HKA.out
  go_upto_if 39 with fail
  go_cut [6] from 39 (fun s6 wx => Hid (∃ nm : List UInt8, s6 = vs nm ∧ nm.length ≤ 100) ∧ W2 = wx)
  case first =>
    by_cases hc : 250 ≤ xn.toNat
    · have hc' : (250 : Int) ≤ (xn.toNat : Int) := by omega
      go_wp2_with fail
      go_meet
      exact ⟨⟨[46, 110, 111], rfl, by decide⟩, rfl⟩
    · have hc' : ¬ (250 : Int) ≤ (xn.toNat : Int) := by omega
      go_wp2_with fail
      go_meet
      exact ⟨⟨nm, rfl, HNML.out⟩, rfl⟩
  obtain ⟨HN6, rfl⟩ := hcut
  obtain ⟨nm', rfl, hnm'⟩ := HN6.out
  have HNM := Lib.hid hnm'
  clear HN6 hnm' HNML
  go_upto_if 42 with fail
  go_cut [7] from 42 (fun s7 wx => Hid (∃ (A : Option Addr) (a : List UInt8) (c : Nat), s7 = .slice A a.length c ∧ SrcIs w A a ∧ a.length ≤ 80000 ∧ (A = none → c = 0) ∧ a.length ≤ c) ∧ W2 = wx)
  case first =>
    by_cases hc : 250 ≤ xf.toNat
    · have hc' : (250 : Int) ≤ (xf.toNat : Int) := by omega
      obtain ⟨m, hm⟩ : ∃ m : Nat, m = a0.length / 2 := ⟨_, rfl⟩
      have hm1 : (a0.length : Int) / 2 = (m : Int) := by omega
      have hm2 : m ≤ a0.length := by omega
      have hm3 : (m : Int) ≤ (ac : Int) := by omega
      clear hm
      cases A0 with
      | none =>
        have hac0 := HN0.out rfl
        subst hac0
        go_wp2_with fail
        go_meet
        exact ⟨⟨none, a0.take m, 0, by rw [List.length_take, Nat.min_eq_left hm2], fun h0 => absurd h0 (by rw [List.length_take]; omega), by rw [List.length_take]; omega, fun _ => rfl, by rw [List.length_take]; omega⟩, rfl⟩
      | some ad =>
        go_wp2_with fail
        go_meet
        refine ⟨⟨some ad, a0.take m, ac, by rw [List.length_take, Nat.min_eq_left hm2], fun h0 => ?_, by rw [List.length_take]; omega, (fun h => by cases h), by rw [List.length_take]; omega⟩, rfl⟩
        obtain ⟨b, o, e, hb⟩ := HA0.out (by rw [List.length_take] at h0; omega)
        exact ⟨b, o, e, hb.take m⟩
    · have hc' : ¬ (250 : Int) ≤ (xf.toNat : Int) := by omega
      go_wp2_with fail
      go_meet
      exact ⟨⟨A0, a0, ac, rfl, HA0.out, hal, HN0.out, hac⟩, rfl⟩
  obtain ⟨HA7, rfl⟩ := hcut
  obtain ⟨A1, a1, c1, rfl, hA1, hal1, hN1, hac1⟩ := HA7.out
  have HA1 := Lib.hid hA1; have HN1 := Lib.hid hN1
  clear HA7 hA1 hN1 HA0 HN0 hac hal
  have hk1 : ((kb.toNat : Int) == 1) = false := by rw [beq_eq_false_iff_ne]; omega
  have hk7 : ((kb.toNat : Int) == 7) = false := by rw [beq_eq_false_iff_ne]; omega
  have hs2 : w.heap.size + 1 + 1 + 1 < W2.heap.size := Blk.lt HBQ.out
  have z0 := HBQ.out.cell 0; have z1 := HBQ.out.cell 1; have z2 := HBQ.out.cell 2; have z3 := HBQ.out.cell 3; have z4 := HBQ.out.cell 4; have z5 := HBQ.out.cell 5
  simp only [List.getElem?_cons_zero, List.getElem?_cons_succ] at z0 z1 z2 z3 z4 z5
  have HB4 := HB2; have HQ4 := HBQ; have HR4 := HBR
  clear HBW HBX x1 x2 HWI
  rcases hkx with hkx | hkx
  · have hk11 : ((kb.toNat : Int) == 11) = true := by rw [beq_iff_eq]; omega
    have hn11 : ((kb.toNat : Int) != 11) = false := by rw [bne, hk11]; rfl
    have hne11 : (kb.toNat : Int) = 11 := by omega
    go_wp2_with (refine wpList_store_blk rfl (.tmp 4) (.tmp 151) rfl rfl (cs' := [vb kb, .string ⟨#[]⟩, .string ⟨#[]⟩, ns, ns, ns]) rfl HR4.out rfl info40 rfl ?_)
    intro w8 hrs
    have d0 := hrs.blk.cell 0; have d1 := hrs.blk.cell 1; have d2 := hrs.blk.cell 2; have d3 := hrs.blk.cell 3; have d4 := hrs.blk.cell 4; have d5 := hrs.blk.cell 5
    simp only [List.getElem?_cons_zero, List.getElem?_cons_succ] at d0 d1 d2 d3 d4 d5
    have hb8 : Below w.heap.size w w8 := hrs.below _ _ HB4.out (by omega)
    have hfin : RqPost w (.returned (.agg #[vb kb, .string ⟨#[]⟩, .string ⟨#[]⟩, ns, ns, ns])) w8 := by
      have hk : hasK kb.toNat = 1 := by rcases (show kb.toNat = 11 ∨ kb.toNat = 12 by omega) with h | h <;> (rw [h]; rfl)
      refine ⟨⟨_, ⟨kb, [], [], [], [], []⟩, rfl, ⟨none, 0, none, 0, none, 0, rfl, SrcIs.nil _ _, StrsIs.nil _ _, OutsAt.nil _ _⟩, ?_⟩, hb8⟩
      exact ⟨by simp only; omega, by simp only; omega, by simp, by simp, by simp, ⟨by simp, fun x h => by cases h⟩, ⟨by simp, fun i h => absurd h (by simp)⟩, (fun h => by simp only [hk] at h; cases h), by unfold canonV; simp only [hk]; rfl⟩
    have HF := Lib.hid hfin
    clear hrs hfin hb8 z0 z1 z2 z3 z4 z5
    go_wp2_with fail
    exact bodyPost_ret (v := .agg #[vb kb, .string ⟨#[]⟩, .string ⟨#[]⟩, ns, ns, ns]) (by simp [results, Tryd.results14, go_sem, *]) rfl HF.out
  · have hk11 : ((kb.toNat : Int) == 11) = false := by rw [beq_eq_false_iff_ne]; omega
    have hk12 : ((kb.toNat : Int) == 12) = true := by rw [beq_iff_eq]; omega
    have hn11 : ((kb.toNat : Int) != 11) = true := by rw [bne, hk11]; rfl
    have hn12 : ((kb.toNat : Int) != 12) = false := by rw [bne, hk12]; rfl
    have hne11 : ¬ (kb.toNat : Int) = 11 := by omega
    go_wp2_with (refine wpList_store_blk rfl (.tmp 4) (.tmp 151) rfl rfl (cs' := [vb kb, .string ⟨#[]⟩, .string ⟨#[]⟩, ns, ns, ns]) rfl HR4.out rfl info40 rfl ?_)
    intro w8 hrs
    have d0 := hrs.blk.cell 0; have d1 := hrs.blk.cell 1; have d2 := hrs.blk.cell 2; have d3 := hrs.blk.cell 3; have d4 := hrs.blk.cell 4; have d5 := hrs.blk.cell 5
    simp only [List.getElem?_cons_zero, List.getElem?_cons_succ] at d0 d1 d2 d3 d4 d5
    have hb8 : Below w.heap.size w w8 := hrs.below _ _ HB4.out (by omega)
    have hfin : RqPost w (.returned (.agg #[vb kb, .string ⟨#[]⟩, .string ⟨#[]⟩, ns, ns, ns])) w8 := by
      have hk : hasK kb.toNat = 1 := by rcases (show kb.toNat = 11 ∨ kb.toNat = 12 by omega) with h | h <;> (rw [h]; rfl)
      refine ⟨⟨_, ⟨kb, [], [], [], [], []⟩, rfl, ⟨none, 0, none, 0, none, 0, rfl, SrcIs.nil _ _, StrsIs.nil _ _, OutsAt.nil _ _⟩, ?_⟩, hb8⟩
      exact ⟨by simp only; omega, by simp only; omega, by simp, by simp, by simp, ⟨by simp, fun x h => by cases h⟩, ⟨by simp, fun i h => absurd h (by simp)⟩, (fun h => by simp only [hk] at h; cases h), by unfold canonV; simp only [hk]; rfl⟩
    have HF := Lib.hid hfin
    clear hrs hfin hb8 z0 z1 z2 z3 z4 z5
    go_wp2_with fail
    exact bodyPost_ret (v := .agg #[vb kb, .string ⟨#[]⟩, .string ⟨#[]⟩, ns, ns, ns]) (by simp [results, Tryd.results14, go_sem, *]) rfl HF.out
end Go.Proofs.YtggmogjgaoobjaaDoor

/- The request of an Ask: rows of outs whose archives lay there ahead. -/
namespace Go.Proofs.YtggmogjgaoobjaaDoor
open Go.RowKit RealMath BaseMath WireMath ReqMath PackMath
open TreeMath hiding By
def OutE (w W : World) (q : Nat) (v : Value) (cs : List Value) (o : Nat) (x : OutV) : Prop := ∃ A ca R cr M cm, cs[o]? = some (vs x.name) ∧ cs[o + 1]? = some (.slice A x.arch.length ca) ∧ cs[o + 2]? = some (.slice R x.refs.length cr) ∧ cs[o + 3]? = some (.slice M x.needs.length cm) ∧
  SrcIs w A x.arch ∧ StrsIs W R x.refs ∧ NeedsAt W M x.needs ∧ Dat W q v R ∧ Dat W q v M
theorem OutE.keep {q : Nat} {v v' : Value} {w W W' : World} {cs : List Value} {o : Nat} {x : OutV} (h : OutE w W q v cs o x) (k : Keep q v v' W W') : OutE w W' q v' cs o x := by
  obtain ⟨A, ca, R, cr, M, cm, h0, h1, h2, h3, h4, h5, h6, d2, d3⟩ := h
  exact ⟨A, ca, R, cr, M, cm, h0, h1, h2, h3, h4, h5.sameAt fun a ha => k.same _ (d2 a ha).1 (d2 a ha).2.1 (d2 a ha).2.2, h6.sameAt fun a ha => k.same _ (d3 a ha).1 (d3 a ha).2.1 (d3 a ha).2.2, d2.keep k, d3.keep k⟩
theorem OutE.app {w W : World} {q : Nat} {v : Value} {cs : List Value} {o : Nat} {x : OutV} (h : OutE w W q v cs o x) (cs' : List Value) : OutE w W q v (cs ++ cs') o x := by
  obtain ⟨A, ca, R, cr, M, cm, h0, h1, h2, h3, h4⟩ := h
  have hh : ∀ i y, cs[i]? = some y → (cs ++ cs')[i]? = some y := fun i y hi => by rw [List.getElem?_append_left (List.getElem?_eq_some_iff.1 hi).1]; exact hi
  exact ⟨A, ca, R, cr, M, cm, hh _ _ h0, hh _ _ h1, hh _ _ h2, hh _ _ h3, h4⟩
theorem outsE_own {w W W8 : World} {q n : Nat} {v : Value} {cells : List Value} {acc : List OutV} (h : W.ownsRow (q + 1) 57 4 v n cells) (hn : acc.length = n) (hD : ∀ i (h : i < acc.length), OutE w W q v cells (i * 4) acc[i]) (hs : ∀ c, q < c → W8.heap[c]? = W.heap[c]?) (hb : Below w.heap.size w W8) :
    ∃ O co, v = .slice O acc.length co ∧ OutsAt W8 O acc := by
  rcases h.2 with ⟨hv, h0⟩ | ⟨g, cap, cur, hv, hg, hc, hnc, _, hs', ht⟩
  · have : acc = [] := List.eq_nil_of_length_eq_zero (by omega)
    subst this
    exact ⟨none, 0, hv, OutsAt.nil _ _⟩
  · have hb0 : Blk W g 57 (cells ++ cur.toList.drop (n * 4)) := by rw [← ht, List.take_append_drop]; exact hc
    have hb8 : Blk W8 g 57 (cells ++ cur.toList.drop (n * 4)) := by unfold Blk; rw [hs g (by omega)]; exact hb0
    refine ⟨some ⟨g, 0, none⟩, cap, by rw [hv, hn], fun _ => ⟨g, 0, rfl, fun i hi => ?_⟩⟩
    obtain ⟨A, ca, R, cr, M, cm, h0, h1, h2, h3, h4, h5, h6, d2, d3⟩ := (hD i hi).app (cur.toList.drop (n * 4))
    rw [Nat.zero_add]
    exact ⟨A, ca, R, cr, M, cm, by rw [hb8.cell]; exact h0, by rw [hb8.cell]; exact h1, by rw [hb8.cell]; exact h2, by rw [hb8.cell]; exact h3, h4.below hb, h5.sameAt (fun a ha => hs _ (d2 a ha).1), h6.sameAt (fun a ha => hs _ (d3 a ha).1)⟩
def OutGood (i : Nat) (o : OutV) : Prop := o.name.length ≤ 100 ∧ o.arch.length ≤ 80000 ∧ (o.refs.length ≤ 16 ∧ ∀ x ∈ o.refs, x.length ≤ 100) ∧ o.needs.length < 4 ∧ ∀ z ∈ o.needs, 0 ≤ z ∧ z < (i : Int)
/-- what stands ahead of a round -/
structure OQ (w W2 : World) (q : Nat) (kb : By) (k : Nat) (wr : World) : Prop where
  ex : ∃ (acc : List OutV) (cells : List Value) (v : Value), acc.length = k ∧ cells.length = k * 4 ∧ wr.ownsRow (q + 1) 57 4 v k cells ∧ Blk wr q 40 [vb kb, .string ⟨#[]⟩, .string ⟨#[]⟩, ns, ns, v] ∧ (∀ i (h : i < acc.length), OutE w wr q v cells (i * 4) acc[i]) ∧ (∀ i (h : i < acc.length), OutGood i acc[i])
  below : Below q W2 wr
/-- the Out that is being made, in the block that s9 points at -/
structure OB (w W0 : World) (k : Nat) (ob : Nat) (nm a : List By) (l : List (List By)) (ms : List Int) (A R M : Option Addr) (c rc mc : Nat) (wx : World) : Prop where
  lo : W0.heap.size ≤ ob
  blk : Blk wx ob 57 [vs nm, .slice A a.length c, .slice R l.length rc, .slice M ms.length mc]
  good : OutGood k ⟨nm, a, l, ms⟩
  src : SrcIs w A a
  refs : StrsIs wx R l
  needs : NeedsAt wx M ms
  dr : ∀ x, R = some x → W0.heap.size ≤ x.block ∧ x.block < wx.heap.size ∧ x.block ≠ ob
  dm : ∀ x, M = some x → W0.heap.size ≤ x.block ∧ x.block < wx.heap.size ∧ x.block ≠ ob
  below : Below W0.heap.size W0 wx
theorem OB.arch0 {w W0 : World} {k ob : Nat} {nm a : List By} {l : List (List By)} {ms : List Int} {A R M : Option Addr} {c rc mc : Nat} {wx : World} (h : OB w W0 k ob nm a l ms A R M c rc mc wx) (A1 : Option Addr) (c1 : Nat) :
    OB w W0 k ob nm [] l ms A1 R M c1 rc mc (wx.setCell ⟨ob, 1, none⟩ (.slice A1 0 c1)) := by
  refine ⟨h.lo, ?_, ⟨h.good.1, by simp, h.good.2.2⟩, SrcIs.nil _ _, h.refs.sameAt fun x hx => ?_, h.needs.sameAt fun x hx => ?_, fun x hx => ?_, fun x hx => ?_, h.below.setCell h.lo _⟩
  · have := h.blk.set 1 (.slice A1 0 c1)
    simpa using this
  · exact Below.heap_setCell _ ⟨ob, 1, none⟩ _ _ (h.dr x hx).2.2
  · exact Below.heap_setCell _ ⟨ob, 1, none⟩ _ _ (h.dm x hx).2.2
  · rw [World.size_setCell]; exact h.dr x hx
  · rw [World.size_setCell]; exact h.dm x hx
theorem OB.need {w W0 : World} {k ob : Nat} {nm a : List By} {l : List (List By)} {A R : Option Addr} {c rc : Nat} {wx : World} (h : OB w W0 k ob nm a l [] A R none c rc 0 wx) (hk : 0 < k) :
    OB w W0 k ob nm a l [(k : Int) - 1] A R (some ⟨wx.heap.size, 0, none⟩) c rc 1 ((wx.setCell ⟨ob, 3, none⟩ (.slice (some ⟨wx.heap.size, 0, none⟩) 1 1)).alloc (.cells #[vi ((k : Int) - 1)] 3)) := by
  have hlt : ob < wx.heap.size := Blk.lt h.blk
  have hss : (wx.setCell ⟨ob, 3, none⟩ (.slice (some ⟨wx.heap.size, 0, none⟩) 1 1)).heap.size = wx.heap.size := World.size_setCell ..
  have hal : Below (wx.setCell ⟨ob, 3, none⟩ (.slice (some ⟨wx.heap.size, 0, none⟩) 1 1)).heap.size (wx.setCell ⟨ob, 3, none⟩ (.slice (some ⟨wx.heap.size, 0, none⟩) 1 1)) ((wx.setCell ⟨ob, 3, none⟩ (.slice (some ⟨wx.heap.size, 0, none⟩) 1 1)).alloc (.cells #[vi ((k : Int) - 1)] 3)) := (Below.refl _ _).alloc (Nat.le_refl _) _
  have hsz := h.below.size
  have hz1 : ∀ z ∈ [(k : Int) - 1], 0 ≤ z ∧ z < (k : Int) := fun z hz => by
    obtain rfl : z = (k : Int) - 1 := by simpa using hz
    omega
  refine ⟨h.lo, ?_, ⟨h.good.1, h.good.2.1, h.good.2.2.1, by simp, hz1⟩, h.src, (h.refs.sameAt fun x hx => ?_).belowS hal, fun _ => ⟨wx.heap.size, 0, rfl, fun i hi => ?_⟩, fun x hx => ?_, fun x hx => ?_, (h.below.setCell h.lo _).alloc (by rw [hss]; exact hsz) _⟩
  · have := (h.blk.set 3 (.slice (some ⟨wx.heap.size, 0, none⟩) 1 1)).alloc (.cells #[vi ((k : Int) - 1)] 3)
    simpa using this
  · exact Below.heap_setCell _ ⟨ob, 3, none⟩ _ _ (h.dr x hx).2.2
  · obtain rfl : i = 0 := by simp at hi; omega
    have hbk := Blk.new (wx.setCell ⟨ob, 3, none⟩ (.slice (some ⟨wx.heap.size, 0, none⟩) 1 1)) 3 #[vi ((k : Int) - 1)]
    rw [hss] at hbk
    have := hbk.cell 0
    simpa using this
  · have := h.dr x hx; simp; omega
  · cases hx; simp; omega
def OBs (w W0 : World) (k : Nat) (s9 : Value) (wx : World) : Prop := ∃ ob nm a l ms A R M c rc mc, s9 = .pointer (some ⟨ob, 0, none⟩) ∧ OB w W0 k ob nm a l ms A R M c rc mc wx
def OBn (w W0 : World) (k : Nat) (s9 : Value) (wx : World) : Prop := ∃ ob nm a l A R c rc, s9 = .pointer (some ⟨ob, 0, none⟩) ∧ OB w W0 k ob nm a l [] A R none c rc 0 wx
end Go.Proofs.YtggmogjgaoobjaaDoor
