/- The request of an Ask: an Add's. -/
import Derived.Test.YtggmogjgaoobjaaDoorXCT28
namespace Go.Proofs.YtggmogjgaoobjaaDoor
open Go.RowKit RealMath BaseMath WireMath ReqMath PackMath
open TreeMath hiding By
set_option maxRecDepth 100000 in
set_option maxHeartbeats 8000000 in
theorem request_1 (v : Value) (xk xn xf xp xm : By) (w : World) (h : WorldIs w v) (hkx : xk.toNat % 12 = 0) :
    Calls Tryd.prog 14 #[v, .agg #[vb xk, vb xn, vb xf, vb xp, vb xm]] w (RqPost w) := by
  have HWI := Lib.hid h
  obtain ⟨hv, kv, g, ca, cells, nb, PV, cp, paths, rfl, hc0, hc30, hc, har, hns, hp0, hp30, hps, hpl⟩ := h
  have HC := Lib.hid hc; have HAR := Lib.hid har; have HNS := Lib.hid hns
  clear hc har hns hps hpl
  have HKA := Lib.hid (kindA_nat xk)
  have hk256 := xk.toNat_lt; have hn256 := xn.toNat_lt; have hf256 := xf.toNat_lt; have hp256 := xp.toNat_lt; have hm256 := xm.toNat_lt
  have HKV : Hid (Value.int .u8 (1 + (xk.toNat : Int) % 12) = vb (kindA xk)) := by show _ = _; unfold vb; rw [HKA.out]; simp
  go_enter Tryd.func14, Tryd.ntmps14
  go_upto_region 2 with fail
  rw [HKV.out]
  have hB1 : Below w.heap.size w ((((w.alloc (.cells #[hv, kv, .slice (some ⟨g, 0, none⟩) cells.length ca, .slice (some ⟨nb, 0, none⟩) 3 3, .slice PV paths.length cp] 34)).alloc (.cells #[vb xk, vb xn, vb xf, vb xp, vb xm] 25)).alloc (.cells #[.int .u8 0, .string ⟨#[]⟩, .string ⟨#[]⟩, ns, ns, ns] 40)).alloc (.cells #[vb (kindA xk), .string ⟨#[]⟩, .string ⟨#[]⟩, ns, ns, ns] 40)) := ((((Below.refl _ _).alloc (Nat.le_refl _) _).alloc (by simp) _).alloc (by simp; omega) _).alloc (by simp; omega) _
  have hbw : Blk ((((w.alloc (.cells #[hv, kv, .slice (some ⟨g, 0, none⟩) cells.length ca, .slice (some ⟨nb, 0, none⟩) 3 3, .slice PV paths.length cp] 34)).alloc (.cells #[vb xk, vb xn, vb xf, vb xp, vb xm] 25)).alloc (.cells #[.int .u8 0, .string ⟨#[]⟩, .string ⟨#[]⟩, ns, ns, ns] 40)).alloc (.cells #[vb (kindA xk), .string ⟨#[]⟩, .string ⟨#[]⟩, ns, ns, ns] 40)) w.heap.size 34 [hv, kv, .slice (some ⟨g, 0, none⟩) cells.length ca, .slice (some ⟨nb, 0, none⟩) 3 3, .slice PV paths.length cp] := (((Blk.new w 34 _).alloc _).alloc _).alloc _
  have hbx : Blk ((((w.alloc (.cells #[hv, kv, .slice (some ⟨g, 0, none⟩) cells.length ca, .slice (some ⟨nb, 0, none⟩) 3 3, .slice PV paths.length cp] 34)).alloc (.cells #[vb xk, vb xn, vb xf, vb xp, vb xm] 25)).alloc (.cells #[.int .u8 0, .string ⟨#[]⟩, .string ⟨#[]⟩, ns, ns, ns] 40)).alloc (.cells #[vb (kindA xk), .string ⟨#[]⟩, .string ⟨#[]⟩, ns, ns, ns] 40)) (w.heap.size + 1) 25 [vb xk, vb xn, vb xf, vb xp, vb xm] := by
    have := (((Blk.new (w.alloc (.cells #[hv, kv, .slice (some ⟨g, 0, none⟩) cells.length ca, .slice (some ⟨nb, 0, none⟩) 3 3, .slice PV paths.length cp] 34)) 25 #[vb xk, vb xn, vb xf, vb xp, vb xm]).alloc (.cells #[.int .u8 0, .string ⟨#[]⟩, .string ⟨#[]⟩, ns, ns, ns] 40)).alloc (.cells #[vb (kindA xk), .string ⟨#[]⟩, .string ⟨#[]⟩, ns, ns, ns] 40))
    simpa using this
  have hbr : Blk ((((w.alloc (.cells #[hv, kv, .slice (some ⟨g, 0, none⟩) cells.length ca, .slice (some ⟨nb, 0, none⟩) 3 3, .slice PV paths.length cp] 34)).alloc (.cells #[vb xk, vb xn, vb xf, vb xp, vb xm] 25)).alloc (.cells #[.int .u8 0, .string ⟨#[]⟩, .string ⟨#[]⟩, ns, ns, ns] 40)).alloc (.cells #[vb (kindA xk), .string ⟨#[]⟩, .string ⟨#[]⟩, ns, ns, ns] 40)) (w.heap.size + 1 + 1) 40 [.int .u8 0, .string ⟨#[]⟩, .string ⟨#[]⟩, ns, ns, ns] := by
    have := ((Blk.new ((w.alloc (.cells #[hv, kv, .slice (some ⟨g, 0, none⟩) cells.length ca, .slice (some ⟨nb, 0, none⟩) 3 3, .slice PV paths.length cp] 34)).alloc (.cells #[vb xk, vb xn, vb xf, vb xp, vb xm] 25)) 40 #[.int .u8 0, .string ⟨#[]⟩, .string ⟨#[]⟩, ns, ns, ns]).alloc (.cells #[vb (kindA xk), .string ⟨#[]⟩, .string ⟨#[]⟩, ns, ns, ns] 40))
    simpa using this
  have hbq : Blk ((((w.alloc (.cells #[hv, kv, .slice (some ⟨g, 0, none⟩) cells.length ca, .slice (some ⟨nb, 0, none⟩) 3 3, .slice PV paths.length cp] 34)).alloc (.cells #[vb xk, vb xn, vb xf, vb xp, vb xm] 25)).alloc (.cells #[.int .u8 0, .string ⟨#[]⟩, .string ⟨#[]⟩, ns, ns, ns] 40)).alloc (.cells #[vb (kindA xk), .string ⟨#[]⟩, .string ⟨#[]⟩, ns, ns, ns] 40)) (w.heap.size + 1 + 1 + 1) 40 [vb (kindA xk), .string ⟨#[]⟩, .string ⟨#[]⟩, ns, ns, ns] := by
    have := Blk.new (((w.alloc (.cells #[hv, kv, .slice (some ⟨g, 0, none⟩) cells.length ca, .slice (some ⟨nb, 0, none⟩) 3 3, .slice PV paths.length cp] 34)).alloc (.cells #[vb xk, vb xn, vb xf, vb xp, vb xm] 25)).alloc (.cells #[.int .u8 0, .string ⟨#[]⟩, .string ⟨#[]⟩, ns, ns, ns] 40)) 40 #[vb (kindA xk), .string ⟨#[]⟩, .string ⟨#[]⟩, ns, ns, ns]
    simpa using this
  generalize (((w.alloc (.cells #[hv, kv, .slice (some ⟨g, 0, none⟩) cells.length ca, .slice (some ⟨nb, 0, none⟩) 3 3, .slice PV paths.length cp] 34)).alloc (.cells #[vb xk, vb xn, vb xf, vb xp, vb xm] 25)).alloc (.cells #[.int .u8 0, .string ⟨#[]⟩, .string ⟨#[]⟩, ns, ns, ns] 40)).alloc (.cells #[vb (kindA xk), .string ⟨#[]⟩, .string ⟨#[]⟩, ns, ns, ns] 40) = W1 at *
  clear HKV
  obtain ⟨jn, hjn, hjn1, hjn2⟩ := rest_nat xn.toNat 3 (by decide)
  replace hjn1 : (xn.toNat : Int) % 3 = (jn : Int) := hjn1
  replace hjn2 : Int.tmod (xn.toNat : Int) 3 = (jn : Int) := hjn2
  obtain ⟨jf, hjf, hjf1, hjf2⟩ := rest_nat xf.toNat cells.length hc0
  have e1 : (0 : Int) ≤ (jn : Int) := by omega
  have e2 : (jn : Int) < 3 := by omega
  have e3 : (0 : Int) ≤ (jf : Int) := by omega
  have e4 : (jf : Int) < (cells.length : Int) := by omega
  have e5 : ((cells.length : Int) == 0) = false := by rw [beq_eq_false_iff_ne]; omega
  have e6 : ¬ cells = [] := fun e => by rw [e] at hc0; cases hc0
  have e7 : IntKind.i64.wrap (xn.toNat : Int) = (xn.toNat : Int) := by simp [IntKind.wrap, IntKind.signed, IntKind.bits]; omega
  have e8 : IntKind.i64.wrap (xf.toNat : Int) = (xf.toNat : Int) := by simp [IntKind.wrap, IntKind.signed, IntKind.bits]; omega
  have e9 : IntKind.i64.wrap (jn : Int) = (jn : Int) := by simp [IntKind.wrap, IntKind.signed, IntKind.bits]; omega
  have e10 : IntKind.i64.wrap (jf : Int) = (jf : Int) := by simp [IntKind.wrap, IntKind.signed, IntKind.bits]; omega
  have hnbw : nb < w.heap.size := by
    obtain ⟨b, o, e, hh⟩ := HNS.out (by decide)
    injection e with e; injection e with e
    subst e; exact block_of_cell (hh 0 (by decide))
  have hgw : g < w.heap.size := block_of_cell (HC.out 0 hc0)
  have HNM : Hid (∃ nm : List UInt8, w.cell? ⟨nb, jn, none⟩ = some (vs nm) ∧ nm.length ≤ 100) := by
    obtain ⟨b, o, e, hh⟩ := HNS.out (by decide)
    injection e with e; injection e with e f
    subst e f
    have h3 : jn < names3.length := hjn
    have := hh jn h3
    rw [Nat.zero_add] at this
    refine ⟨names3[jn], this, ?_⟩
    have : ∀ j, j < 3 → (names3.getD j []).length ≤ 100 := by decide
    have := this jn hjn
    rwa [List.getD_eq_getElem?_getD, List.getElem?_eq_getElem h3] at this
  obtain ⟨nm, hnm, hnml⟩ := HNM.out
  obtain ⟨a0, A0, ac, hav, hA0, hN0, hac, hal, -⟩ := HAR.out cells[jf] (List.getElem_mem hjf)
  have hcf := HC.out jf hjf
  rw [hav] at hcf
  have q0 := hbw.cell 3; have q1 := hbx.cell 1; have q3 := hbw.cell 2; have q4 := hbx.cell 2
  simp only [List.getElem?_cons_zero, List.getElem?_cons_succ] at q0 q1 q3 q4
  have q2 : W1.cell? ⟨nb, jn, none⟩ = some (vs nm) := by rw [hB1.cell (p := ⟨nb, jn, none⟩) hnbw]; exact hnm
  have q5 : W1.cell? ⟨g, jf, none⟩ = some (.slice A0 a0.length ac) := by rw [hB1.cell (p := ⟨g, jf, none⟩) hgw]; exact hcf
  have HA0 := Lib.hid hA0; have HN0 := Lib.hid hN0; have HNML := Lib.hid hnml
  have HBQ := Lib.hid hbq; have HBW := Lib.hid hbw; have HBX := Lib.hid hbx; have HBR := Lib.hid hbr; have HB1 := Lib.hid hB1
  clear HNM hnm hcf hav hA0 hN0 hnml hbq hbw hbx hbr hB1
  go_region_held3 (fun w' => w'.cell? ⟨w.heap.size, 3, none⟩ = some (.slice (some ⟨nb, 0, none⟩) 3 3) ∧ w'.cell? ⟨w.heap.size + 1, 1, none⟩ = some (vb xn) ∧ w'.cell? ⟨nb, jn, none⟩ = some (vs nm) ∧ w'.cell? ⟨w.heap.size, 2, none⟩ = some (.slice (some ⟨g, 0, none⟩) cells.length ca) ∧ w'.cell? ⟨w.heap.size + 1, 2, none⟩ = some (vb xf) ∧ w'.cell? ⟨g, jf, none⟩ = some (.slice A0 a0.length ac)) (go_keep) (fail)
  have hB2 : Below w.heap.size w W1.drew := HB1.out.drew
  have hbw2 : Blk W1.drew w.heap.size 34 [hv, kv, .slice (some ⟨g, 0, none⟩) cells.length ca, .slice (some ⟨nb, 0, none⟩) 3 3, .slice PV paths.length cp] := HBW.out
  have hbx2 : Blk W1.drew (w.heap.size + 1) 25 [vb xk, vb xn, vb xf, vb xp, vb xm] := HBX.out
  have hbr2 : Blk W1.drew (w.heap.size + 1 + 1) 40 [.int .u8 0, .string ⟨#[]⟩, .string ⟨#[]⟩, ns, ns, ns] := HBR.out
  have hbq2 : Blk W1.drew (w.heap.size + 1 + 1 + 1) 40 [vb (kindA xk), .string ⟨#[]⟩, .string ⟨#[]⟩, ns, ns, ns] := HBQ.out
  clear HBQ HBW HBX HBR HB1 q0 q1 q2 q3 q4 q5 hjn1 hjn2 hjf1 hjf2 e1 e2 e3 e4 e5 e6 e7 e8 e9 e10 hjn hjf HC HAR HNS
  generalize W1.drew = W2 at *
  have HBQ := Lib.hid hbq2; have HBW := Lib.hid hbw2; have HBX := Lib.hid hbx2; have HBR := Lib.hid hbr2; have HB2 := Lib.hid hB2
  have x1 := hbx2.cell 1; have x2 := hbx2.cell 2
  simp only [List.getElem?_cons_zero, List.getElem?_cons_succ] at x1 x2
  clear hB2 hbw2 hbx2 hbr2 hbq2
  generalize kindA xk = kb at *
  have hkb := HKA.out
  go_upto_if 39 with fail
  go_cut [6] from 39 (fun s6 wx => Hid (∃ nm : List UInt8, s6 = vs nm ∧ nm.length ≤ 100) ∧ W2 = wx)
  case first =>
    by_cases hc : 250 ≤ xn.toNat
    · have hc' : (250 : Int) ≤ (xn.toNat : Int) := by omega
      go_wp2_with fail
      go_meet
      exact ⟨⟨[46, 110, 111], rfl, by decide⟩, rfl⟩
    · have hc' : ¬ (250 : Int) ≤ (xn.toNat : Int) := by omega
      go_wp2_with fail
      go_meet
      exact ⟨⟨nm, rfl, HNML.out⟩, rfl⟩
  obtain ⟨HN6, rfl⟩ := hcut
  obtain ⟨nm', rfl, hnm'⟩ := HN6.out
  have HNM := Lib.hid hnm'
  clear HN6 hnm' HNML
  go_upto_if 42 with fail
  go_cut [7] from 42 (fun s7 wx => Hid (∃ (A : Option Addr) (a : List UInt8) (c : Nat), s7 = .slice A a.length c ∧ SrcIs w A a ∧ a.length ≤ 80000 ∧ (A = none → c = 0) ∧ a.length ≤ c) ∧ W2 = wx)
  case first =>
    by_cases hc : 250 ≤ xf.toNat
    · have hc' : (250 : Int) ≤ (xf.toNat : Int) := by omega
      obtain ⟨m, hm⟩ : ∃ m : Nat, m = a0.length / 2 := ⟨_, rfl⟩
      have hm1 : (a0.length : Int) / 2 = (m : Int) := by omega
      have hm2 : m ≤ a0.length := by omega
      have hm3 : (m : Int) ≤ (ac : Int) := by omega
      clear hm
      cases A0 with
      | none =>
        have hac0 := HN0.out rfl
        subst hac0
        go_wp2_with fail
        go_meet
        exact ⟨⟨none, a0.take m, 0, by rw [List.length_take, Nat.min_eq_left hm2], fun h0 => absurd h0 (by rw [List.length_take]; omega), by rw [List.length_take]; omega, fun _ => rfl, by rw [List.length_take]; omega⟩, rfl⟩
      | some ad =>
        go_wp2_with fail
        go_meet
        refine ⟨⟨some ad, a0.take m, ac, by rw [List.length_take, Nat.min_eq_left hm2], fun h0 => ?_, by rw [List.length_take]; omega, (fun h => by cases h), by rw [List.length_take]; omega⟩, rfl⟩
        obtain ⟨b, o, e, hb⟩ := HA0.out (by rw [List.length_take] at h0; omega)
        exact ⟨b, o, e, hb.take m⟩
    · have hc' : ¬ (250 : Int) ≤ (xf.toNat : Int) := by omega
      go_wp2_with fail
      go_meet
      exact ⟨⟨A0, a0, ac, rfl, HA0.out, hal, HN0.out, hac⟩, rfl⟩
  obtain ⟨HA7, rfl⟩ := hcut
  obtain ⟨A1, a1, c1, rfl, hA1, hal1, hN1, hac1⟩ := HA7.out
  have HA1 := Lib.hid hA1; have HN1 := Lib.hid hN1
  clear HA7 hA1 hN1 HA0 HN0 hac hal
  have hk1 : ((kb.toNat : Int) == 1) = true := by rw [beq_iff_eq]; omega
  have hs2 : w.heap.size + 1 + 1 + 1 < W2.heap.size := Blk.lt HBQ.out
  have HWI2 := Lib.hid (HWI.out.below HB2.out)
  have y0 := HBW.out.cell 0; have y1 := HBW.out.cell 1; have y2 := HBW.out.cell 2; have y3 := HBW.out.cell 3; have y4 := HBW.out.cell 4
  have z0 := HBQ.out.cell 0
  simp only [List.getElem?_cons_zero, List.getElem?_cons_succ] at y0 y1 y2 y3 y4 z0
  have HSM : Hid (Calls Tryd.prog 37 #[.agg #[hv, kv, .slice (some ⟨g, 0, none⟩) cells.length ca, .slice (some ⟨nb, 0, none⟩) 3 3, .slice PV paths.length cp], .int .i64 0, .int .i64 16] W2 fun e w' => ∃ (l : List (List UInt8)) (v' : Value), e = .returned v' ∧ l.length ≤ 16 ∧ (∀ x ∈ l, x.length ≤ 100) ∧ w'.ownsRow (W2.heap.size + 1) 9 1 v' l.length (l.map vs) ∧ Below W2.heap.size W2 w') := some_any _ 0 16 (by omega) (by omega) W2 HWI2.out
  clear HWI
  go_wp2_with fail
  refine HSM.out.mono ?_
  rintro e w3 ⟨l, v3, rfl, hll, hlx, hown, hb3⟩
  obtain ⟨R, rc, rfl, hR, hRr⟩ := own_strs hown
  have HB3 := Lib.hid (HB2.out.trans (hb3.mono HB2.out.size))
  have hq3 := HBQ.out.below hb3 hs2
  have hr3 := HBR.out.below hb3 (by omega)
  have hs3 : W2.heap.size ≤ w3.heap.size := hb3.size
  clear HBQ HBR y0 y1 y2 y3 y4 z0 HBW HBX HSM HWI2 hb3 hown x1 x2
  have g1 := hq3.frozen 1; have g3 := hq3.frozen 3; have g4 := hq3.frozen 4
  have z1 := hq3.cell 1; have z3 := hq3.cell 3; have z4 := hq3.cell 4
  simp only [List.getElem?_cons_zero, List.getElem?_cons_succ] at z1 z3 z4
  have hb4 : Below w.heap.size w (((w3.setCell ⟨w.heap.size + 1 + 1 + 1, 1, none⟩ (vs nm')).setCell ⟨w.heap.size + 1 + 1 + 1, 3, none⟩ (.slice A1 a1.length c1)).setCell ⟨w.heap.size + 1 + 1 + 1, 4, none⟩ (.slice R l.length rc)) := ((HB3.out.setCell (by simp only; omega) _).setCell (by simp only; omega) _).setCell (by simp only; omega) _
  have hq4 : Blk (((w3.setCell ⟨w.heap.size + 1 + 1 + 1, 1, none⟩ (vs nm')).setCell ⟨w.heap.size + 1 + 1 + 1, 3, none⟩ (.slice A1 a1.length c1)).setCell ⟨w.heap.size + 1 + 1 + 1, 4, none⟩ (.slice R l.length rc)) (w.heap.size + 1 + 1 + 1) 40 [vb kb, vs nm', .string ⟨#[]⟩, .slice A1 a1.length c1, .slice R l.length rc, ns] := by
    have := ((hq3.set 1 (vs nm')).set 3 (.slice A1 a1.length c1)).set 4 (.slice R l.length rc)
    simpa using this
  have hr4 : Blk (((w3.setCell ⟨w.heap.size + 1 + 1 + 1, 1, none⟩ (vs nm')).setCell ⟨w.heap.size + 1 + 1 + 1, 3, none⟩ (.slice A1 a1.length c1)).setCell ⟨w.heap.size + 1 + 1 + 1, 4, none⟩ (.slice R l.length rc)) (w.heap.size + 1 + 1) 40 [.int .u8 0, .string ⟨#[]⟩, .string ⟨#[]⟩, ns, ns, ns] := ((hr3.other (by simp only; omega) _).other (by simp only; omega) _).other (by simp only; omega) _
  have hR4 : StrsIs (((w3.setCell ⟨w.heap.size + 1 + 1 + 1, 1, none⟩ (vs nm')).setCell ⟨w.heap.size + 1 + 1 + 1, 3, none⟩ (.slice A1 a1.length c1)).setCell ⟨w.heap.size + 1 + 1 + 1, 4, none⟩ (.slice R l.length rc)) R l := hR.sameAt (fun a ha => by
    have := (hRr a ha).1
    rw [Below.heap_setCell _ ⟨w.heap.size + 1 + 1 + 1, 4, none⟩ _ _ (by simp only; omega), Below.heap_setCell _ ⟨w.heap.size + 1 + 1 + 1, 3, none⟩ _ _ (by simp only; omega), Below.heap_setCell _ ⟨w.heap.size + 1 + 1 + 1, 1, none⟩ _ _ (by simp only; omega)])
  have HB4 := Lib.hid hb4; have HQ4 := Lib.hid hq4; have HR4 := Lib.hid hr4; have HRS := Lib.hid hR4; have HRR := Lib.hid hRr; have HLL := Lib.hid hll; have HLX := Lib.hid hlx; have HAL := Lib.hid hal1
  clear hb4 hq4 hr4 hR4 hR hRr hll hlx hal1 hq3 hr3
  go_upto_region 21 with fail
  generalize ((w3.setCell ⟨w.heap.size + 1 + 1 + 1, 1, none⟩ (vs nm')).setCell ⟨w.heap.size + 1 + 1 + 1, 3, none⟩ (.slice A1 a1.length c1)).setCell ⟨w.heap.size + 1 + 1 + 1, 4, none⟩ (.slice R l.length rc) = W4 at *
  clear g1 g3 g4 z1 z3 z4
  have z0 := HQ4.out.cell 0; have z1 := HQ4.out.cell 1; have z2 := HQ4.out.cell 2; have z3 := HQ4.out.cell 3; have z4 := HQ4.out.cell 4; have z5 := HQ4.out.cell 5
  simp only [List.getElem?_cons_zero, List.getElem?_cons_succ] at z0 z1 z2 z3 z4 z5
  go_wp2_with (refine wpList_store_blk rfl (.tmp 4) (.tmp 151) rfl rfl (cs' := [vb kb, vs nm', .string ⟨#[]⟩, .slice A1 a1.length c1, .slice R l.length rc, ns]) rfl HR4.out rfl info40 rfl ?_)
  intro w8 hrs
  have d0 := hrs.blk.cell 0; have d1 := hrs.blk.cell 1; have d2 := hrs.blk.cell 2; have d3 := hrs.blk.cell 3; have d4 := hrs.blk.cell 4; have d5 := hrs.blk.cell 5
  simp only [List.getElem?_cons_zero, List.getElem?_cons_succ] at d0 d1 d2 d3 d4 d5
  have hb8 : Below w.heap.size w w8 := hrs.below _ _ HB4.out (by omega)
  have hfin : RqPost w (.returned (.agg #[vb kb, vs nm', .string ⟨#[]⟩, .slice A1 a1.length c1, .slice R l.length rc, ns])) w8 := by
    have hk : kb.toNat = 1 := by have := HKA.out; omega
    refine ⟨⟨_, ⟨kb, nm', [], a1, l, []⟩, rfl, ⟨A1, c1, R, rc, none, 0, rfl, HA1.out.below hb8, HRS.out.sameAt (fun a ha => hrs.other _ (by have := (HRR.out a ha).1; omega)), OutsAt.nil _ _⟩, ?_⟩, hb8⟩
    exact ⟨by simp only; omega, by simp only; omega, by simp, HNM.out, HAL.out, ⟨HLL.out, HLX.out⟩, ⟨by simp, fun i h => absurd h (by simp)⟩, (fun h => by simp only [hk] at h; cases h), by unfold canonV; simp only [hk]; rfl⟩
  have HF := Lib.hid hfin
  clear hrs hfin hb8 z0 z1 z2 z3 z4 z5
  go_wp2_with fail
  exact bodyPost_ret (v := .agg #[vb kb, vs nm', .string ⟨#[]⟩, .slice A1 a1.length c1, .slice R l.length rc, ns]) (by simp [results, Tryd.results14, go_sem, *]) rfl HF.out
end Go.Proofs.YtggmogjgaoobjaaDoor

/- The request of an Ask: one with a path. -/
namespace Go.Proofs.YtggmogjgaoobjaaDoor
open Go.RowKit RealMath BaseMath WireMath ReqMath PackMath
open TreeMath hiding By
set_option maxRecDepth 100000 in
set_option maxHeartbeats 8000000 in
theorem request_2 (v : Value) (xk xn xf xp xm : By) (w : World) (h : WorldIs w v) (hkx : xk.toNat % 12 ≠ 0 ∧ xk.toNat % 12 ≠ 6 ∧ xk.toNat % 12 ≠ 10 ∧ xk.toNat % 12 ≠ 11) :
    Calls Tryd.prog 14 #[v, .agg #[vb xk, vb xn, vb xf, vb xp, vb xm]] w (RqPost w) := by
  have HWI := Lib.hid h
  obtain ⟨hv, kv, g, ca, cells, nb, PV, cp, paths, rfl, hc0, hc30, hc, har, hns, hp0, hp30, hps, hpl⟩ := h
  have HC := Lib.hid hc; have HAR := Lib.hid har; have HNS := Lib.hid hns
  clear hc har hns hps hpl
  have HKA := Lib.hid (kindA_nat xk)
  have hk256 := xk.toNat_lt; have hn256 := xn.toNat_lt; have hf256 := xf.toNat_lt; have hp256 := xp.toNat_lt; have hm256 := xm.toNat_lt
  have HKV : Hid (Value.int .u8 (1 + (xk.toNat : Int) % 12) = vb (kindA xk)) := by show _ = _; unfold vb; rw [HKA.out]; simp
  go_enter Tryd.func14, Tryd.ntmps14
  go_upto_region 2 with fail
  rw [HKV.out]
  have hB1 : Below w.heap.size w ((((w.alloc (.cells #[hv, kv, .slice (some ⟨g, 0, none⟩) cells.length ca, .slice (some ⟨nb, 0, none⟩) 3 3, .slice PV paths.length cp] 34)).alloc (.cells #[vb xk, vb xn, vb xf, vb xp, vb xm] 25)).alloc (.cells #[.int .u8 0, .string ⟨#[]⟩, .string ⟨#[]⟩, ns, ns, ns] 40)).alloc (.cells #[vb (kindA xk), .string ⟨#[]⟩, .string ⟨#[]⟩, ns, ns, ns] 40)) := ((((Below.refl _ _).alloc (Nat.le_refl _) _).alloc (by simp) _).alloc (by simp; omega) _).alloc (by simp; omega) _
  have hbw : Blk ((((w.alloc (.cells #[hv, kv, .slice (some ⟨g, 0, none⟩) cells.length ca, .slice (some ⟨nb, 0, none⟩) 3 3, .slice PV paths.length cp] 34)).alloc (.cells #[vb xk, vb xn, vb xf, vb xp, vb xm] 25)).alloc (.cells #[.int .u8 0, .string ⟨#[]⟩, .string ⟨#[]⟩, ns, ns, ns] 40)).alloc (.cells #[vb (kindA xk), .string ⟨#[]⟩, .string ⟨#[]⟩, ns, ns, ns] 40)) w.heap.size 34 [hv, kv, .slice (some ⟨g, 0, none⟩) cells.length ca, .slice (some ⟨nb, 0, none⟩) 3 3, .slice PV paths.length cp] := (((Blk.new w 34 _).alloc _).alloc _).alloc _
  have hbx : Blk ((((w.alloc (.cells #[hv, kv, .slice (some ⟨g, 0, none⟩) cells.length ca, .slice (some ⟨nb, 0, none⟩) 3 3, .slice PV paths.length cp] 34)).alloc (.cells #[vb xk, vb xn, vb xf, vb xp, vb xm] 25)).alloc (.cells #[.int .u8 0, .string ⟨#[]⟩, .string ⟨#[]⟩, ns, ns, ns] 40)).alloc (.cells #[vb (kindA xk), .string ⟨#[]⟩, .string ⟨#[]⟩, ns, ns, ns] 40)) (w.heap.size + 1) 25 [vb xk, vb xn, vb xf, vb xp, vb xm] := by
    have := (((Blk.new (w.alloc (.cells #[hv, kv, .slice (some ⟨g, 0, none⟩) cells.length ca, .slice (some ⟨nb, 0, none⟩) 3 3, .slice PV paths.length cp] 34)) 25 #[vb xk, vb xn, vb xf, vb xp, vb xm]).alloc (.cells #[.int .u8 0, .string ⟨#[]⟩, .string ⟨#[]⟩, ns, ns, ns] 40)).alloc (.cells #[vb (kindA xk), .string ⟨#[]⟩, .string ⟨#[]⟩, ns, ns, ns] 40))
    simpa using this
  have hbr : Blk ((((w.alloc (.cells #[hv, kv, .slice (some ⟨g, 0, none⟩) cells.length ca, .slice (some ⟨nb, 0, none⟩) 3 3, .slice PV paths.length cp] 34)).alloc (.cells #[vb xk, vb xn, vb xf, vb xp, vb xm] 25)).alloc (.cells #[.int .u8 0, .string ⟨#[]⟩, .string ⟨#[]⟩, ns, ns, ns] 40)).alloc (.cells #[vb (kindA xk), .string ⟨#[]⟩, .string ⟨#[]⟩, ns, ns, ns] 40)) (w.heap.size + 1 + 1) 40 [.int .u8 0, .string ⟨#[]⟩, .string ⟨#[]⟩, ns, ns, ns] := by
    have := ((Blk.new ((w.alloc (.cells #[hv, kv, .slice (some ⟨g, 0, none⟩) cells.length ca, .slice (some ⟨nb, 0, none⟩) 3 3, .slice PV paths.length cp] 34)).alloc (.cells #[vb xk, vb xn, vb xf, vb xp, vb xm] 25)) 40 #[.int .u8 0, .string ⟨#[]⟩, .string ⟨#[]⟩, ns, ns, ns]).alloc (.cells #[vb (kindA xk), .string ⟨#[]⟩, .string ⟨#[]⟩, ns, ns, ns] 40))
    simpa using this
  have hbq : Blk ((((w.alloc (.cells #[hv, kv, .slice (some ⟨g, 0, none⟩) cells.length ca, .slice (some ⟨nb, 0, none⟩) 3 3, .slice PV paths.length cp] 34)).alloc (.cells #[vb xk, vb xn, vb xf, vb xp, vb xm] 25)).alloc (.cells #[.int .u8 0, .string ⟨#[]⟩, .string ⟨#[]⟩, ns, ns, ns] 40)).alloc (.cells #[vb (kindA xk), .string ⟨#[]⟩, .string ⟨#[]⟩, ns, ns, ns] 40)) (w.heap.size + 1 + 1 + 1) 40 [vb (kindA xk), .string ⟨#[]⟩, .string ⟨#[]⟩, ns, ns, ns] := by
    have := Blk.new (((w.alloc (.cells #[hv, kv, .slice (some ⟨g, 0, none⟩) cells.length ca, .slice (some ⟨nb, 0, none⟩) 3 3, .slice PV paths.length cp] 34)).alloc (.cells #[vb xk, vb xn, vb xf, vb xp, vb xm] 25)).alloc (.cells #[.int .u8 0, .string ⟨#[]⟩, .string ⟨#[]⟩, ns, ns, ns] 40)) 40 #[vb (kindA xk), .string ⟨#[]⟩, .string ⟨#[]⟩, ns, ns, ns]
    simpa using this
  generalize (((w.alloc (.cells #[hv, kv, .slice (some ⟨g, 0, none⟩) cells.length ca, .slice (some ⟨nb, 0, none⟩) 3 3, .slice PV paths.length cp] 34)).alloc (.cells #[vb xk, vb xn, vb xf, vb xp, vb xm] 25)).alloc (.cells #[.int .u8 0, .string ⟨#[]⟩, .string ⟨#[]⟩, ns, ns, ns] 40)).alloc (.cells #[vb (kindA xk), .string ⟨#[]⟩, .string ⟨#[]⟩, ns, ns, ns] 40) = W1 at *
  clear HKV
  obtain ⟨jn, hjn, hjn1, hjn2⟩ := rest_nat xn.toNat 3 (by decide)
  replace hjn1 : (xn.toNat : Int) % 3 = (jn : Int) := hjn1
  replace hjn2 : Int.tmod (xn.toNat : Int) 3 = (jn : Int) := hjn2
  obtain ⟨jf, hjf, hjf1, hjf2⟩ := rest_nat xf.toNat cells.length hc0
  have e1 : (0 : Int) ≤ (jn : Int) := by omega
  have e2 : (jn : Int) < 3 := by omega
  have e3 : (0 : Int) ≤ (jf : Int) := by omega
  have e4 : (jf : Int) < (cells.length : Int) := by omega
  have e5 : ((cells.length : Int) == 0) = false := by rw [beq_eq_false_iff_ne]; omega
  have e6 : ¬ cells = [] := fun e => by rw [e] at hc0; cases hc0
  have e7 : IntKind.i64.wrap (xn.toNat : Int) = (xn.toNat : Int) := by simp [IntKind.wrap, IntKind.signed, IntKind.bits]; omega
  have e8 : IntKind.i64.wrap (xf.toNat : Int) = (xf.toNat : Int) := by simp [IntKind.wrap, IntKind.signed, IntKind.bits]; omega
  have e9 : IntKind.i64.wrap (jn : Int) = (jn : Int) := by simp [IntKind.wrap, IntKind.signed, IntKind.bits]; omega
  have e10 : IntKind.i64.wrap (jf : Int) = (jf : Int) := by simp [IntKind.wrap, IntKind.signed, IntKind.bits]; omega
  have hnbw : nb < w.heap.size := by
    obtain ⟨b, o, e, hh⟩ := HNS.out (by decide)
    injection e with e; injection e with e
    subst e; exact block_of_cell (hh 0 (by decide))
  have hgw : g < w.heap.size := block_of_cell (HC.out 0 hc0)
  have HNM : Hid (∃ nm : List UInt8, w.cell? ⟨nb, jn, none⟩ = some (vs nm) ∧ nm.length ≤ 100) := by
    obtain ⟨b, o, e, hh⟩ := HNS.out (by decide)
    injection e with e; injection e with e f
    subst e f
    have h3 : jn < names3.length := hjn
    have := hh jn h3
    rw [Nat.zero_add] at this
    refine ⟨names3[jn], this, ?_⟩
    have : ∀ j, j < 3 → (names3.getD j []).length ≤ 100 := by decide
    have := this jn hjn
    rwa [List.getD_eq_getElem?_getD, List.getElem?_eq_getElem h3] at this
  obtain ⟨nm, hnm, hnml⟩ := HNM.out
  obtain ⟨a0, A0, ac, hav, hA0, hN0, hac, hal, -⟩ := HAR.out cells[jf] (List.getElem_mem hjf)
  have hcf := HC.out jf hjf
  rw [hav] at hcf
  have q0 := hbw.cell 3; have q1 := hbx.cell 1; have q3 := hbw.cell 2; have q4 := hbx.cell 2
  simp only [List.getElem?_cons_zero, List.getElem?_cons_succ] at q0 q1 q3 q4
  have q2 : W1.cell? ⟨nb, jn, none⟩ = some (vs nm) := by rw [hB1.cell (p := ⟨nb, jn, none⟩) hnbw]; exact hnm
  have q5 : W1.cell? ⟨g, jf, none⟩ = some (.slice A0 a0.length ac) := by rw [hB1.cell (p := ⟨g, jf, none⟩) hgw]; exact hcf
  have HA0 := Lib.hid hA0; have HN0 := Lib.hid hN0; have HNML := Lib.hid hnml
  have HBQ := Lib.hid hbq; have HBW := Lib.hid hbw; have HBX := Lib.hid hbx; have HBR := Lib.hid hbr; have HB1 := Lib.hid hB1
  clear HNM hnm hcf hav hA0 hN0 hnml hbq hbw hbx hbr hB1
  go_region_held3 (fun w' => w'.cell? ⟨w.heap.size, 3, none⟩ = some (.slice (some ⟨nb, 0, none⟩) 3 3) ∧ w'.cell? ⟨w.heap.size + 1, 1, none⟩ = some (vb xn) ∧ w'.cell? ⟨nb, jn, none⟩ = some (vs nm) ∧ w'.cell? ⟨w.heap.size, 2, none⟩ = some (.slice (some ⟨g, 0, none⟩) cells.length ca) ∧ w'.cell? ⟨w.heap.size + 1, 2, none⟩ = some (vb xf) ∧ w'.cell? ⟨g, jf, none⟩ = some (.slice A0 a0.length ac)) (go_keep) (fail)
  have hB2 : Below w.heap.size w W1.drew := HB1.out.drew
  have hbw2 : Blk W1.drew w.heap.size 34 [hv, kv, .slice (some ⟨g, 0, none⟩) cells.length ca, .slice (some ⟨nb, 0, none⟩) 3 3, .slice PV paths.length cp] := HBW.out
  have hbx2 : Blk W1.drew (w.heap.size + 1) 25 [vb xk, vb xn, vb xf, vb xp, vb xm] := HBX.out
  have hbr2 : Blk W1.drew (w.heap.size + 1 + 1) 40 [.int .u8 0, .string ⟨#[]⟩, .string ⟨#[]⟩, ns, ns, ns] := HBR.out
  have hbq2 : Blk W1.drew (w.heap.size + 1 + 1 + 1) 40 [vb (kindA xk), .string ⟨#[]⟩, .string ⟨#[]⟩, ns, ns, ns] := HBQ.out
  clear HBQ HBW HBX HBR HB1 q0 q1 q2 q3 q4 q5 hjn1 hjn2 hjf1 hjf2 e1 e2 e3 e4 e5 e6 e7 e8 e9 e10 hjn hjf HC HAR HNS
  generalize W1.drew = W2 at *
  have HBQ := Lib.hid hbq2; have HBW := Lib.hid hbw2; have HBX := Lib.hid hbx2; have HBR := Lib.hid hbr2; have HB2 := Lib.hid hB2
  have x1 := hbx2.cell 1; have x2 := hbx2.cell 2
  simp only [List.getElem?_cons_zero, List.getElem?_cons_succ] at x1 x2
  clear hB2 hbw2 hbx2 hbr2 hbq2
  generalize kindA xk = kb at *
  have hkb := HKA.out
  go_upto_if 39 with fail
  go_cut [6] from 39 (fun s6 wx => Hid (∃ nm : List UInt8, s6 = vs nm ∧ nm.length ≤ 100) ∧ W2 = wx)
  case first =>
    by_cases hc : 250 ≤ xn.toNat
    · have hc' : (250 : Int) ≤ (xn.toNat : Int) := by omega
      go_wp2_with fail
      go_meet
      exact ⟨⟨[46, 110, 111], rfl, by decide⟩, rfl⟩
    · have hc' : ¬ (250 : Int) ≤ (xn.toNat : Int) := by omega
      go_wp2_with fail
      go_meet
      exact ⟨⟨nm, rfl, HNML.out⟩, rfl⟩
  obtain ⟨HN6, rfl⟩ := hcut
  obtain ⟨nm', rfl, hnm'⟩ := HN6.out
  have HNM := Lib.hid hnm'
  clear HN6 hnm' HNML
  go_upto_if 42 with fail
  go_cut [7] from 42 (fun s7 wx => Hid (∃ (A : Option Addr) (a : List UInt8) (c : Nat), s7 = .slice A a.length c ∧ SrcIs w A a ∧ a.length ≤ 80000 ∧ (A = none → c = 0) ∧ a.length ≤ c) ∧ W2 = wx)
  case first =>
    by_cases hc : 250 ≤ xf.toNat
    · have hc' : (250 : Int) ≤ (xf.toNat : Int) := by omega
      obtain ⟨m, hm⟩ : ∃ m : Nat, m = a0.length / 2 := ⟨_, rfl⟩
      have hm1 : (a0.length : Int) / 2 = (m : Int) := by omega
      have hm2 : m ≤ a0.length := by omega
      have hm3 : (m : Int) ≤ (ac : Int) := by omega
      clear hm
      cases A0 with
      | none =>
        have hac0 := HN0.out rfl
        subst hac0
        go_wp2_with fail
        go_meet
        exact ⟨⟨none, a0.take m, 0, by rw [List.length_take, Nat.min_eq_left hm2], fun h0 => absurd h0 (by rw [List.length_take]; omega), by rw [List.length_take]; omega, fun _ => rfl, by rw [List.length_take]; omega⟩, rfl⟩
      | some ad =>
        go_wp2_with fail
        go_meet
        refine ⟨⟨some ad, a0.take m, ac, by rw [List.length_take, Nat.min_eq_left hm2], fun h0 => ?_, by rw [List.length_take]; omega, (fun h => by cases h), by rw [List.length_take]; omega⟩, rfl⟩
        obtain ⟨b, o, e, hb⟩ := HA0.out (by rw [List.length_take] at h0; omega)
        exact ⟨b, o, e, hb.take m⟩
    · have hc' : ¬ (250 : Int) ≤ (xf.toNat : Int) := by omega
      go_wp2_with fail
      go_meet
      exact ⟨⟨A0, a0, ac, rfl, HA0.out, hal, HN0.out, hac⟩, rfl⟩
  obtain ⟨HA7, rfl⟩ := hcut
  obtain ⟨A1, a1, c1, rfl, hA1, hal1, hN1, hac1⟩ := HA7.out
  have HA1 := Lib.hid hA1; have HN1 := Lib.hid hN1
  clear HA7 hA1 hN1 HA0 HN0 hac hal
  have hk1 : ((kb.toNat : Int) == 1) = false := by rw [beq_eq_false_iff_ne]; omega
  have hk7 : ((kb.toNat : Int) == 7) = false := by rw [beq_eq_false_iff_ne]; omega
  have hs2 : w.heap.size + 1 + 1 + 1 < W2.heap.size := Blk.lt HBQ.out
  have hk11 : ((kb.toNat : Int) == 11) = false := by rw [beq_eq_false_iff_ne]; omega
  have hk12 : ((kb.toNat : Int) == 12) = false := by rw [beq_eq_false_iff_ne]; omega
  have hn11 : ((kb.toNat : Int) != 11) = true := by rw [bne, hk11]; rfl
  have hn12 : ((kb.toNat : Int) != 12) = true := by rw [bne, hk12]; rfl
  have hne11 : ¬ (kb.toNat : Int) = 11 := by omega
  have hne12 : ¬ (kb.toNat : Int) = 12 := by omega
  clear hkb
  have HWI2 := Lib.hid (HWI.out.below HB2.out)
  have y0 := HBW.out.cell 0; have y1 := HBW.out.cell 1; have y2 := HBW.out.cell 2; have y3 := HBW.out.cell 3; have y4 := HBW.out.cell 4
  have z0 := HBQ.out.cell 0; have x3 := HBX.out.cell 3
  simp only [List.getElem?_cons_zero, List.getElem?_cons_succ] at y0 y1 y2 y3 y4 z0 x3
  clear HWI
  go_wp2_with fail
  refine (pick_any _ xp W2 HWI2.out).mono ?_
  rintro e w3 ⟨⟨t, rfl, htl⟩, hb3⟩
  have HB3 := Lib.hid (HB2.out.trans (hb3.mono HB2.out.size))
  have hq3 := HBQ.out.below hb3 hs2
  have hr3 := HBR.out.below hb3 (by omega)
  have hs3 : W2.heap.size ≤ w3.heap.size := hb3.size
  clear HBQ HBR y0 y1 y2 y3 y4 z0 x3 HBW HBX HWI2 hb3 x1 x2
  have g2 := hq3.frozen 2
  have z2 := hq3.cell 2
  simp only [List.getElem?_cons_zero, List.getElem?_cons_succ] at z2
  have HB4 : Hid (Below w.heap.size w (w3.setCell ⟨w.heap.size + 1 + 1 + 1, 2, none⟩ (vs t))) := HB3.out.setCell (by simp only; omega) _
  have HQ4 : Hid (Blk (w3.setCell ⟨w.heap.size + 1 + 1 + 1, 2, none⟩ (vs t)) (w.heap.size + 1 + 1 + 1) 40 [vb kb, .string ⟨#[]⟩, vs t, ns, ns, ns]) := by
    have := hq3.set 2 (vs t)
    show Blk _ _ _ _
    simpa using this
  have HR4 : Hid (Blk (w3.setCell ⟨w.heap.size + 1 + 1 + 1, 2, none⟩ (vs t)) (w.heap.size + 1 + 1) 40 [.int .u8 0, .string ⟨#[]⟩, .string ⟨#[]⟩, ns, ns, ns]) := hr3.other (by simp only; omega) _
  have HTL := Lib.hid htl
  clear hq3 hr3 htl
  go_upto_region 21 with fail
  generalize w3.setCell ⟨w.heap.size + 1 + 1 + 1, 2, none⟩ (vs t) = W4 at *
  clear g2 z2
  have z0 := HQ4.out.cell 0; have z1 := HQ4.out.cell 1; have z2 := HQ4.out.cell 2; have z3 := HQ4.out.cell 3; have z4 := HQ4.out.cell 4; have z5 := HQ4.out.cell 5
  simp only [List.getElem?_cons_zero, List.getElem?_cons_succ] at z0 z1 z2 z3 z4 z5
  go_wp2_with (refine wpList_store_blk rfl (.tmp 4) (.tmp 151) rfl rfl (cs' := [vb kb, .string ⟨#[]⟩, vs t, ns, ns, ns]) rfl HR4.out rfl info40 rfl ?_)
  intro w8 hrs
  have d0 := hrs.blk.cell 0; have d1 := hrs.blk.cell 1; have d2 := hrs.blk.cell 2; have d3 := hrs.blk.cell 3; have d4 := hrs.blk.cell 4; have d5 := hrs.blk.cell 5
  simp only [List.getElem?_cons_zero, List.getElem?_cons_succ] at d0 d1 d2 d3 d4 d5
  have hb8 : Below w.heap.size w w8 := hrs.below _ _ HB4.out (by omega)
  have hfin : RqPost w (.returned (.agg #[vb kb, .string ⟨#[]⟩, vs t, ns, ns, ns])) w8 := by
    have hkb := HKA.out
    have hk : hasK kb.toNat = 2 := hasK_path kb (by omega) (by omega) (by omega) (by omega) (by omega) (by omega)
    refine ⟨⟨_, ⟨kb, [], t, [], [], []⟩, rfl, ⟨none, 0, none, 0, none, 0, rfl, SrcIs.nil _ _, StrsIs.nil _ _, OutsAt.nil _ _⟩, ?_⟩, hb8⟩
    exact ⟨by simp only; omega, by simp only; omega, HTL.out, by simp, by simp, ⟨by simp, fun x h => by cases h⟩, ⟨by simp, fun i h => absurd h (by simp)⟩, (fun h => by simp only [hk] at h; cases h), by unfold canonV; simp only [hk]; rfl⟩
  have HF := Lib.hid hfin
  clear hrs hfin hb8 z0 z1 z2 z3 z4 z5
  go_wp2_with fail
  exact bodyPost_ret (v := .agg #[vb kb, .string ⟨#[]⟩, vs t, ns, ns, ns]) (by simp [results, Tryd.results14, go_sem, *]) rfl HF.out
end Go.Proofs.YtggmogjgaoobjaaDoor
