/- The request of an Ask: a Register's. -/
import Derived.Test.YtggmogjgaoobjaaDoorXCT30
namespace Go.Proofs.YtggmogjgaoobjaaDoor
open Go.RowKit RealMath BaseMath WireMath ReqMath PackMath
open TreeMath hiding By
set_option maxRecDepth 100000 in
set_option maxHeartbeats 8000000 in
theorem request_7 (v : Value) (xk xn xf xp xm : By) (w : World) (h : WorldIs w v) (hkx : xk.toNat % 12 = 6) :
    Calls Tryd.prog 14 #[v, .agg #[vb xk, vb xn, vb xf, vb xp, vb xm]] w (RqPost w) := by
  have HWI := Lib.hid h
  obtain ⟨hv, kv, g, ca, cells, nb, PV, cp, paths, rfl, hc0, hc30, hc, har, hns, hp0, hp30, hps, hpl⟩ := h
  have HC := Lib.hid hc; have HAR := Lib.hid har; have HNS := Lib.hid hns
  clear hc har hns hps hpl
  have HKA := Lib.hid (kindA_nat xk)
  have hk256 := xk.toNat_lt; have hn256 := xn.toNat_lt; have hf256 := xf.toNat_lt; have hp256 := xp.toNat_lt; have hm256 := xm.toNat_lt
  have HKV : Hid (Value.int .u8 (1 + (xk.toNat : Int) % 12) = vb (kindA xk)) := by show _ = _; unfold vb; rw [HKA.out]; simp
  go_enter Tryd.func14, Tryd.ntmps14
  go_upto_region 2 with fail
  rw [HKV.out]
  have hB1 : Below w.heap.size w ((((w.alloc (.cells #[hv, kv, .slice (some ⟨g, 0, none⟩) cells.length ca, .slice (some ⟨nb, 0, none⟩) 3 3, .slice PV paths.length cp] 34)).alloc (.cells #[vb xk, vb xn, vb xf, vb xp, vb xm] 25)).alloc (.cells #[.int .u8 0, .string ⟨#[]⟩, .string ⟨#[]⟩, ns, ns, ns] 40)).alloc (.cells #[vb (kindA xk), .string ⟨#[]⟩, .string ⟨#[]⟩, ns, ns, ns] 40)) := ((((Below.refl _ _).alloc (Nat.le_refl _) _).alloc (by simp) _).alloc (by simp; omega) _).alloc (by simp; omega) _
  have hbw : Blk ((((w.alloc (.cells #[hv, kv, .slice (some ⟨g, 0, none⟩) cells.length ca, .slice (some ⟨nb, 0, none⟩) 3 3, .slice PV paths.length cp] 34)).alloc (.cells #[vb xk, vb xn, vb xf, vb xp, vb xm] 25)).alloc (.cells #[.int .u8 0, .string ⟨#[]⟩, .string ⟨#[]⟩, ns, ns, ns] 40)).alloc (.cells #[vb (kindA xk), .string ⟨#[]⟩, .string ⟨#[]⟩, ns, ns, ns] 40)) w.heap.size 34 [hv, kv, .slice (some ⟨g, 0, none⟩) cells.length ca, .slice (some ⟨nb, 0, none⟩) 3 3, .slice PV paths.length cp] := (((Blk.new w 34 _).alloc _).alloc _).alloc _
  have hbx : Blk ((((w.alloc (.cells #[hv, kv, .slice (some ⟨g, 0, none⟩) cells.length ca, .slice (some ⟨nb, 0, none⟩) 3 3, .slice PV paths.length cp] 34)).alloc (.cells #[vb xk, vb xn, vb xf, vb xp, vb xm] 25)).alloc (.cells #[.int .u8 0, .string ⟨#[]⟩, .string ⟨#[]⟩, ns, ns, ns] 40)).alloc (.cells #[vb (kindA xk), .string ⟨#[]⟩, .string ⟨#[]⟩, ns, ns, ns] 40)) (w.heap.size + 1) 25 [vb xk, vb xn, vb xf, vb xp, vb xm] := by
    have := (((Blk.new (w.alloc (.cells #[hv, kv, .slice (some ⟨g, 0, none⟩) cells.length ca, .slice (some ⟨nb, 0, none⟩) 3 3, .slice PV paths.length cp] 34)) 25 #[vb xk, vb xn, vb xf, vb xp, vb xm]).alloc (.cells #[.int .u8 0, .string ⟨#[]⟩, .string ⟨#[]⟩, ns, ns, ns] 40)).alloc (.cells #[vb (kindA xk), .string ⟨#[]⟩, .string ⟨#[]⟩, ns, ns, ns] 40))
    simpa using this
  have hbr : Blk ((((w.alloc (.cells #[hv, kv, .slice (some ⟨g, 0, none⟩) cells.length ca, .slice (some ⟨nb, 0, none⟩) 3 3, .slice PV paths.length cp] 34)).alloc (.cells #[vb xk, vb xn, vb xf, vb xp, vb xm] 25)).alloc (.cells #[.int .u8 0, .string ⟨#[]⟩, .string ⟨#[]⟩, ns, ns, ns] 40)).alloc (.cells #[vb (kindA xk), .string ⟨#[]⟩, .string ⟨#[]⟩, ns, ns, ns] 40)) (w.heap.size + 1 + 1) 40 [.int .u8 0, .string ⟨#[]⟩, .string ⟨#[]⟩, ns, ns, ns] := by
    have := ((Blk.new ((w.alloc (.cells #[hv, kv, .slice (some ⟨g, 0, none⟩) cells.length ca, .slice (some ⟨nb, 0, none⟩) 3 3, .slice PV paths.length cp] 34)).alloc (.cells #[vb xk, vb xn, vb xf, vb xp, vb xm] 25)) 40 #[.int .u8 0, .string ⟨#[]⟩, .string ⟨#[]⟩, ns, ns, ns]).alloc (.cells #[vb (kindA xk), .string ⟨#[]⟩, .string ⟨#[]⟩, ns, ns, ns] 40))
    simpa using this
  have hbq : Blk ((((w.alloc (.cells #[hv, kv, .slice (some ⟨g, 0, none⟩) cells.length ca, .slice (some ⟨nb, 0, none⟩) 3 3, .slice PV paths.length cp] 34)).alloc (.cells #[vb xk, vb xn, vb xf, vb xp, vb xm] 25)).alloc (.cells #[.int .u8 0, .string ⟨#[]⟩, .string ⟨#[]⟩, ns, ns, ns] 40)).alloc (.cells #[vb (kindA xk), .string ⟨#[]⟩, .string ⟨#[]⟩, ns, ns, ns] 40)) (w.heap.size + 1 + 1 + 1) 40 [vb (kindA xk), .string ⟨#[]⟩, .string ⟨#[]⟩, ns, ns, ns] := by
    have := Blk.new (((w.alloc (.cells #[hv, kv, .slice (some ⟨g, 0, none⟩) cells.length ca, .slice (some ⟨nb, 0, none⟩) 3 3, .slice PV paths.length cp] 34)).alloc (.cells #[vb xk, vb xn, vb xf, vb xp, vb xm] 25)).alloc (.cells #[.int .u8 0, .string ⟨#[]⟩, .string ⟨#[]⟩, ns, ns, ns] 40)) 40 #[vb (kindA xk), .string ⟨#[]⟩, .string ⟨#[]⟩, ns, ns, ns]
    simpa using this
  generalize (((w.alloc (.cells #[hv, kv, .slice (some ⟨g, 0, none⟩) cells.length ca, .slice (some ⟨nb, 0, none⟩) 3 3, .slice PV paths.length cp] 34)).alloc (.cells #[vb xk, vb xn, vb xf, vb xp, vb xm] 25)).alloc (.cells #[.int .u8 0, .string ⟨#[]⟩, .string ⟨#[]⟩, ns, ns, ns] 40)).alloc (.cells #[vb (kindA xk), .string ⟨#[]⟩, .string ⟨#[]⟩, ns, ns, ns] 40) = W1 at *
  clear HKV
  obtain ⟨jn, hjn, hjn1, hjn2⟩ := rest_nat xn.toNat 3 (by decide)
  replace hjn1 : (xn.toNat : Int) % 3 = (jn : Int) := hjn1
  replace hjn2 : Int.tmod (xn.toNat : Int) 3 = (jn : Int) := hjn2
  obtain ⟨jf, hjf, hjf1, hjf2⟩ := rest_nat xf.toNat cells.length hc0
  have e1 : (0 : Int) ≤ (jn : Int) := by omega
  have e2 : (jn : Int) < 3 := by omega
  have e3 : (0 : Int) ≤ (jf : Int) := by omega
  have e4 : (jf : Int) < (cells.length : Int) := by omega
  have e5 : ((cells.length : Int) == 0) = false := by rw [beq_eq_false_iff_ne]; omega
  have e6 : ¬ cells = [] := fun e => by rw [e] at hc0; cases hc0
  have e7 : IntKind.i64.wrap (xn.toNat : Int) = (xn.toNat : Int) := by simp [IntKind.wrap, IntKind.signed, IntKind.bits]; omega
  have e8 : IntKind.i64.wrap (xf.toNat : Int) = (xf.toNat : Int) := by simp [IntKind.wrap, IntKind.signed, IntKind.bits]; omega
  have e9 : IntKind.i64.wrap (jn : Int) = (jn : Int) := by simp [IntKind.wrap, IntKind.signed, IntKind.bits]; omega
  have e10 : IntKind.i64.wrap (jf : Int) = (jf : Int) := by simp [IntKind.wrap, IntKind.signed, IntKind.bits]; omega
  have hnbw : nb < w.heap.size := by
    obtain ⟨b, o, e, hh⟩ := HNS.out (by decide)
    injection e with e; injection e with e
    subst e; exact block_of_cell (hh 0 (by decide))
  have hgw : g < w.heap.size := block_of_cell (HC.out 0 hc0)
  have HNM : Hid (∃ nm : List UInt8, w.cell? ⟨nb, jn, none⟩ = some (vs nm) ∧ nm.length ≤ 100) := by
    obtain ⟨b, o, e, hh⟩ := HNS.out (by decide)
    injection e with e; injection e with e f
    subst e f
    have h3 : jn < names3.length := hjn
    have := hh jn h3
    rw [Nat.zero_add] at this
    refine ⟨names3[jn], this, ?_⟩
    have : ∀ j, j < 3 → (names3.getD j []).length ≤ 100 := by decide
    have := this jn hjn
    rwa [List.getD_eq_getElem?_getD, List.getElem?_eq_getElem h3] at this
  obtain ⟨nm, hnm, hnml⟩ := HNM.out
  obtain ⟨a0, A0, ac, hav, hA0, hN0, hac, hal, -⟩ := HAR.out cells[jf] (List.getElem_mem hjf)
  have hcf := HC.out jf hjf
  rw [hav] at hcf
  have q0 := hbw.cell 3; have q1 := hbx.cell 1; have q3 := hbw.cell 2; have q4 := hbx.cell 2
  simp only [List.getElem?_cons_zero, List.getElem?_cons_succ] at q0 q1 q3 q4
  have q2 : W1.cell? ⟨nb, jn, none⟩ = some (vs nm) := by rw [hB1.cell (p := ⟨nb, jn, none⟩) hnbw]; exact hnm
  have q5 : W1.cell? ⟨g, jf, none⟩ = some (.slice A0 a0.length ac) := by rw [hB1.cell (p := ⟨g, jf, none⟩) hgw]; exact hcf
  have HA0 := Lib.hid hA0; have HN0 := Lib.hid hN0; have HNML := Lib.hid hnml
  have HBQ := Lib.hid hbq; have HBW := Lib.hid hbw; have HBX := Lib.hid hbx; have HBR := Lib.hid hbr; have HB1 := Lib.hid hB1
  clear HNM hnm hcf hav hA0 hN0 hnml hbq hbw hbx hbr hB1
  go_region_held3 (fun w' => w'.cell? ⟨w.heap.size, 3, none⟩ = some (.slice (some ⟨nb, 0, none⟩) 3 3) ∧ w'.cell? ⟨w.heap.size + 1, 1, none⟩ = some (vb xn) ∧ w'.cell? ⟨nb, jn, none⟩ = some (vs nm) ∧ w'.cell? ⟨w.heap.size, 2, none⟩ = some (.slice (some ⟨g, 0, none⟩) cells.length ca) ∧ w'.cell? ⟨w.heap.size + 1, 2, none⟩ = some (vb xf) ∧ w'.cell? ⟨g, jf, none⟩ = some (.slice A0 a0.length ac)) (go_keep) (fail)
  have hB2 : Below w.heap.size w W1.drew := HB1.out.drew
  have hbw2 : Blk W1.drew w.heap.size 34 [hv, kv, .slice (some ⟨g, 0, none⟩) cells.length ca, .slice (some ⟨nb, 0, none⟩) 3 3, .slice PV paths.length cp] := HBW.out
  have hbx2 : Blk W1.drew (w.heap.size + 1) 25 [vb xk, vb xn, vb xf, vb xp, vb xm] := HBX.out
  have hbr2 : Blk W1.drew (w.heap.size + 1 + 1) 40 [.int .u8 0, .string ⟨#[]⟩, .string ⟨#[]⟩, ns, ns, ns] := HBR.out
  have hbq2 : Blk W1.drew (w.heap.size + 1 + 1 + 1) 40 [vb (kindA xk), .string ⟨#[]⟩, .string ⟨#[]⟩, ns, ns, ns] := HBQ.out
  clear HBQ HBW HBX HBR HB1 q0 q1 q2 q3 q4 q5 hjn1 hjn2 hjf1 hjf2 e1 e2 e3 e4 e5 e6 e7 e8 e9 e10 hjn hjf
  generalize W1.drew = W2 at *
  have HBQ := Lib.hid hbq2; have HBW := Lib.hid hbw2; have HBX := Lib.hid hbx2; have HBR := Lib.hid hbr2; have HB2 := Lib.hid hB2
  have x1 := hbx2.cell 1; have x2 := hbx2.cell 2
  simp only [List.getElem?_cons_zero, List.getElem?_cons_succ] at x1 x2
  clear hB2 hbw2 hbx2 hbr2 hbq2
  generalize kindA xk = kb at *
  have hkb := HKA.out
  go_upto_if 39 with fail
  go_cut [6] from 39 (fun s6 wx => Hid (∃ nm : List UInt8, s6 = vs nm ∧ nm.length ≤ 100) ∧ W2 = wx)
  case first =>
    by_cases hc : 250 ≤ xn.toNat
    · have hc' : (250 : Int) ≤ (xn.toNat : Int) := by omega
      go_wp2_with fail
      go_meet
      exact ⟨⟨[46, 110, 111], rfl, by decide⟩, rfl⟩
    · have hc' : ¬ (250 : Int) ≤ (xn.toNat : Int) := by omega
      go_wp2_with fail
      go_meet
      exact ⟨⟨nm, rfl, HNML.out⟩, rfl⟩
  obtain ⟨HN6, rfl⟩ := hcut
  obtain ⟨nm', rfl, hnm'⟩ := HN6.out
  have HNM := Lib.hid hnm'
  clear HN6 hnm' HNML
  go_upto_if 42 with fail
  go_cut [7] from 42 (fun s7 wx => Hid (∃ (A : Option Addr) (a : List UInt8) (c : Nat), s7 = .slice A a.length c ∧ SrcIs w A a ∧ a.length ≤ 80000 ∧ (A = none → c = 0) ∧ a.length ≤ c) ∧ W2 = wx)
  case first =>
    by_cases hc : 250 ≤ xf.toNat
    · have hc' : (250 : Int) ≤ (xf.toNat : Int) := by omega
      obtain ⟨m, hm⟩ : ∃ m : Nat, m = a0.length / 2 := ⟨_, rfl⟩
      have hm1 : (a0.length : Int) / 2 = (m : Int) := by omega
      have hm2 : m ≤ a0.length := by omega
      have hm3 : (m : Int) ≤ (ac : Int) := by omega
      clear hm
      cases A0 with
      | none =>
        have hac0 := HN0.out rfl
        subst hac0
        go_wp2_with fail
        go_meet
        exact ⟨⟨none, a0.take m, 0, by rw [List.length_take, Nat.min_eq_left hm2], fun h0 => absurd h0 (by rw [List.length_take]; omega), by rw [List.length_take]; omega, fun _ => rfl, by rw [List.length_take]; omega⟩, rfl⟩
      | some ad =>
        go_wp2_with fail
        go_meet
        refine ⟨⟨some ad, a0.take m, ac, by rw [List.length_take, Nat.min_eq_left hm2], fun h0 => ?_, by rw [List.length_take]; omega, (fun h => by cases h), by rw [List.length_take]; omega⟩, rfl⟩
        obtain ⟨b, o, e, hb⟩ := HA0.out (by rw [List.length_take] at h0; omega)
        exact ⟨b, o, e, hb.take m⟩
    · have hc' : ¬ (250 : Int) ≤ (xf.toNat : Int) := by omega
      go_wp2_with fail
      go_meet
      exact ⟨⟨A0, a0, ac, rfl, HA0.out, hal, HN0.out, hac⟩, rfl⟩
  obtain ⟨HA7, rfl⟩ := hcut
  obtain ⟨A1, a1, c1, rfl, hA1, hal1, hN1, hac1⟩ := HA7.out
  have HA1 := Lib.hid hA1; have HN1 := Lib.hid hN1
  clear HA7 hA1 hN1 HA0 HN0 hac hal
  have hk1 : ((kb.toNat : Int) == 1) = false := by rw [beq_eq_false_iff_ne]; omega
  have hk7 : ((kb.toNat : Int) == 7) = true := by rw [beq_iff_eq]; omega
  have hkb7 : Hid (kb.toNat = 7) := by show _ = _; omega
  clear hkb
  obtain ⟨q, hq⟩ : ∃ q, w.heap.size + 1 + 1 + 1 = q := ⟨_, rfl⟩
  have HQ := Lib.hid hq
  have hqw : w.heap.size + 1 + 1 < q := by omega
  rw [hq] at HBQ
  rw [hq]
  have hs2 : q < W2.heap.size := Blk.lt HBQ.out
  have z0 := HBQ.out.cell 0
  simp only [List.getElem?_cons_zero] at z0
  have HX0 : Hid (OQ w W2 q kb 0 W2) := ⟨⟨[], [], ns, rfl, rfl, World.ownsRow_nil _ _ _ _, HBQ.out, (fun i hi => absurd hi (by simp)), (fun i hi => absurd hi (by simp))⟩, Below.refl _ _⟩
  clear hq x1 x2
  go_wp2_with fail
  clear z0
  go_loopw [8] (fun vv wr => ∃ k : Nat, k ≤ xm.toNat % 4 + 1 ∧ vv = .int .i64 k ∧ Hid (OQ w W2 q kb k wr)) (fun vv _ => xm.toNat % 4 + 1 - (intOf vv).toNat)
  case atStart => exact ⟨0, Nat.zero_le _, rfl, HX0.out⟩
  case round =>
    clear HX0
    obtain ⟨k, hk, rfl, HXX⟩ := hrel
    rename World => W0
    obtain ⟨acc, cells', v0, hacc, hcl, hown, hbox, hD, hG⟩ := HXX.out.ex
    obtain ⟨O1, oc, hv1⟩ := own_form hown
    subst hv1
    have HBE := Lib.hid HXX.out.below
    have HACC := Lib.hid hacc; have HCL := Lib.hid hcl; have HOWN := Lib.hid hown; have HBOX := Lib.hid hbox; have HDD := Lib.hid hD; have HG := Lib.hid hG
    have hqW : q < W0.heap.size := Blk.lt hbox
    have HW0 : Hid (W2.heap.size ≤ W0.heap.size) := HXX.out.below.size
    have HROW : Hid (∀ c, (Value.slice O1 k oc).ownBlock = some c → q + 1 ≤ c ∧ c < W0.heap.size) := fun c hc => hown.lt c hc
    clear HXX hacc hcl hown hbox hD hG
    have hxq : w.heap.size + 1 < q := by omega
    have HX4 : Hid (Blk W0 (w.heap.size + 1) 25 [vb xk, vb xn, vb xf, vb xp, vb xm]) := Blk.below HBX.out HBE.out hxq
    have x4 := HX4.out.cell 4
    simp only [List.getElem?_cons_zero, List.getElem?_cons_succ] at x4
    by_cases hlt : k ≤ xm.toNat % 4
    · have hlt' : (k : Int) ≤ (xm.toNat : Int) % 4 := by omega
      have hk3 : k ≤ 3 := by omega
      go_upto_region 13 with fail
      obtain ⟨jn', hjn', hjn1, hjn2⟩ := rest_nat (xn.toNat + k) 3 (by decide)
      rw [Int.natCast_add] at hjn1 hjn2
      replace hjn1 : ((xn.toNat : Int) + (k : Int)) % 3 = (jn' : Int) := hjn1
      replace hjn2 : Int.tmod ((xn.toNat : Int) + (k : Int)) 3 = (jn' : Int) := hjn2
      obtain ⟨jf', hjf', hjf1, hjf2⟩ := rest_nat (xf.toNat + k) cells.length hc0
      rw [Int.natCast_add] at hjf1 hjf2
      obtain ⟨r3, hr3, hr31, hr32⟩ := rest_nat (xm.toNat / 16) 3 (by decide)
      have hdv : (xm.toNat : Int) / 16 = ((xm.toNat / 16 : Nat) : Int) := by omega
      have hdt : Int.tdiv (xm.toNat : Int) 16 = ((xm.toNat / 16 : Nat) : Int) := by rw [Int.tdiv_eq_ediv_of_nonneg (by omega)]; exact hdv
      replace hr31 : ((xm.toNat / 16 : Nat) : Int) % 3 = (r3 : Int) := hr31
      replace hr32 : Int.tmod ((xm.toNat / 16 : Nat) : Int) 3 = (r3 : Int) := hr32
      have hm16 : xm.toNat / 16 < 16 := by omega
      generalize xm.toNat / 16 = d16 at *
      have e1 : (0 : Int) ≤ (jn' : Int) := by omega
      have e2 : (jn' : Int) < 3 := by omega
      have e3 : (0 : Int) ≤ (jf' : Int) := by omega
      have e4 : (jf' : Int) < (cells.length : Int) := by omega
      have e5 : ((cells.length : Int) == 0) = false := by rw [beq_eq_false_iff_ne]; omega
      have e6 : ¬ cells = [] := fun e => by rw [e] at hc0; cases hc0
      have e7 : IntKind.i64.wrap (xn.toNat : Int) = (xn.toNat : Int) := by simp [IntKind.wrap, IntKind.signed, IntKind.bits]; omega
      have e8 : IntKind.i64.wrap (xf.toNat : Int) = (xf.toNat : Int) := by simp [IntKind.wrap, IntKind.signed, IntKind.bits]; omega
      have e9 : IntKind.i64.wrap (jn' : Int) = (jn' : Int) := by simp [IntKind.wrap, IntKind.signed, IntKind.bits]; omega
      have e10 : IntKind.i64.wrap (jf' : Int) = (jf' : Int) := by simp [IntKind.wrap, IntKind.signed, IntKind.bits]; omega
      have e11 : IntKind.i64.wrap ((xn.toNat : Int) + (k : Int)) = (xn.toNat : Int) + (k : Int) := by simp [IntKind.wrap, IntKind.signed, IntKind.bits]; omega
      have e12 : IntKind.i64.wrap ((xf.toNat : Int) + (k : Int)) = (xf.toNat : Int) + (k : Int) := by simp [IntKind.wrap, IntKind.signed, IntKind.bits]; omega
      have e13 : IntKind.i64.wrap (xp.toNat : Int) = (xp.toNat : Int) := by simp [IntKind.wrap, IntKind.signed, IntKind.bits]; omega
      have e14 : IntKind.i64.wrap (r3 : Int) = (r3 : Int) := by simp [IntKind.wrap, IntKind.signed, IntKind.bits]; omega
      have e15 : IntKind.u8.wrap (r3 : Int) = (r3 : Int) := by simp [IntKind.wrap, IntKind.signed, IntKind.bits]; omega
      have e16 : IntKind.u8.wrap (d16 : Int) = (d16 : Int) := by simp [IntKind.wrap, IntKind.signed, IntKind.bits]; omega
      have hnbw' : nb < w.heap.size := hnbw
      have hNM : ∃ nmi : List UInt8, w.cell? ⟨nb, jn', none⟩ = some (vs nmi) ∧ nmi.length ≤ 100 := by
        obtain ⟨b, o, e, hh⟩ := HNS.out (by decide)
        injection e with e; injection e with e f
        subst e f
        have h3 : jn' < names3.length := hjn'
        have := hh jn' h3
        rw [Nat.zero_add] at this
        refine ⟨names3[jn'], this, ?_⟩
        have : ∀ j, j < 3 → (names3.getD j []).length ≤ 100 := by decide
        have := this jn' hjn'
        rwa [List.getD_eq_getElem?_getD, List.getElem?_eq_getElem h3] at this
      obtain ⟨nmi, hnmi, hnmil⟩ := hNM
      obtain ⟨ai, Ai, ci, hai, hAi, hNi, -, hail, -⟩ := HAR.out cells[jf'] (List.getElem_mem hjf')
      have hcf := HC.out jf' hjf'
      rw [hai] at hcf
      have HS : Hid (∀ W, Below q W2 W → W.cell? ⟨w.heap.size, 0, none⟩ = some hv ∧ W.cell? ⟨w.heap.size, 1, none⟩ = some kv ∧ W.cell? ⟨w.heap.size, 2, none⟩ = some (.slice (some ⟨g, 0, none⟩) cells.length ca) ∧ W.cell? ⟨w.heap.size, 3, none⟩ = some (.slice (some ⟨nb, 0, none⟩) 3 3) ∧ W.cell? ⟨w.heap.size, 4, none⟩ = some (.slice PV paths.length cp) ∧ W.cell? ⟨w.heap.size + 1, 1, none⟩ = some (vb xn) ∧ W.cell? ⟨w.heap.size + 1, 2, none⟩ = some (vb xf) ∧ W.cell? ⟨w.heap.size + 1, 3, none⟩ = some (vb xp) ∧ W.cell? ⟨w.heap.size + 1, 4, none⟩ = some (vb xm) ∧ W.cell? ⟨nb, jn', none⟩ = some (vs nmi) ∧ W.cell? ⟨g, jf', none⟩ = some (.slice Ai ai.length ci)) := fun W hW => by
        have b34 : Blk W w.heap.size 34 _ := Blk.below HBW.out hW (by omega)
        have b25 : Blk W (w.heap.size + 1) 25 _ := Blk.below HBX.out hW (by omega)
        have c0 := b34.cell 0; have c1 := b34.cell 1; have c2 := b34.cell 2; have c3 := b34.cell 3; have c4 := b34.cell 4
        have d1 := b25.cell 1; have d2 := b25.cell 2; have d3 := b25.cell 3; have d4 := b25.cell 4
        simp only [List.getElem?_cons_zero, List.getElem?_cons_succ] at c0 c1 c2 c3 c4 d1 d2 d3 d4
        have hBw : Below w.heap.size w W := HB2.out.trans (hW.mono (by omega))
        exact ⟨c0, c1, c2, c3, c4, d1, d2, d3, d4, by rw [hBw.cell (p := ⟨nb, jn', none⟩) hnbw]; exact hnmi, by rw [hBw.cell (p := ⟨g, jf', none⟩) hgw]; exact hcf⟩
      have HSM : Hid (∀ W, Below q W2 W → Calls Tryd.prog 37 #[.agg #[hv, kv, .slice (some ⟨g, 0, none⟩) cells.length ca, .slice (some ⟨nb, 0, none⟩) 3 3, .slice PV paths.length cp], .int .i64 (xp.toNat : Int), .int .i64 (r3 : Int)] W fun e w' => ∃ (l : List (List UInt8)) (v' : Value), e = .returned v' ∧ l.length ≤ r3 ∧ (∀ x ∈ l, x.length ≤ 100) ∧ w'.ownsRow (W.heap.size + 1) 9 1 v' l.length (l.map vs) ∧ Below W.heap.size W w') := fun W hW =>
        some_any _ xp.toNat r3 (by omega) (by omega) W (HWI.out.below (HB2.out.trans (hW.mono (by omega))))
      have hbA : Below q W2 W0.drew := HBE.out.drew
      have hbB : Below q W2 (W0.alloc (.cells #[.string ⟨#[]⟩, ns, ns, ns] 57)).drew := (HBE.out.alloc (by omega) _).drew
      have k1 := HS.out _ hbA
      have k2 := HS.out _ hbB
      have HBN : Hid (Blk (W0.alloc (.cells #[.string ⟨#[]⟩, ns, ns, ns] 57)).drew W0.heap.size 57 [.string ⟨#[]⟩, ns, ns, ns]) := Blk.new W0 57 _
      have HBA := Lib.hid hbA; have HBB := Lib.hid hbB
      have HGA : Hid (nmi.length ≤ 100 ∧ SrcIs w Ai ai ∧ ai.length ≤ 80000) := ⟨hnmil, hAi, hail⟩
      clear hbA hbB hnmi hnmil hAi hNi hail hcf hai x4 hdv hm16
      go_cut [9] from 63 to 136 (fun s9 wx => Hid (OBn w W0 k s9 wx))
      case first =>
        go_region_held3 (fun W => W.cell? ⟨w.heap.size, 0, none⟩ = some hv ∧ W.cell? ⟨w.heap.size, 1, none⟩ = some kv ∧ W.cell? ⟨w.heap.size, 2, none⟩ = some (.slice (some ⟨g, 0, none⟩) cells.length ca) ∧ W.cell? ⟨w.heap.size, 3, none⟩ = some (.slice (some ⟨nb, 0, none⟩) 3 3) ∧ W.cell? ⟨w.heap.size, 4, none⟩ = some (.slice PV paths.length cp) ∧ W.cell? ⟨w.heap.size + 1, 1, none⟩ = some (vb xn) ∧ W.cell? ⟨w.heap.size + 1, 2, none⟩ = some (vb xf) ∧ W.cell? ⟨w.heap.size + 1, 3, none⟩ = some (vb xp) ∧ W.cell? ⟨w.heap.size + 1, 4, none⟩ = some (vb xm) ∧ W.cell? ⟨nb, jn', none⟩ = some (vs nmi) ∧ W.cell? ⟨g, jf', none⟩ = some (.slice Ai ai.length ci))
          (first | with_reducible exact k1 | with_reducible exact k2 | with_reducible exact k3 | with_reducible exact k4 | with_reducible exact k5)
          (first
            | (go_at_call 37
               with_reducible refine (HSM.out _ HBA.out).mono ?_
               rintro e w4 ⟨l, v4, rfl, hll, hlx, hown4, hb4⟩
               obtain ⟨R, rc, rfl, hR, hRr⟩ := own_strs hown4
               have HX4 : Hid (Below W0.heap.size W0 w4) := ((Below.refl _ _).drew).trans hb4
               have HR4 := Lib.hid hR; have HRR := Lib.hid hRr; have HLL := Lib.hid hll; have HLX := Lib.hid hlx
               have k3 := HS.out w4 (HBE.out.trans (HX4.out.mono (by omega)))
               have hs4 : W0.heap.size ≤ w4.heap.size := HX4.out.size
               have hb4' : Below q W2 w4 := HBE.out.trans (HX4.out.mono (by omega))
               have k4 := HS.out (w4.alloc (.cells #[.string ⟨#[]⟩, ns, ns, ns] 57)) (hb4'.alloc (by omega) _)
               have k5 := HS.out (w4.alloc (.cells #[vs nmi, .slice Ai ai.length ci, .slice R l.length rc, ns] 57)) (hb4'.alloc (by omega) _)
               have HBOX5 : Hid (Blk (w4.alloc (.cells #[vs nmi, .slice Ai ai.length ci, .slice R l.length rc, ns] 57)) w4.heap.size 57 [vs nmi, .slice Ai ai.length ci, .slice R l.length rc, ns]) := Blk.new w4 57 _
               have HOB4 : Hid (OBn w W0 k (.pointer (some ⟨w4.heap.size, 0, none⟩)) (w4.alloc (.cells #[vs nmi, .slice Ai ai.length ci, .slice R l.length rc, ns] 57))) := by
                 have hal : Below w4.heap.size w4 (w4.alloc (.cells #[vs nmi, .slice Ai ai.length ci, .slice R l.length rc, ns] 57)) := (Below.refl _ _).alloc (Nat.le_refl _) _
                 exact ⟨w4.heap.size, nmi, ai, l, Ai, R, ci, rc, rfl, ⟨hs4, HBOX5.out, ⟨HGA.out.1, HGA.out.2.2, ⟨by have := HLL.out; simp only; omega, HLX.out⟩, by simp, fun z hz => by cases hz⟩, HGA.out.2.1, HR4.out.belowS hal, NeedsAt.nil _ _, fun x hx => ⟨by have := (HRR.out x hx).1; simp at this; omega, by have := (HRR.out x hx).2; simp; omega, by have := (HRR.out x hx).2; omega⟩, (fun x hx => by cases hx), HX4.out.alloc hs4 _⟩⟩
               clear hs4 hb4'
               clear hown4 hb4 hR hRr hll hlx)
            | (go_at_call 37
               with_reducible refine (HSM.out _ HBB.out).mono ?_
               rintro e w4 ⟨l, v4, rfl, hll, hlx, hown4, hb4⟩
               obtain ⟨R, rc, rfl, hR, hRr⟩ := own_strs hown4
               have HX4 : Hid (Below W0.heap.size W0 w4) := (((Below.refl _ _).alloc (Nat.le_refl _) _).drew).trans (hb4.mono (by simp))
               have HOB4 : Hid (Blk w4 W0.heap.size 57 [.string ⟨#[]⟩, ns, ns, ns]) := Blk.below HBN.out hb4 (by simp)
               have HR4 := Lib.hid hR; have HRR := Lib.hid hRr; have HLL := Lib.hid hll; have HLX := Lib.hid hlx
               have hs4 : W0.heap.size ≤ w4.heap.size := HX4.out.size
               have hb4' : Below q W2 w4 := HBE.out.trans (HX4.out.mono (by omega))
               have k3 := HS.out w4 hb4'
               have k5 := HS.out ((((w4.setCell ⟨W0.heap.size, 0, none⟩ (vs nmi)).setCell ⟨W0.heap.size, 1, none⟩ (.slice Ai ai.length ci)).setCell ⟨W0.heap.size, 2, none⟩ (.slice R l.length rc)).setCell ⟨W0.heap.size, 3, none⟩ ns) ((((hb4'.setCell (by simp only; omega) _).setCell (by simp only; omega) _).setCell (by simp only; omega) _).setCell (by simp only; omega) _)
               have HOB5 : Hid (OBn w W0 k (.pointer (some ⟨W0.heap.size, 0, none⟩)) ((((w4.setCell ⟨W0.heap.size, 0, none⟩ (vs nmi)).setCell ⟨W0.heap.size, 1, none⟩ (.slice Ai ai.length ci)).setCell ⟨W0.heap.size, 2, none⟩ (.slice R l.length rc)).setCell ⟨W0.heap.size, 3, none⟩ ns)) := by
                 have hbk : Blk ((((w4.setCell ⟨W0.heap.size, 0, none⟩ (vs nmi)).setCell ⟨W0.heap.size, 1, none⟩ (.slice Ai ai.length ci)).setCell ⟨W0.heap.size, 2, none⟩ (.slice R l.length rc)).setCell ⟨W0.heap.size, 3, none⟩ ns) W0.heap.size 57 [vs nmi, .slice Ai ai.length ci, .slice R l.length rc, ns] := by
                   have := (((HOB4.out.set 0 (vs nmi)).set 1 (.slice Ai ai.length ci)).set 2 (.slice R l.length rc)).set 3 ns
                   simpa using this
                 refine ⟨W0.heap.size, nmi, ai, l, Ai, R, ci, rc, rfl, ⟨Nat.le_refl _, hbk, ⟨HGA.out.1, HGA.out.2.2, ⟨by have := HLL.out; simp only; omega, HLX.out⟩, by simp, fun z hz => by cases hz⟩, HGA.out.2.1, HR4.out.sameAt (fun x hx => ?_), NeedsAt.nil _ _, fun x hx => ?_, (fun x hx => by cases hx), (((HX4.out.setCell (by simp only; omega) _).setCell (by simp only; omega) _).setCell (by simp only; omega) _).setCell (by simp only; omega) _⟩⟩
                 · have := (HRR.out x hx).1
                   simp at this
                   rw [Below.heap_setCell _ ⟨W0.heap.size, 3, none⟩ _ _ (by simp only; omega), Below.heap_setCell _ ⟨W0.heap.size, 2, none⟩ _ _ (by simp only; omega), Below.heap_setCell _ ⟨W0.heap.size, 1, none⟩ _ _ (by simp only; omega), Below.heap_setCell _ ⟨W0.heap.size, 0, none⟩ _ _ (by simp only; omega)]
                 · have h1 := (HRR.out x hx).1
                   have h2 := (HRR.out x hx).2
                   simp at h1
                   exact ⟨by omega, by simp; omega, by omega⟩
               have f0 := HOB4.out.frozen 0; have f1 := HOB4.out.frozen 1; have f2 := HOB4.out.frozen 2; have f3 := HOB4.out.frozen 3
               have c0 := HOB4.out.cell 0; have c1 := HOB4.out.cell 1; have c2 := HOB4.out.cell 2; have c3 := HOB4.out.cell 3
               simp only [List.getElem?_cons_zero, List.getElem?_cons_succ] at c0 c1 c2 c3
               clear hs4 hb4' hown4 hb4 hR hRr hll hlx)
            | fail)
        · go_wp2_with fail
          go_meet
          exact HOB4.out
        · go_wp2_with fail
          go_meet
          exact HOB5.out
      obtain ⟨ob, nmo, ao, lo, Ao, Ro, co, ro, rfl, hO⟩ := hcut.out
      have HO := Lib.hid hO
      rename World => W5
      have HX5 : Hid (Blk W5 (w.heap.size + 1) 25 [vb xk, vb xn, vb xf, vb xp, vb xm]) := Blk.below HX4.out hO.below (by omega)
      have x1 := HX5.out.cell 1; have x4 := HX5.out.cell 4
      simp only [List.getElem?_cons_zero, List.getElem?_cons_succ] at x1 x4
      have f1 := hO.blk.frozen 1; have f3 := hO.blk.frozen 3
      have b1 := hO.blk.cell 1; have b3 := hO.blk.cell 3
      simp only [List.getElem?_cons_zero, List.getElem?_cons_succ] at b1 b3
      have hobx : w.heap.size + 1 < ob := by have := hO.lo; omega
      have hobl : ob < W5.heap.size := Blk.lt hO.blk
      clear hcut hO HGA HSM HS HBA HBB HBN k1 k2 hjn1 hjn2 hjf1 hjf2 hr31 hr32 hdt e1 e2 e3 e4 e5 e6 e7 e8 e9 e10 e11 e12 e13 e14 e15 e16 hjn' hjf' hr3
      have hways : (k = 1 ∧ 250 ≤ xn.toNat) ∨ ¬ (k = 1 ∧ 250 ≤ xn.toNat) := Classical.em _
      have hodd : (0 < k ∧ xm.toNat / 4 % 2 = 1) ∨ ¬ (0 < k ∧ xm.toNat / 4 % 2 = 1) := Classical.em _
      rcases hways with ⟨hw1, hw2⟩ | hw
      · have c1' : ((k : Int) == 1) = true := by rw [beq_iff_eq]; omega
        have c2' : (250 : Int) ≤ (xn.toNat : Int) := by omega
        have hk0 : (0 : Int) < (k : Int) := by omega
        have hk0' : 0 < k := by omega
        clear hw1 hw2
        cases A1 with
        | none =>
          have hc10 := HN1.out rfl
          subst hc10
          rcases hodd with ⟨-, ho⟩ | ho
          · have c3' : ((xm.toNat : Int) / 4 % 2 == 1) = true := by rw [beq_iff_eq]; omega
            have HP : Hid (OBs w W0 k (.pointer (some ⟨ob, 0, none⟩)) (((W5.setCell ⟨ob, 1, none⟩ (.slice none 0 0)).setCell ⟨ob, 3, none⟩ (.slice (some ⟨W5.heap.size, 0, none⟩) 1 1)).alloc (.cells #[vi ((k : Int) - 1)] 3))) := by
              have := (HO.out.arch0 none 0).need hk0'
              rw [World.size_setCell] at this
              exact ⟨ob, _, _, _, _, _, _, _, _, _, _, rfl, this⟩
            clear HO
            go_upto_region 18 with fail
            generalize ((W5.setCell ⟨ob, 1, none⟩ (.slice none 0 0)).setCell ⟨ob, 3, none⟩ (.slice (some ⟨W5.heap.size, 0, none⟩) 1 1)).alloc (.cells #[vi ((k : Int) - 1)] 3) = W6 at *
            clear b1 b3 f1 f3 x1 x4 HX5
            obtain ⟨ob', nmF, aF, lF, msF, AF, RF, MF, cF, rF, mF, heq, hO⟩ := HP.out
            injection heq with heq
            injection heq with heq
            injection heq with heq
            subst heq
            have hbe1 := hO.below
            have hownO : W6.ownsRow (q + 1) 57 4 (.slice O1 k oc) k cells' := ownsRow_keepG HOWN.out (fun c hc => hbe1.block c (HOWN.out.lt c hc).2)
            have hbq : Blk W6 q 40 _ := Blk.below HBOX.out hbe1 hqW
            have q5 := hbq.cell 5
            have b0 := hO.blk.cell 0; have b1 := hO.blk.cell 1; have b2 := hO.blk.cell 2; have b3 := hO.blk.cell 3
            simp only [List.getElem?_cons_zero, List.getElem?_cons_succ] at q5 b0 b1 b2 b3
            have HO := Lib.hid hO; have HBQ6 := Lib.hid hbq; have HOWNO := Lib.hid hownO; have HBE1 := Lib.hid hbe1
            have hV10 : W0.heap.size < W6.heap.size := by have := hO.lo; have := Blk.lt hO.blk; omega
            clear hO hbq hownO hbe1 HP HN1 HA1
            obtain ⟨i57, hi57, hz0, hz1, hz2⟩ := info_parts info57
            have HI := Lib.hid hi57; have HZ0 := Lib.hid hz0; have HZ1 := Lib.hid hz1; have HZ2 := Lib.hid hz2
            clear hi57 hz0 hz1 hz2
            go_wp2_with (refine wpList_append_own_at _ rfl (.tmp 132) (.tmp 134) 38 rfl (q + 1) 57 i57 (.agg #[.string ⟨#[]⟩, ns, ns, ns]) 4 88 Tryd.underlying38 HI.out HZ0.out HZ1.out HZ2.out rfl (by decide) (.slice O1 k oc) k cells' rfl (HOWNO.out.alloc _) ⟨W6.heap.size, 0, none⟩ 1 1 [vs nmF, .slice AF aF.length cF, .slice RF lF.length rF, .slice MF msF.length mF] rfl rfl (new_cells W6 57 [vs nmF, .slice AF aF.length cF, .slice RF lF.length rF, .slice MF msF.length mF]) (by simp [Value.oneCell']) (by unfold maxLen; omega) (by omega) (by simp; omega) ?_)
            intro v' w' h2 hg _ h5
            obtain ⟨O4, oc4, hv4⟩ := own_form h2
            subst hv4
            have hvs : (W6.alloc (.cells #[vs nmF, .slice AF aF.length cF, .slice RF lF.length rF, .slice MF msF.length mF] 57)).heap.size = W6.heap.size + 1 := by simp
            have hbelow : Below (q + 1) W6 w' := ((Below.refl (q + 1) W6).alloc (by omega) _).grown hg (by rw [hvs]; omega) (fun c hc => (HROW.out c hc).1)
            have hsz' : W6.heap.size ≤ w'.heap.size := hbelow.size
            have hbq' : Blk w' q 40 _ := Blk.below HBQ6.out hbelow (by omega)
            have q5' := hbq'.cell 5; have g5' := hbq'.frozen 5
            simp only [List.getElem?_cons_zero, List.getElem?_cons_succ] at q5'
            have hfr : ∀ b, W0.heap.size ≤ b → b < W6.heap.size → q < b ∧ b < (w'.setCell ⟨q, 5, none⟩ (.slice O4 (k + 1) oc4)).heap.size ∧ (Value.slice O4 (k + 1) oc4).ownBlock ≠ some b := fun b hb1 hb2 => by
              refine ⟨by omega, by rw [World.size_setCell]; omega, fun e => ?_⟩
              rcases h5 with h5 | h5
              · rw [h5] at e; have := (HROW.out b e).2; omega
              · rw [h5] at e; injection e with e; omega
            have hkeep : ∀ c, q < c → c < W6.heap.size → (Value.slice O1 k oc).ownBlock ≠ some c → (w'.setCell ⟨q, 5, none⟩ (.slice O4 (k + 1) oc4)).heap[c]? = W6.heap[c]? := fun c hc1 hc2 hne => by
              rw [Below.heap_setCell w' ⟨q, 5, none⟩ _ c (by simp only; omega), hg.block c (by rw [hvs]; omega) (fun e => hne e.symm), Below.heap_alloc W6 _ c hc2]
            have hsame : ∀ b, W0.heap.size ≤ b → b < W6.heap.size → (w'.setCell ⟨q, 5, none⟩ (.slice O4 (k + 1) oc4)).heap[b]? = W6.heap[b]? := fun b hb1 hb2 => hkeep b (by omega) hb2 (fun e => by have := (HROW.out b e).2; omega)
            have hKEEP : Keep q (.slice O1 k oc) (.slice O4 (k + 1) oc4) W0 (w'.setCell ⟨q, 5, none⟩ (.slice O4 (k + 1) oc4)) := by
              refine ⟨by rw [World.size_setCell]; omega, fun c hc1 hc2 hne => ?_, fun c hc => ?_⟩
              · rw [hkeep c hc1 (by omega) hne]; exact HBE1.out.block c hc2
              · rcases h5 with h5 | h5
                · exact .inl (by rw [← h5]; exact hc)
                · rw [h5] at hc; injection hc with hc; exact .inr (by omega)
            have hcne : ∀ c, (Value.slice O4 (k + 1) oc4).ownBlock = some c → (w'.setCell ⟨q, 5, none⟩ (.slice O4 (k + 1) oc4)).heap[c]? = w'.heap[c]? := fun c hc => Below.heap_setCell w' ⟨q, 5, none⟩ _ c (by have := (h2.lt c hc).1; simp only; omega)
            have HX9 : Hid (OQ w W2 q kb (k + 1) (w'.setCell ⟨q, 5, none⟩ (.slice O4 (k + 1) oc4))) := by
              refine ⟨⟨acc ++ [⟨nmF, aF, lF, msF⟩], cells' ++ [vs nmF, .slice AF aF.length cF, .slice RF lF.length rF, .slice MF msF.length mF], .slice O4 (k + 1) oc4, by simp [HACC.out], by rw [List.length_append, HCL.out]; simp; omega, ownsRow_keepG h2 hcne, ?_, ?_, ?_⟩, ?_⟩
              · have := hbq'.set 5 (.slice O4 (k + 1) oc4)
                simpa using this
              · intro i' hi'
                by_cases hik : i' < acc.length
                · rw [List.getElem_append_left hik]
                  exact ((HDD.out i' hik).keep hKEEP).app _
                · have hik2 : i' = acc.length := by simp at hi'; omega
                  subst hik2
                  rw [List.getElem_append_right (Nat.le_refl _)]
                  simp only [Nat.sub_self, List.getElem_cons_zero]
                  have hcl2 : cells'.length = acc.length * 4 := by rw [HCL.out, HACC.out]
                  refine ⟨AF, cF, RF, rF, MF, mF, ?_, ?_, ?_, ?_, HO.out.src, HO.out.refs.sameAt (fun a ha => hsame _ (HO.out.dr a ha).1 (HO.out.dr a ha).2.1), HO.out.needs.sameAt (fun a ha => hsame _ (HO.out.dm a ha).1 (HO.out.dm a ha).2.1), fun a ha => hfr _ (HO.out.dr a ha).1 (HO.out.dr a ha).2.1, fun a ha => hfr _ (HO.out.dm a ha).1 (HO.out.dm a ha).2.1⟩
                  · rw [List.getElem?_append_right (by omega), hcl2, Nat.sub_self]; rfl
                  · rw [List.getElem?_append_right (by omega), hcl2, show acc.length * 4 + 1 - acc.length * 4 = 1 by omega]; rfl
                  · rw [List.getElem?_append_right (by omega), hcl2, show acc.length * 4 + 2 - acc.length * 4 = 2 by omega]; rfl
                  · rw [List.getElem?_append_right (by omega), hcl2, show acc.length * 4 + 3 - acc.length * 4 = 3 by omega]; rfl
              · intro i' hi'
                by_cases hik : i' < acc.length
                · rw [List.getElem_append_left hik]; exact HG.out i' hik
                · have hik2 : i' = acc.length := by simp at hi'; omega
                  subst hik2
                  rw [List.getElem_append_right (Nat.le_refl _)]
                  simp only [Nat.sub_self, List.getElem_cons_zero]
                  have := HO.out.good
                  rw [← HACC.out] at this
                  exact this
              · exact ((HBE.out.trans (HBE1.out.mono (by omega))).trans (hbelow.mono (by omega))).setCell (by simp only; omega) _
            clear h2 hg h5 hvs hbelow hbq' hfr hkeep hsame hKEEP hcne HBQ6 HOWNO HBE1 q5 b0 b1 b2 b3 HDD HO
            go_wp2_with fail
            go_roundw
            case rel => first | exact ⟨k + 1, by omega, by go_num, HX9.out⟩ | ((repeat apply Exists.intro); exact ⟨⟨k + 1, by omega, by go_num, HX9.out⟩, rfl⟩)
            case measure => simp [intOf]; omega
          · have c3' : ((xm.toNat : Int) / 4 % 2 == 1) = false := by rw [beq_eq_false_iff_ne]; omega
            have HP : Hid (OBs w W0 k (.pointer (some ⟨ob, 0, none⟩)) (W5.setCell ⟨ob, 1, none⟩ (.slice none 0 0))) := ⟨ob, _, _, _, _, _, _, _, _, _, _, rfl, HO.out.arch0 none 0⟩
            clear HO
            go_upto_region 18 with fail
            generalize W5.setCell ⟨ob, 1, none⟩ (.slice none 0 0) = W6 at *
            clear b1 b3 f1 f3 x1 x4 HX5
            obtain ⟨ob', nmF, aF, lF, msF, AF, RF, MF, cF, rF, mF, heq, hO⟩ := HP.out
            injection heq with heq
            injection heq with heq
            injection heq with heq
            subst heq
            have hbe1 := hO.below
            have hownO : W6.ownsRow (q + 1) 57 4 (.slice O1 k oc) k cells' := ownsRow_keepG HOWN.out (fun c hc => hbe1.block c (HOWN.out.lt c hc).2)
            have hbq : Blk W6 q 40 _ := Blk.below HBOX.out hbe1 hqW
            have q5 := hbq.cell 5
            have b0 := hO.blk.cell 0; have b1 := hO.blk.cell 1; have b2 := hO.blk.cell 2; have b3 := hO.blk.cell 3
            simp only [List.getElem?_cons_zero, List.getElem?_cons_succ] at q5 b0 b1 b2 b3
            have HO := Lib.hid hO; have HBQ6 := Lib.hid hbq; have HOWNO := Lib.hid hownO; have HBE1 := Lib.hid hbe1
            have hV10 : W0.heap.size < W6.heap.size := by have := hO.lo; have := Blk.lt hO.blk; omega
            clear hO hbq hownO hbe1 HP HN1 HA1
            obtain ⟨i57, hi57, hz0, hz1, hz2⟩ := info_parts info57
            have HI := Lib.hid hi57; have HZ0 := Lib.hid hz0; have HZ1 := Lib.hid hz1; have HZ2 := Lib.hid hz2
            clear hi57 hz0 hz1 hz2
            go_wp2_with (refine wpList_append_own_at _ rfl (.tmp 132) (.tmp 134) 38 rfl (q + 1) 57 i57 (.agg #[.string ⟨#[]⟩, ns, ns, ns]) 4 88 Tryd.underlying38 HI.out HZ0.out HZ1.out HZ2.out rfl (by decide) (.slice O1 k oc) k cells' rfl (HOWNO.out.alloc _) ⟨W6.heap.size, 0, none⟩ 1 1 [vs nmF, .slice AF aF.length cF, .slice RF lF.length rF, .slice MF msF.length mF] rfl rfl (new_cells W6 57 [vs nmF, .slice AF aF.length cF, .slice RF lF.length rF, .slice MF msF.length mF]) (by simp [Value.oneCell']) (by unfold maxLen; omega) (by omega) (by simp; omega) ?_)
            intro v' w' h2 hg _ h5
            obtain ⟨O4, oc4, hv4⟩ := own_form h2
            subst hv4
            have hvs : (W6.alloc (.cells #[vs nmF, .slice AF aF.length cF, .slice RF lF.length rF, .slice MF msF.length mF] 57)).heap.size = W6.heap.size + 1 := by simp
            have hbelow : Below (q + 1) W6 w' := ((Below.refl (q + 1) W6).alloc (by omega) _).grown hg (by rw [hvs]; omega) (fun c hc => (HROW.out c hc).1)
            have hsz' : W6.heap.size ≤ w'.heap.size := hbelow.size
            have hbq' : Blk w' q 40 _ := Blk.below HBQ6.out hbelow (by omega)
            have q5' := hbq'.cell 5; have g5' := hbq'.frozen 5
            simp only [List.getElem?_cons_zero, List.getElem?_cons_succ] at q5'
            have hfr : ∀ b, W0.heap.size ≤ b → b < W6.heap.size → q < b ∧ b < (w'.setCell ⟨q, 5, none⟩ (.slice O4 (k + 1) oc4)).heap.size ∧ (Value.slice O4 (k + 1) oc4).ownBlock ≠ some b := fun b hb1 hb2 => by
              refine ⟨by omega, by rw [World.size_setCell]; omega, fun e => ?_⟩
              rcases h5 with h5 | h5
              · rw [h5] at e; have := (HROW.out b e).2; omega
              · rw [h5] at e; injection e with e; omega
            have hkeep : ∀ c, q < c → c < W6.heap.size → (Value.slice O1 k oc).ownBlock ≠ some c → (w'.setCell ⟨q, 5, none⟩ (.slice O4 (k + 1) oc4)).heap[c]? = W6.heap[c]? := fun c hc1 hc2 hne => by
              rw [Below.heap_setCell w' ⟨q, 5, none⟩ _ c (by simp only; omega), hg.block c (by rw [hvs]; omega) (fun e => hne e.symm), Below.heap_alloc W6 _ c hc2]
            have hsame : ∀ b, W0.heap.size ≤ b → b < W6.heap.size → (w'.setCell ⟨q, 5, none⟩ (.slice O4 (k + 1) oc4)).heap[b]? = W6.heap[b]? := fun b hb1 hb2 => hkeep b (by omega) hb2 (fun e => by have := (HROW.out b e).2; omega)
            have hKEEP : Keep q (.slice O1 k oc) (.slice O4 (k + 1) oc4) W0 (w'.setCell ⟨q, 5, none⟩ (.slice O4 (k + 1) oc4)) := by
              refine ⟨by rw [World.size_setCell]; omega, fun c hc1 hc2 hne => ?_, fun c hc => ?_⟩
              · rw [hkeep c hc1 (by omega) hne]; exact HBE1.out.block c hc2
              · rcases h5 with h5 | h5
                · exact .inl (by rw [← h5]; exact hc)
                · rw [h5] at hc; injection hc with hc; exact .inr (by omega)
            have hcne : ∀ c, (Value.slice O4 (k + 1) oc4).ownBlock = some c → (w'.setCell ⟨q, 5, none⟩ (.slice O4 (k + 1) oc4)).heap[c]? = w'.heap[c]? := fun c hc => Below.heap_setCell w' ⟨q, 5, none⟩ _ c (by have := (h2.lt c hc).1; simp only; omega)
            have HX9 : Hid (OQ w W2 q kb (k + 1) (w'.setCell ⟨q, 5, none⟩ (.slice O4 (k + 1) oc4))) := by
              refine ⟨⟨acc ++ [⟨nmF, aF, lF, msF⟩], cells' ++ [vs nmF, .slice AF aF.length cF, .slice RF lF.length rF, .slice MF msF.length mF], .slice O4 (k + 1) oc4, by simp [HACC.out], by rw [List.length_append, HCL.out]; simp; omega, ownsRow_keepG h2 hcne, ?_, ?_, ?_⟩, ?_⟩
              · have := hbq'.set 5 (.slice O4 (k + 1) oc4)
                simpa using this
              · intro i' hi'
                by_cases hik : i' < acc.length
                · rw [List.getElem_append_left hik]
                  exact ((HDD.out i' hik).keep hKEEP).app _
                · have hik2 : i' = acc.length := by simp at hi'; omega
                  subst hik2
                  rw [List.getElem_append_right (Nat.le_refl _)]
                  simp only [Nat.sub_self, List.getElem_cons_zero]
                  have hcl2 : cells'.length = acc.length * 4 := by rw [HCL.out, HACC.out]
                  refine ⟨AF, cF, RF, rF, MF, mF, ?_, ?_, ?_, ?_, HO.out.src, HO.out.refs.sameAt (fun a ha => hsame _ (HO.out.dr a ha).1 (HO.out.dr a ha).2.1), HO.out.needs.sameAt (fun a ha => hsame _ (HO.out.dm a ha).1 (HO.out.dm a ha).2.1), fun a ha => hfr _ (HO.out.dr a ha).1 (HO.out.dr a ha).2.1, fun a ha => hfr _ (HO.out.dm a ha).1 (HO.out.dm a ha).2.1⟩
                  · rw [List.getElem?_append_right (by omega), hcl2, Nat.sub_self]; rfl
                  · rw [List.getElem?_append_right (by omega), hcl2, show acc.length * 4 + 1 - acc.length * 4 = 1 by omega]; rfl
                  · rw [List.getElem?_append_right (by omega), hcl2, show acc.length * 4 + 2 - acc.length * 4 = 2 by omega]; rfl
                  · rw [List.getElem?_append_right (by omega), hcl2, show acc.length * 4 + 3 - acc.length * 4 = 3 by omega]; rfl
              · intro i' hi'
                by_cases hik : i' < acc.length
                · rw [List.getElem_append_left hik]; exact HG.out i' hik
                · have hik2 : i' = acc.length := by simp at hi'; omega
                  subst hik2
                  rw [List.getElem_append_right (Nat.le_refl _)]
                  simp only [Nat.sub_self, List.getElem_cons_zero]
                  have := HO.out.good
                  rw [← HACC.out] at this
                  exact this
              · exact ((HBE.out.trans (HBE1.out.mono (by omega))).trans (hbelow.mono (by omega))).setCell (by simp only; omega) _
            clear h2 hg h5 hvs hbelow hbq' hfr hkeep hsame hKEEP hcne HBQ6 HOWNO HBE1 q5 b0 b1 b2 b3 HDD HO
            go_wp2_with fail
            go_roundw
            case rel => first | exact ⟨k + 1, by omega, by go_num, HX9.out⟩ | ((repeat apply Exists.intro); exact ⟨⟨k + 1, by omega, by go_num, HX9.out⟩, rfl⟩)
            case measure => simp [intOf]; omega
        | some ad =>
          rcases hodd with ⟨-, ho⟩ | ho
          · have c3' : ((xm.toNat : Int) / 4 % 2 == 1) = true := by rw [beq_iff_eq]; omega
            have HP : Hid (OBs w W0 k (.pointer (some ⟨ob, 0, none⟩)) (((W5.setCell ⟨ob, 1, none⟩ (.slice (some ad) 0 c1)).setCell ⟨ob, 3, none⟩ (.slice (some ⟨W5.heap.size, 0, none⟩) 1 1)).alloc (.cells #[vi ((k : Int) - 1)] 3))) := by
              have := (HO.out.arch0 (some ad) c1).need hk0'
              rw [World.size_setCell] at this
              exact ⟨ob, _, _, _, _, _, _, _, _, _, _, rfl, this⟩
            clear HO
            go_upto_region 18 with fail
            generalize ((W5.setCell ⟨ob, 1, none⟩ (.slice (some ad) 0 c1)).setCell ⟨ob, 3, none⟩ (.slice (some ⟨W5.heap.size, 0, none⟩) 1 1)).alloc (.cells #[vi ((k : Int) - 1)] 3) = W6 at *
            clear b1 b3 f1 f3 x1 x4 HX5
            obtain ⟨ob', nmF, aF, lF, msF, AF, RF, MF, cF, rF, mF, heq, hO⟩ := HP.out
            injection heq with heq
            injection heq with heq
            injection heq with heq
            subst heq
            have hbe1 := hO.below
            have hownO : W6.ownsRow (q + 1) 57 4 (.slice O1 k oc) k cells' := ownsRow_keepG HOWN.out (fun c hc => hbe1.block c (HOWN.out.lt c hc).2)
            have hbq : Blk W6 q 40 _ := Blk.below HBOX.out hbe1 hqW
            have q5 := hbq.cell 5
            have b0 := hO.blk.cell 0; have b1 := hO.blk.cell 1; have b2 := hO.blk.cell 2; have b3 := hO.blk.cell 3
            simp only [List.getElem?_cons_zero, List.getElem?_cons_succ] at q5 b0 b1 b2 b3
            have HO := Lib.hid hO; have HBQ6 := Lib.hid hbq; have HOWNO := Lib.hid hownO; have HBE1 := Lib.hid hbe1
            have hV10 : W0.heap.size < W6.heap.size := by have := hO.lo; have := Blk.lt hO.blk; omega
            clear hO hbq hownO hbe1 HP HN1 HA1
            obtain ⟨i57, hi57, hz0, hz1, hz2⟩ := info_parts info57
            have HI := Lib.hid hi57; have HZ0 := Lib.hid hz0; have HZ1 := Lib.hid hz1; have HZ2 := Lib.hid hz2
            clear hi57 hz0 hz1 hz2
            go_wp2_with (refine wpList_append_own_at _ rfl (.tmp 132) (.tmp 134) 38 rfl (q + 1) 57 i57 (.agg #[.string ⟨#[]⟩, ns, ns, ns]) 4 88 Tryd.underlying38 HI.out HZ0.out HZ1.out HZ2.out rfl (by decide) (.slice O1 k oc) k cells' rfl (HOWNO.out.alloc _) ⟨W6.heap.size, 0, none⟩ 1 1 [vs nmF, .slice AF aF.length cF, .slice RF lF.length rF, .slice MF msF.length mF] rfl rfl (new_cells W6 57 [vs nmF, .slice AF aF.length cF, .slice RF lF.length rF, .slice MF msF.length mF]) (by simp [Value.oneCell']) (by unfold maxLen; omega) (by omega) (by simp; omega) ?_)
            intro v' w' h2 hg _ h5
            obtain ⟨O4, oc4, hv4⟩ := own_form h2
            subst hv4
            have hvs : (W6.alloc (.cells #[vs nmF, .slice AF aF.length cF, .slice RF lF.length rF, .slice MF msF.length mF] 57)).heap.size = W6.heap.size + 1 := by simp
            have hbelow : Below (q + 1) W6 w' := ((Below.refl (q + 1) W6).alloc (by omega) _).grown hg (by rw [hvs]; omega) (fun c hc => (HROW.out c hc).1)
            have hsz' : W6.heap.size ≤ w'.heap.size := hbelow.size
            have hbq' : Blk w' q 40 _ := Blk.below HBQ6.out hbelow (by omega)
            have q5' := hbq'.cell 5; have g5' := hbq'.frozen 5
            simp only [List.getElem?_cons_zero, List.getElem?_cons_succ] at q5'
            have hfr : ∀ b, W0.heap.size ≤ b → b < W6.heap.size → q < b ∧ b < (w'.setCell ⟨q, 5, none⟩ (.slice O4 (k + 1) oc4)).heap.size ∧ (Value.slice O4 (k + 1) oc4).ownBlock ≠ some b := fun b hb1 hb2 => by
              refine ⟨by omega, by rw [World.size_setCell]; omega, fun e => ?_⟩
              rcases h5 with h5 | h5
              · rw [h5] at e; have := (HROW.out b e).2; omega
              · rw [h5] at e; injection e with e; omega
            have hkeep : ∀ c, q < c → c < W6.heap.size → (Value.slice O1 k oc).ownBlock ≠ some c → (w'.setCell ⟨q, 5, none⟩ (.slice O4 (k + 1) oc4)).heap[c]? = W6.heap[c]? := fun c hc1 hc2 hne => by
              rw [Below.heap_setCell w' ⟨q, 5, none⟩ _ c (by simp only; omega), hg.block c (by rw [hvs]; omega) (fun e => hne e.symm), Below.heap_alloc W6 _ c hc2]
            have hsame : ∀ b, W0.heap.size ≤ b → b < W6.heap.size → (w'.setCell ⟨q, 5, none⟩ (.slice O4 (k + 1) oc4)).heap[b]? = W6.heap[b]? := fun b hb1 hb2 => hkeep b (by omega) hb2 (fun e => by have := (HROW.out b e).2; omega)
            have hKEEP : Keep q (.slice O1 k oc) (.slice O4 (k + 1) oc4) W0 (w'.setCell ⟨q, 5, none⟩ (.slice O4 (k + 1) oc4)) := by
              refine ⟨by rw [World.size_setCell]; omega, fun c hc1 hc2 hne => ?_, fun c hc => ?_⟩
              · rw [hkeep c hc1 (by omega) hne]; exact HBE1.out.block c hc2
              · rcases h5 with h5 | h5
                · exact .inl (by rw [← h5]; exact hc)
                · rw [h5] at hc; injection hc with hc; exact .inr (by omega)
            have hcne : ∀ c, (Value.slice O4 (k + 1) oc4).ownBlock = some c → (w'.setCell ⟨q, 5, none⟩ (.slice O4 (k + 1) oc4)).heap[c]? = w'.heap[c]? := fun c hc => Below.heap_setCell w' ⟨q, 5, none⟩ _ c (by have := (h2.lt c hc).1; simp only; omega)
            have HX9 : Hid (OQ w W2 q kb (k + 1) (w'.setCell ⟨q, 5, none⟩ (.slice O4 (k + 1) oc4))) := by
              refine ⟨⟨acc ++ [⟨nmF, aF, lF, msF⟩], cells' ++ [vs nmF, .slice AF aF.length cF, .slice RF lF.length rF, .slice MF msF.length mF], .slice O4 (k + 1) oc4, by simp [HACC.out], by rw [List.length_append, HCL.out]; simp; omega, ownsRow_keepG h2 hcne, ?_, ?_, ?_⟩, ?_⟩
              · have := hbq'.set 5 (.slice O4 (k + 1) oc4)
                simpa using this
              · intro i' hi'
                by_cases hik : i' < acc.length
                · rw [List.getElem_append_left hik]
                  exact ((HDD.out i' hik).keep hKEEP).app _
                · have hik2 : i' = acc.length := by simp at hi'; omega
                  subst hik2
                  rw [List.getElem_append_right (Nat.le_refl _)]
                  simp only [Nat.sub_self, List.getElem_cons_zero]
                  have hcl2 : cells'.length = acc.length * 4 := by rw [HCL.out, HACC.out]
                  refine ⟨AF, cF, RF, rF, MF, mF, ?_, ?_, ?_, ?_, HO.out.src, HO.out.refs.sameAt (fun a ha => hsame _ (HO.out.dr a ha).1 (HO.out.dr a ha).2.1), HO.out.needs.sameAt (fun a ha => hsame _ (HO.out.dm a ha).1 (HO.out.dm a ha).2.1), fun a ha => hfr _ (HO.out.dr a ha).1 (HO.out.dr a ha).2.1, fun a ha => hfr _ (HO.out.dm a ha).1 (HO.out.dm a ha).2.1⟩
                  · rw [List.getElem?_append_right (by omega), hcl2, Nat.sub_self]; rfl
                  · rw [List.getElem?_append_right (by omega), hcl2, show acc.length * 4 + 1 - acc.length * 4 = 1 by omega]; rfl
                  · rw [List.getElem?_append_right (by omega), hcl2, show acc.length * 4 + 2 - acc.length * 4 = 2 by omega]; rfl
                  · rw [List.getElem?_append_right (by omega), hcl2, show acc.length * 4 + 3 - acc.length * 4 = 3 by omega]; rfl
              · intro i' hi'
                by_cases hik : i' < acc.length
                · rw [List.getElem_append_left hik]; exact HG.out i' hik
                · have hik2 : i' = acc.length := by simp at hi'; omega
                  subst hik2
                  rw [List.getElem_append_right (Nat.le_refl _)]
                  simp only [Nat.sub_self, List.getElem_cons_zero]
                  have := HO.out.good
                  rw [← HACC.out] at this
                  exact this
              · exact ((HBE.out.trans (HBE1.out.mono (by omega))).trans (hbelow.mono (by omega))).setCell (by simp only; omega) _
            clear h2 hg h5 hvs hbelow hbq' hfr hkeep hsame hKEEP hcne HBQ6 HOWNO HBE1 q5 b0 b1 b2 b3 HDD HO
            go_wp2_with fail
            go_roundw
            case rel => first | exact ⟨k + 1, by omega, by go_num, HX9.out⟩ | ((repeat apply Exists.intro); exact ⟨⟨k + 1, by omega, by go_num, HX9.out⟩, rfl⟩)
            case measure => simp [intOf]; omega
          · have c3' : ((xm.toNat : Int) / 4 % 2 == 1) = false := by rw [beq_eq_false_iff_ne]; omega
            have HP : Hid (OBs w W0 k (.pointer (some ⟨ob, 0, none⟩)) (W5.setCell ⟨ob, 1, none⟩ (.slice (some ad) 0 c1))) := ⟨ob, _, _, _, _, _, _, _, _, _, _, rfl, HO.out.arch0 (some ad) c1⟩
            clear HO
            go_upto_region 18 with fail
            generalize W5.setCell ⟨ob, 1, none⟩ (.slice (some ad) 0 c1) = W6 at *
            clear b1 b3 f1 f3 x1 x4 HX5
            obtain ⟨ob', nmF, aF, lF, msF, AF, RF, MF, cF, rF, mF, heq, hO⟩ := HP.out
            injection heq with heq
            injection heq with heq
            injection heq with heq
            subst heq
            have hbe1 := hO.below
            have hownO : W6.ownsRow (q + 1) 57 4 (.slice O1 k oc) k cells' := ownsRow_keepG HOWN.out (fun c hc => hbe1.block c (HOWN.out.lt c hc).2)
            have hbq : Blk W6 q 40 _ := Blk.below HBOX.out hbe1 hqW
            have q5 := hbq.cell 5
            have b0 := hO.blk.cell 0; have b1 := hO.blk.cell 1; have b2 := hO.blk.cell 2; have b3 := hO.blk.cell 3
            simp only [List.getElem?_cons_zero, List.getElem?_cons_succ] at q5 b0 b1 b2 b3
            have HO := Lib.hid hO; have HBQ6 := Lib.hid hbq; have HOWNO := Lib.hid hownO; have HBE1 := Lib.hid hbe1
            have hV10 : W0.heap.size < W6.heap.size := by have := hO.lo; have := Blk.lt hO.blk; omega
            clear hO hbq hownO hbe1 HP HN1 HA1
            obtain ⟨i57, hi57, hz0, hz1, hz2⟩ := info_parts info57
            have HI := Lib.hid hi57; have HZ0 := Lib.hid hz0; have HZ1 := Lib.hid hz1; have HZ2 := Lib.hid hz2
            clear hi57 hz0 hz1 hz2
            go_wp2_with (refine wpList_append_own_at _ rfl (.tmp 132) (.tmp 134) 38 rfl (q + 1) 57 i57 (.agg #[.string ⟨#[]⟩, ns, ns, ns]) 4 88 Tryd.underlying38 HI.out HZ0.out HZ1.out HZ2.out rfl (by decide) (.slice O1 k oc) k cells' rfl (HOWNO.out.alloc _) ⟨W6.heap.size, 0, none⟩ 1 1 [vs nmF, .slice AF aF.length cF, .slice RF lF.length rF, .slice MF msF.length mF] rfl rfl (new_cells W6 57 [vs nmF, .slice AF aF.length cF, .slice RF lF.length rF, .slice MF msF.length mF]) (by simp [Value.oneCell']) (by unfold maxLen; omega) (by omega) (by simp; omega) ?_)
            intro v' w' h2 hg _ h5
            obtain ⟨O4, oc4, hv4⟩ := own_form h2
            subst hv4
            have hvs : (W6.alloc (.cells #[vs nmF, .slice AF aF.length cF, .slice RF lF.length rF, .slice MF msF.length mF] 57)).heap.size = W6.heap.size + 1 := by simp
            have hbelow : Below (q + 1) W6 w' := ((Below.refl (q + 1) W6).alloc (by omega) _).grown hg (by rw [hvs]; omega) (fun c hc => (HROW.out c hc).1)
            have hsz' : W6.heap.size ≤ w'.heap.size := hbelow.size
            have hbq' : Blk w' q 40 _ := Blk.below HBQ6.out hbelow (by omega)
            have q5' := hbq'.cell 5; have g5' := hbq'.frozen 5
            simp only [List.getElem?_cons_zero, List.getElem?_cons_succ] at q5'
            have hfr : ∀ b, W0.heap.size ≤ b → b < W6.heap.size → q < b ∧ b < (w'.setCell ⟨q, 5, none⟩ (.slice O4 (k + 1) oc4)).heap.size ∧ (Value.slice O4 (k + 1) oc4).ownBlock ≠ some b := fun b hb1 hb2 => by
              refine ⟨by omega, by rw [World.size_setCell]; omega, fun e => ?_⟩
              rcases h5 with h5 | h5
              · rw [h5] at e; have := (HROW.out b e).2; omega
              · rw [h5] at e; injection e with e; omega
            have hkeep : ∀ c, q < c → c < W6.heap.size → (Value.slice O1 k oc).ownBlock ≠ some c → (w'.setCell ⟨q, 5, none⟩ (.slice O4 (k + 1) oc4)).heap[c]? = W6.heap[c]? := fun c hc1 hc2 hne => by
              rw [Below.heap_setCell w' ⟨q, 5, none⟩ _ c (by simp only; omega), hg.block c (by rw [hvs]; omega) (fun e => hne e.symm), Below.heap_alloc W6 _ c hc2]
            have hsame : ∀ b, W0.heap.size ≤ b → b < W6.heap.size → (w'.setCell ⟨q, 5, none⟩ (.slice O4 (k + 1) oc4)).heap[b]? = W6.heap[b]? := fun b hb1 hb2 => hkeep b (by omega) hb2 (fun e => by have := (HROW.out b e).2; omega)
            have hKEEP : Keep q (.slice O1 k oc) (.slice O4 (k + 1) oc4) W0 (w'.setCell ⟨q, 5, none⟩ (.slice O4 (k + 1) oc4)) := by
              refine ⟨by rw [World.size_setCell]; omega, fun c hc1 hc2 hne => ?_, fun c hc => ?_⟩
              · rw [hkeep c hc1 (by omega) hne]; exact HBE1.out.block c hc2
              · rcases h5 with h5 | h5
                · exact .inl (by rw [← h5]; exact hc)
                · rw [h5] at hc; injection hc with hc; exact .inr (by omega)
            have hcne : ∀ c, (Value.slice O4 (k + 1) oc4).ownBlock = some c → (w'.setCell ⟨q, 5, none⟩ (.slice O4 (k + 1) oc4)).heap[c]? = w'.heap[c]? := fun c hc => Below.heap_setCell w' ⟨q, 5, none⟩ _ c (by have := (h2.lt c hc).1; simp only; omega)
            have HX9 : Hid (OQ w W2 q kb (k + 1) (w'.setCell ⟨q, 5, none⟩ (.slice O4 (k + 1) oc4))) := by
              refine ⟨⟨acc ++ [⟨nmF, aF, lF, msF⟩], cells' ++ [vs nmF, .slice AF aF.length cF, .slice RF lF.length rF, .slice MF msF.length mF], .slice O4 (k + 1) oc4, by simp [HACC.out], by rw [List.length_append, HCL.out]; simp; omega, ownsRow_keepG h2 hcne, ?_, ?_, ?_⟩, ?_⟩
              · have := hbq'.set 5 (.slice O4 (k + 1) oc4)
                simpa using this
              · intro i' hi'
                by_cases hik : i' < acc.length
                · rw [List.getElem_append_left hik]
                  exact ((HDD.out i' hik).keep hKEEP).app _
                · have hik2 : i' = acc.length := by simp at hi'; omega
                  subst hik2
                  rw [List.getElem_append_right (Nat.le_refl _)]
                  simp only [Nat.sub_self, List.getElem_cons_zero]
                  have hcl2 : cells'.length = acc.length * 4 := by rw [HCL.out, HACC.out]
                  refine ⟨AF, cF, RF, rF, MF, mF, ?_, ?_, ?_, ?_, HO.out.src, HO.out.refs.sameAt (fun a ha => hsame _ (HO.out.dr a ha).1 (HO.out.dr a ha).2.1), HO.out.needs.sameAt (fun a ha => hsame _ (HO.out.dm a ha).1 (HO.out.dm a ha).2.1), fun a ha => hfr _ (HO.out.dr a ha).1 (HO.out.dr a ha).2.1, fun a ha => hfr _ (HO.out.dm a ha).1 (HO.out.dm a ha).2.1⟩
                  · rw [List.getElem?_append_right (by omega), hcl2, Nat.sub_self]; rfl
                  · rw [List.getElem?_append_right (by omega), hcl2, show acc.length * 4 + 1 - acc.length * 4 = 1 by omega]; rfl
                  · rw [List.getElem?_append_right (by omega), hcl2, show acc.length * 4 + 2 - acc.length * 4 = 2 by omega]; rfl
                  · rw [List.getElem?_append_right (by omega), hcl2, show acc.length * 4 + 3 - acc.length * 4 = 3 by omega]; rfl
              · intro i' hi'
                by_cases hik : i' < acc.length
                · rw [List.getElem_append_left hik]; exact HG.out i' hik
                · have hik2 : i' = acc.length := by simp at hi'; omega
                  subst hik2
                  rw [List.getElem_append_right (Nat.le_refl _)]
                  simp only [Nat.sub_self, List.getElem_cons_zero]
                  have := HO.out.good
                  rw [← HACC.out] at this
                  exact this
              · exact ((HBE.out.trans (HBE1.out.mono (by omega))).trans (hbelow.mono (by omega))).setCell (by simp only; omega) _
            clear h2 hg h5 hvs hbelow hbq' hfr hkeep hsame hKEEP hcne HBQ6 HOWNO HBE1 q5 b0 b1 b2 b3 HDD HO
            go_wp2_with fail
            go_roundw
            case rel => first | exact ⟨k + 1, by omega, by go_num, HX9.out⟩ | ((repeat apply Exists.intro); exact ⟨⟨k + 1, by omega, by go_num, HX9.out⟩, rfl⟩)
            case measure => simp [intOf]; omega
      · have hno : ((k : Int) == 1) = false ∨ ((k : Int) == 1) = true ∧ ¬ (250 : Int) ≤ (xn.toNat : Int) := by
          by_cases h : k = 1
          · exact .inr ⟨by rw [beq_iff_eq]; omega, by omega⟩
          · exact .inl (by rw [beq_eq_false_iff_ne]; omega)
        clear hw
        rcases hodd with ⟨hk0', ho⟩ | ho
        · have hk0 : (0 : Int) < (k : Int) := by omega
          have c3' : ((xm.toNat : Int) / 4 % 2 == 1) = true := by rw [beq_iff_eq]; omega
          have HP : Hid (OBs w W0 k (.pointer (some ⟨ob, 0, none⟩)) ((W5.setCell ⟨ob, 3, none⟩ (.slice (some ⟨W5.heap.size, 0, none⟩) 1 1)).alloc (.cells #[vi ((k : Int) - 1)] 3))) := ⟨ob, _, _, _, _, _, _, _, _, _, _, rfl, HO.out.need hk0'⟩
          clear HO
          rcases hno with c1' | ⟨c1', c2'⟩
          · go_upto_region 18 with fail
            generalize (W5.setCell ⟨ob, 3, none⟩ (.slice (some ⟨W5.heap.size, 0, none⟩) 1 1)).alloc (.cells #[vi ((k : Int) - 1)] 3) = W6 at *
            clear b1 b3 f1 f3 x1 x4 HX5
            obtain ⟨ob', nmF, aF, lF, msF, AF, RF, MF, cF, rF, mF, heq, hO⟩ := HP.out
            injection heq with heq
            injection heq with heq
            injection heq with heq
            subst heq
            have hbe1 := hO.below
            have hownO : W6.ownsRow (q + 1) 57 4 (.slice O1 k oc) k cells' := ownsRow_keepG HOWN.out (fun c hc => hbe1.block c (HOWN.out.lt c hc).2)
            have hbq : Blk W6 q 40 _ := Blk.below HBOX.out hbe1 hqW
            have q5 := hbq.cell 5
            have b0 := hO.blk.cell 0; have b1 := hO.blk.cell 1; have b2 := hO.blk.cell 2; have b3 := hO.blk.cell 3
            simp only [List.getElem?_cons_zero, List.getElem?_cons_succ] at q5 b0 b1 b2 b3
            have HO := Lib.hid hO; have HBQ6 := Lib.hid hbq; have HOWNO := Lib.hid hownO; have HBE1 := Lib.hid hbe1
            have hV10 : W0.heap.size < W6.heap.size := by have := hO.lo; have := Blk.lt hO.blk; omega
            clear hO hbq hownO hbe1 HP HN1 HA1
            obtain ⟨i57, hi57, hz0, hz1, hz2⟩ := info_parts info57
            have HI := Lib.hid hi57; have HZ0 := Lib.hid hz0; have HZ1 := Lib.hid hz1; have HZ2 := Lib.hid hz2
            clear hi57 hz0 hz1 hz2
            go_wp2_with (refine wpList_append_own_at _ rfl (.tmp 132) (.tmp 134) 38 rfl (q + 1) 57 i57 (.agg #[.string ⟨#[]⟩, ns, ns, ns]) 4 88 Tryd.underlying38 HI.out HZ0.out HZ1.out HZ2.out rfl (by decide) (.slice O1 k oc) k cells' rfl (HOWNO.out.alloc _) ⟨W6.heap.size, 0, none⟩ 1 1 [vs nmF, .slice AF aF.length cF, .slice RF lF.length rF, .slice MF msF.length mF] rfl rfl (new_cells W6 57 [vs nmF, .slice AF aF.length cF, .slice RF lF.length rF, .slice MF msF.length mF]) (by simp [Value.oneCell']) (by unfold maxLen; omega) (by omega) (by simp; omega) ?_)
            intro v' w' h2 hg _ h5
            obtain ⟨O4, oc4, hv4⟩ := own_form h2
            subst hv4
            have hvs : (W6.alloc (.cells #[vs nmF, .slice AF aF.length cF, .slice RF lF.length rF, .slice MF msF.length mF] 57)).heap.size = W6.heap.size + 1 := by simp
            have hbelow : Below (q + 1) W6 w' := ((Below.refl (q + 1) W6).alloc (by omega) _).grown hg (by rw [hvs]; omega) (fun c hc => (HROW.out c hc).1)
            have hsz' : W6.heap.size ≤ w'.heap.size := hbelow.size
            have hbq' : Blk w' q 40 _ := Blk.below HBQ6.out hbelow (by omega)
            have q5' := hbq'.cell 5; have g5' := hbq'.frozen 5
            simp only [List.getElem?_cons_zero, List.getElem?_cons_succ] at q5'
            have hfr : ∀ b, W0.heap.size ≤ b → b < W6.heap.size → q < b ∧ b < (w'.setCell ⟨q, 5, none⟩ (.slice O4 (k + 1) oc4)).heap.size ∧ (Value.slice O4 (k + 1) oc4).ownBlock ≠ some b := fun b hb1 hb2 => by
              refine ⟨by omega, by rw [World.size_setCell]; omega, fun e => ?_⟩
              rcases h5 with h5 | h5
              · rw [h5] at e; have := (HROW.out b e).2; omega
              · rw [h5] at e; injection e with e; omega
            have hkeep : ∀ c, q < c → c < W6.heap.size → (Value.slice O1 k oc).ownBlock ≠ some c → (w'.setCell ⟨q, 5, none⟩ (.slice O4 (k + 1) oc4)).heap[c]? = W6.heap[c]? := fun c hc1 hc2 hne => by
              rw [Below.heap_setCell w' ⟨q, 5, none⟩ _ c (by simp only; omega), hg.block c (by rw [hvs]; omega) (fun e => hne e.symm), Below.heap_alloc W6 _ c hc2]
            have hsame : ∀ b, W0.heap.size ≤ b → b < W6.heap.size → (w'.setCell ⟨q, 5, none⟩ (.slice O4 (k + 1) oc4)).heap[b]? = W6.heap[b]? := fun b hb1 hb2 => hkeep b (by omega) hb2 (fun e => by have := (HROW.out b e).2; omega)
            have hKEEP : Keep q (.slice O1 k oc) (.slice O4 (k + 1) oc4) W0 (w'.setCell ⟨q, 5, none⟩ (.slice O4 (k + 1) oc4)) := by
              refine ⟨by rw [World.size_setCell]; omega, fun c hc1 hc2 hne => ?_, fun c hc => ?_⟩
              · rw [hkeep c hc1 (by omega) hne]; exact HBE1.out.block c hc2
              · rcases h5 with h5 | h5
                · exact .inl (by rw [← h5]; exact hc)
                · rw [h5] at hc; injection hc with hc; exact .inr (by omega)
            have hcne : ∀ c, (Value.slice O4 (k + 1) oc4).ownBlock = some c → (w'.setCell ⟨q, 5, none⟩ (.slice O4 (k + 1) oc4)).heap[c]? = w'.heap[c]? := fun c hc => Below.heap_setCell w' ⟨q, 5, none⟩ _ c (by have := (h2.lt c hc).1; simp only; omega)
            have HX9 : Hid (OQ w W2 q kb (k + 1) (w'.setCell ⟨q, 5, none⟩ (.slice O4 (k + 1) oc4))) := by
              refine ⟨⟨acc ++ [⟨nmF, aF, lF, msF⟩], cells' ++ [vs nmF, .slice AF aF.length cF, .slice RF lF.length rF, .slice MF msF.length mF], .slice O4 (k + 1) oc4, by simp [HACC.out], by rw [List.length_append, HCL.out]; simp; omega, ownsRow_keepG h2 hcne, ?_, ?_, ?_⟩, ?_⟩
              · have := hbq'.set 5 (.slice O4 (k + 1) oc4)
                simpa using this
              · intro i' hi'
                by_cases hik : i' < acc.length
                · rw [List.getElem_append_left hik]
                  exact ((HDD.out i' hik).keep hKEEP).app _
                · have hik2 : i' = acc.length := by simp at hi'; omega
                  subst hik2
                  rw [List.getElem_append_right (Nat.le_refl _)]
                  simp only [Nat.sub_self, List.getElem_cons_zero]
                  have hcl2 : cells'.length = acc.length * 4 := by rw [HCL.out, HACC.out]
                  refine ⟨AF, cF, RF, rF, MF, mF, ?_, ?_, ?_, ?_, HO.out.src, HO.out.refs.sameAt (fun a ha => hsame _ (HO.out.dr a ha).1 (HO.out.dr a ha).2.1), HO.out.needs.sameAt (fun a ha => hsame _ (HO.out.dm a ha).1 (HO.out.dm a ha).2.1), fun a ha => hfr _ (HO.out.dr a ha).1 (HO.out.dr a ha).2.1, fun a ha => hfr _ (HO.out.dm a ha).1 (HO.out.dm a ha).2.1⟩
                  · rw [List.getElem?_append_right (by omega), hcl2, Nat.sub_self]; rfl
                  · rw [List.getElem?_append_right (by omega), hcl2, show acc.length * 4 + 1 - acc.length * 4 = 1 by omega]; rfl
                  · rw [List.getElem?_append_right (by omega), hcl2, show acc.length * 4 + 2 - acc.length * 4 = 2 by omega]; rfl
                  · rw [List.getElem?_append_right (by omega), hcl2, show acc.length * 4 + 3 - acc.length * 4 = 3 by omega]; rfl
              · intro i' hi'
                by_cases hik : i' < acc.length
                · rw [List.getElem_append_left hik]; exact HG.out i' hik
                · have hik2 : i' = acc.length := by simp at hi'; omega
                  subst hik2
                  rw [List.getElem_append_right (Nat.le_refl _)]
                  simp only [Nat.sub_self, List.getElem_cons_zero]
                  have := HO.out.good
                  rw [← HACC.out] at this
                  exact this
              · exact ((HBE.out.trans (HBE1.out.mono (by omega))).trans (hbelow.mono (by omega))).setCell (by simp only; omega) _
            clear h2 hg h5 hvs hbelow hbq' hfr hkeep hsame hKEEP hcne HBQ6 HOWNO HBE1 q5 b0 b1 b2 b3 HDD HO
            go_wp2_with fail
            go_roundw
            case rel => first | exact ⟨k + 1, by omega, by go_num, HX9.out⟩ | ((repeat apply Exists.intro); exact ⟨⟨k + 1, by omega, by go_num, HX9.out⟩, rfl⟩)
            case measure => simp [intOf]; omega
          · go_upto_region 18 with fail
            generalize (W5.setCell ⟨ob, 3, none⟩ (.slice (some ⟨W5.heap.size, 0, none⟩) 1 1)).alloc (.cells #[vi ((k : Int) - 1)] 3) = W6 at *
            clear b1 b3 f1 f3 x1 x4 HX5
            obtain ⟨ob', nmF, aF, lF, msF, AF, RF, MF, cF, rF, mF, heq, hO⟩ := HP.out
            injection heq with heq
            injection heq with heq
            injection heq with heq
            subst heq
            have hbe1 := hO.below
            have hownO : W6.ownsRow (q + 1) 57 4 (.slice O1 k oc) k cells' := ownsRow_keepG HOWN.out (fun c hc => hbe1.block c (HOWN.out.lt c hc).2)
            have hbq : Blk W6 q 40 _ := Blk.below HBOX.out hbe1 hqW
            have q5 := hbq.cell 5
            have b0 := hO.blk.cell 0; have b1 := hO.blk.cell 1; have b2 := hO.blk.cell 2; have b3 := hO.blk.cell 3
            simp only [List.getElem?_cons_zero, List.getElem?_cons_succ] at q5 b0 b1 b2 b3
            have HO := Lib.hid hO; have HBQ6 := Lib.hid hbq; have HOWNO := Lib.hid hownO; have HBE1 := Lib.hid hbe1
            have hV10 : W0.heap.size < W6.heap.size := by have := hO.lo; have := Blk.lt hO.blk; omega
            clear hO hbq hownO hbe1 HP HN1 HA1
            obtain ⟨i57, hi57, hz0, hz1, hz2⟩ := info_parts info57
            have HI := Lib.hid hi57; have HZ0 := Lib.hid hz0; have HZ1 := Lib.hid hz1; have HZ2 := Lib.hid hz2
            clear hi57 hz0 hz1 hz2
            go_wp2_with (refine wpList_append_own_at _ rfl (.tmp 132) (.tmp 134) 38 rfl (q + 1) 57 i57 (.agg #[.string ⟨#[]⟩, ns, ns, ns]) 4 88 Tryd.underlying38 HI.out HZ0.out HZ1.out HZ2.out rfl (by decide) (.slice O1 k oc) k cells' rfl (HOWNO.out.alloc _) ⟨W6.heap.size, 0, none⟩ 1 1 [vs nmF, .slice AF aF.length cF, .slice RF lF.length rF, .slice MF msF.length mF] rfl rfl (new_cells W6 57 [vs nmF, .slice AF aF.length cF, .slice RF lF.length rF, .slice MF msF.length mF]) (by simp [Value.oneCell']) (by unfold maxLen; omega) (by omega) (by simp; omega) ?_)
            intro v' w' h2 hg _ h5
            obtain ⟨O4, oc4, hv4⟩ := own_form h2
            subst hv4
            have hvs : (W6.alloc (.cells #[vs nmF, .slice AF aF.length cF, .slice RF lF.length rF, .slice MF msF.length mF] 57)).heap.size = W6.heap.size + 1 := by simp
            have hbelow : Below (q + 1) W6 w' := ((Below.refl (q + 1) W6).alloc (by omega) _).grown hg (by rw [hvs]; omega) (fun c hc => (HROW.out c hc).1)
            have hsz' : W6.heap.size ≤ w'.heap.size := hbelow.size
            have hbq' : Blk w' q 40 _ := Blk.below HBQ6.out hbelow (by omega)
            have q5' := hbq'.cell 5; have g5' := hbq'.frozen 5
            simp only [List.getElem?_cons_zero, List.getElem?_cons_succ] at q5'
            have hfr : ∀ b, W0.heap.size ≤ b → b < W6.heap.size → q < b ∧ b < (w'.setCell ⟨q, 5, none⟩ (.slice O4 (k + 1) oc4)).heap.size ∧ (Value.slice O4 (k + 1) oc4).ownBlock ≠ some b := fun b hb1 hb2 => by
              refine ⟨by omega, by rw [World.size_setCell]; omega, fun e => ?_⟩
              rcases h5 with h5 | h5
              · rw [h5] at e; have := (HROW.out b e).2; omega
              · rw [h5] at e; injection e with e; omega
            have hkeep : ∀ c, q < c → c < W6.heap.size → (Value.slice O1 k oc).ownBlock ≠ some c → (w'.setCell ⟨q, 5, none⟩ (.slice O4 (k + 1) oc4)).heap[c]? = W6.heap[c]? := fun c hc1 hc2 hne => by
              rw [Below.heap_setCell w' ⟨q, 5, none⟩ _ c (by simp only; omega), hg.block c (by rw [hvs]; omega) (fun e => hne e.symm), Below.heap_alloc W6 _ c hc2]
            have hsame : ∀ b, W0.heap.size ≤ b → b < W6.heap.size → (w'.setCell ⟨q, 5, none⟩ (.slice O4 (k + 1) oc4)).heap[b]? = W6.heap[b]? := fun b hb1 hb2 => hkeep b (by omega) hb2 (fun e => by have := (HROW.out b e).2; omega)
            have hKEEP : Keep q (.slice O1 k oc) (.slice O4 (k + 1) oc4) W0 (w'.setCell ⟨q, 5, none⟩ (.slice O4 (k + 1) oc4)) := by
              refine ⟨by rw [World.size_setCell]; omega, fun c hc1 hc2 hne => ?_, fun c hc => ?_⟩
              · rw [hkeep c hc1 (by omega) hne]; exact HBE1.out.block c hc2
              · rcases h5 with h5 | h5
                · exact .inl (by rw [← h5]; exact hc)
                · rw [h5] at hc; injection hc with hc; exact .inr (by omega)
            have hcne : ∀ c, (Value.slice O4 (k + 1) oc4).ownBlock = some c → (w'.setCell ⟨q, 5, none⟩ (.slice O4 (k + 1) oc4)).heap[c]? = w'.heap[c]? := fun c hc => Below.heap_setCell w' ⟨q, 5, none⟩ _ c (by have := (h2.lt c hc).1; simp only; omega)
            have HX9 : Hid (OQ w W2 q kb (k + 1) (w'.setCell ⟨q, 5, none⟩ (.slice O4 (k + 1) oc4))) := by
              refine ⟨⟨acc ++ [⟨nmF, aF, lF, msF⟩], cells' ++ [vs nmF, .slice AF aF.length cF, .slice RF lF.length rF, .slice MF msF.length mF], .slice O4 (k + 1) oc4, by simp [HACC.out], by rw [List.length_append, HCL.out]; simp; omega, ownsRow_keepG h2 hcne, ?_, ?_, ?_⟩, ?_⟩
              · have := hbq'.set 5 (.slice O4 (k + 1) oc4)
                simpa using this
              · intro i' hi'
                by_cases hik : i' < acc.length
                · rw [List.getElem_append_left hik]
                  exact ((HDD.out i' hik).keep hKEEP).app _
                · have hik2 : i' = acc.length := by simp at hi'; omega
                  subst hik2
                  rw [List.getElem_append_right (Nat.le_refl _)]
                  simp only [Nat.sub_self, List.getElem_cons_zero]
                  have hcl2 : cells'.length = acc.length * 4 := by rw [HCL.out, HACC.out]
                  refine ⟨AF, cF, RF, rF, MF, mF, ?_, ?_, ?_, ?_, HO.out.src, HO.out.refs.sameAt (fun a ha => hsame _ (HO.out.dr a ha).1 (HO.out.dr a ha).2.1), HO.out.needs.sameAt (fun a ha => hsame _ (HO.out.dm a ha).1 (HO.out.dm a ha).2.1), fun a ha => hfr _ (HO.out.dr a ha).1 (HO.out.dr a ha).2.1, fun a ha => hfr _ (HO.out.dm a ha).1 (HO.out.dm a ha).2.1⟩
                  · rw [List.getElem?_append_right (by omega), hcl2, Nat.sub_self]; rfl
                  · rw [List.getElem?_append_right (by omega), hcl2, show acc.length * 4 + 1 - acc.length * 4 = 1 by omega]; rfl
                  · rw [List.getElem?_append_right (by omega), hcl2, show acc.length * 4 + 2 - acc.length * 4 = 2 by omega]; rfl
                  · rw [List.getElem?_append_right (by omega), hcl2, show acc.length * 4 + 3 - acc.length * 4 = 3 by omega]; rfl
              · intro i' hi'
                by_cases hik : i' < acc.length
                · rw [List.getElem_append_left hik]; exact HG.out i' hik
                · have hik2 : i' = acc.length := by simp at hi'; omega
                  subst hik2
                  rw [List.getElem_append_right (Nat.le_refl _)]
                  simp only [Nat.sub_self, List.getElem_cons_zero]
                  have := HO.out.good
                  rw [← HACC.out] at this
                  exact this
              · exact ((HBE.out.trans (HBE1.out.mono (by omega))).trans (hbelow.mono (by omega))).setCell (by simp only; omega) _
            clear h2 hg h5 hvs hbelow hbq' hfr hkeep hsame hKEEP hcne HBQ6 HOWNO HBE1 q5 b0 b1 b2 b3 HDD HO
            go_wp2_with fail
            go_roundw
            case rel => first | exact ⟨k + 1, by omega, by go_num, HX9.out⟩ | ((repeat apply Exists.intro); exact ⟨⟨k + 1, by omega, by go_num, HX9.out⟩, rfl⟩)
            case measure => simp [intOf]; omega
        · have HP : Hid (OBs w W0 k (.pointer (some ⟨ob, 0, none⟩)) W5) := ⟨ob, _, _, _, _, _, _, _, _, _, _, rfl, HO.out⟩
          clear HO
          have ho' : (¬ (0 : Int) < (k : Int)) ∨ (0 : Int) < (k : Int) ∧ ((xm.toNat : Int) / 4 % 2 == 1) = false := by
            by_cases h : 0 < k
            · exact .inr ⟨by omega, by rw [beq_eq_false_iff_ne]; omega⟩
            · exact .inl (by omega)
          clear ho
          rcases hno with c1' | ⟨c1', c2'⟩ <;> rcases ho' with hk0 | ⟨hk0, c3'⟩
          · go_upto_region 18 with fail
            generalize W5 = W6 at *
            clear b1 b3 f1 f3 x1 x4 HX5
            obtain ⟨ob', nmF, aF, lF, msF, AF, RF, MF, cF, rF, mF, heq, hO⟩ := HP.out
            injection heq with heq
            injection heq with heq
            injection heq with heq
            subst heq
            have hbe1 := hO.below
            have hownO : W6.ownsRow (q + 1) 57 4 (.slice O1 k oc) k cells' := ownsRow_keepG HOWN.out (fun c hc => hbe1.block c (HOWN.out.lt c hc).2)
            have hbq : Blk W6 q 40 _ := Blk.below HBOX.out hbe1 hqW
            have q5 := hbq.cell 5
            have b0 := hO.blk.cell 0; have b1 := hO.blk.cell 1; have b2 := hO.blk.cell 2; have b3 := hO.blk.cell 3
            simp only [List.getElem?_cons_zero, List.getElem?_cons_succ] at q5 b0 b1 b2 b3
            have HO := Lib.hid hO; have HBQ6 := Lib.hid hbq; have HOWNO := Lib.hid hownO; have HBE1 := Lib.hid hbe1
            have hV10 : W0.heap.size < W6.heap.size := by have := hO.lo; have := Blk.lt hO.blk; omega
            clear hO hbq hownO hbe1 HP HN1 HA1
            obtain ⟨i57, hi57, hz0, hz1, hz2⟩ := info_parts info57
            have HI := Lib.hid hi57; have HZ0 := Lib.hid hz0; have HZ1 := Lib.hid hz1; have HZ2 := Lib.hid hz2
            clear hi57 hz0 hz1 hz2
            go_wp2_with (refine wpList_append_own_at _ rfl (.tmp 132) (.tmp 134) 38 rfl (q + 1) 57 i57 (.agg #[.string ⟨#[]⟩, ns, ns, ns]) 4 88 Tryd.underlying38 HI.out HZ0.out HZ1.out HZ2.out rfl (by decide) (.slice O1 k oc) k cells' rfl (HOWNO.out.alloc _) ⟨W6.heap.size, 0, none⟩ 1 1 [vs nmF, .slice AF aF.length cF, .slice RF lF.length rF, .slice MF msF.length mF] rfl rfl (new_cells W6 57 [vs nmF, .slice AF aF.length cF, .slice RF lF.length rF, .slice MF msF.length mF]) (by simp [Value.oneCell']) (by unfold maxLen; omega) (by omega) (by simp; omega) ?_)
            intro v' w' h2 hg _ h5
            obtain ⟨O4, oc4, hv4⟩ := own_form h2
            subst hv4
            have hvs : (W6.alloc (.cells #[vs nmF, .slice AF aF.length cF, .slice RF lF.length rF, .slice MF msF.length mF] 57)).heap.size = W6.heap.size + 1 := by simp
            have hbelow : Below (q + 1) W6 w' := ((Below.refl (q + 1) W6).alloc (by omega) _).grown hg (by rw [hvs]; omega) (fun c hc => (HROW.out c hc).1)
            have hsz' : W6.heap.size ≤ w'.heap.size := hbelow.size
            have hbq' : Blk w' q 40 _ := Blk.below HBQ6.out hbelow (by omega)
            have q5' := hbq'.cell 5; have g5' := hbq'.frozen 5
            simp only [List.getElem?_cons_zero, List.getElem?_cons_succ] at q5'
            have hfr : ∀ b, W0.heap.size ≤ b → b < W6.heap.size → q < b ∧ b < (w'.setCell ⟨q, 5, none⟩ (.slice O4 (k + 1) oc4)).heap.size ∧ (Value.slice O4 (k + 1) oc4).ownBlock ≠ some b := fun b hb1 hb2 => by
              refine ⟨by omega, by rw [World.size_setCell]; omega, fun e => ?_⟩
              rcases h5 with h5 | h5
              · rw [h5] at e; have := (HROW.out b e).2; omega
              · rw [h5] at e; injection e with e; omega
            have hkeep : ∀ c, q < c → c < W6.heap.size → (Value.slice O1 k oc).ownBlock ≠ some c → (w'.setCell ⟨q, 5, none⟩ (.slice O4 (k + 1) oc4)).heap[c]? = W6.heap[c]? := fun c hc1 hc2 hne => by
              rw [Below.heap_setCell w' ⟨q, 5, none⟩ _ c (by simp only; omega), hg.block c (by rw [hvs]; omega) (fun e => hne e.symm), Below.heap_alloc W6 _ c hc2]
            have hsame : ∀ b, W0.heap.size ≤ b → b < W6.heap.size → (w'.setCell ⟨q, 5, none⟩ (.slice O4 (k + 1) oc4)).heap[b]? = W6.heap[b]? := fun b hb1 hb2 => hkeep b (by omega) hb2 (fun e => by have := (HROW.out b e).2; omega)
            have hKEEP : Keep q (.slice O1 k oc) (.slice O4 (k + 1) oc4) W0 (w'.setCell ⟨q, 5, none⟩ (.slice O4 (k + 1) oc4)) := by
              refine ⟨by rw [World.size_setCell]; omega, fun c hc1 hc2 hne => ?_, fun c hc => ?_⟩
              · rw [hkeep c hc1 (by omega) hne]; exact HBE1.out.block c hc2
              · rcases h5 with h5 | h5
                · exact .inl (by rw [← h5]; exact hc)
                · rw [h5] at hc; injection hc with hc; exact .inr (by omega)
            have hcne : ∀ c, (Value.slice O4 (k + 1) oc4).ownBlock = some c → (w'.setCell ⟨q, 5, none⟩ (.slice O4 (k + 1) oc4)).heap[c]? = w'.heap[c]? := fun c hc => Below.heap_setCell w' ⟨q, 5, none⟩ _ c (by have := (h2.lt c hc).1; simp only; omega)
            have HX9 : Hid (OQ w W2 q kb (k + 1) (w'.setCell ⟨q, 5, none⟩ (.slice O4 (k + 1) oc4))) := by
              refine ⟨⟨acc ++ [⟨nmF, aF, lF, msF⟩], cells' ++ [vs nmF, .slice AF aF.length cF, .slice RF lF.length rF, .slice MF msF.length mF], .slice O4 (k + 1) oc4, by simp [HACC.out], by rw [List.length_append, HCL.out]; simp; omega, ownsRow_keepG h2 hcne, ?_, ?_, ?_⟩, ?_⟩
              · have := hbq'.set 5 (.slice O4 (k + 1) oc4)
                simpa using this
              · intro i' hi'
                by_cases hik : i' < acc.length
                · rw [List.getElem_append_left hik]
                  exact ((HDD.out i' hik).keep hKEEP).app _
                · have hik2 : i' = acc.length := by simp at hi'; omega
                  subst hik2
                  rw [List.getElem_append_right (Nat.le_refl _)]
                  simp only [Nat.sub_self, List.getElem_cons_zero]
                  have hcl2 : cells'.length = acc.length * 4 := by rw [HCL.out, HACC.out]
                  refine ⟨AF, cF, RF, rF, MF, mF, ?_, ?_, ?_, ?_, HO.out.src, HO.out.refs.sameAt (fun a ha => hsame _ (HO.out.dr a ha).1 (HO.out.dr a ha).2.1), HO.out.needs.sameAt (fun a ha => hsame _ (HO.out.dm a ha).1 (HO.out.dm a ha).2.1), fun a ha => hfr _ (HO.out.dr a ha).1 (HO.out.dr a ha).2.1, fun a ha => hfr _ (HO.out.dm a ha).1 (HO.out.dm a ha).2.1⟩
                  · rw [List.getElem?_append_right (by omega), hcl2, Nat.sub_self]; rfl
                  · rw [List.getElem?_append_right (by omega), hcl2, show acc.length * 4 + 1 - acc.length * 4 = 1 by omega]; rfl
                  · rw [List.getElem?_append_right (by omega), hcl2, show acc.length * 4 + 2 - acc.length * 4 = 2 by omega]; rfl
                  · rw [List.getElem?_append_right (by omega), hcl2, show acc.length * 4 + 3 - acc.length * 4 = 3 by omega]; rfl
              · intro i' hi'
                by_cases hik : i' < acc.length
                · rw [List.getElem_append_left hik]; exact HG.out i' hik
                · have hik2 : i' = acc.length := by simp at hi'; omega
                  subst hik2
                  rw [List.getElem_append_right (Nat.le_refl _)]
                  simp only [Nat.sub_self, List.getElem_cons_zero]
                  have := HO.out.good
                  rw [← HACC.out] at this
                  exact this
              · exact ((HBE.out.trans (HBE1.out.mono (by omega))).trans (hbelow.mono (by omega))).setCell (by simp only; omega) _
            clear h2 hg h5 hvs hbelow hbq' hfr hkeep hsame hKEEP hcne HBQ6 HOWNO HBE1 q5 b0 b1 b2 b3 HDD HO
            go_wp2_with fail
            go_roundw
            case rel => first | exact ⟨k + 1, by omega, by go_num, HX9.out⟩ | ((repeat apply Exists.intro); exact ⟨⟨k + 1, by omega, by go_num, HX9.out⟩, rfl⟩)
            case measure => simp [intOf]; omega
          · go_upto_region 18 with fail
            generalize W5 = W6 at *
            clear b1 b3 f1 f3 x1 x4 HX5
            obtain ⟨ob', nmF, aF, lF, msF, AF, RF, MF, cF, rF, mF, heq, hO⟩ := HP.out
            injection heq with heq
            injection heq with heq
            injection heq with heq
            subst heq
            have hbe1 := hO.below
            have hownO : W6.ownsRow (q + 1) 57 4 (.slice O1 k oc) k cells' := ownsRow_keepG HOWN.out (fun c hc => hbe1.block c (HOWN.out.lt c hc).2)
            have hbq : Blk W6 q 40 _ := Blk.below HBOX.out hbe1 hqW
            have q5 := hbq.cell 5
            have b0 := hO.blk.cell 0; have b1 := hO.blk.cell 1; have b2 := hO.blk.cell 2; have b3 := hO.blk.cell 3
            simp only [List.getElem?_cons_zero, List.getElem?_cons_succ] at q5 b0 b1 b2 b3
            have HO := Lib.hid hO; have HBQ6 := Lib.hid hbq; have HOWNO := Lib.hid hownO; have HBE1 := Lib.hid hbe1
            have hV10 : W0.heap.size < W6.heap.size := by have := hO.lo; have := Blk.lt hO.blk; omega
            clear hO hbq hownO hbe1 HP HN1 HA1
            obtain ⟨i57, hi57, hz0, hz1, hz2⟩ := info_parts info57
            have HI := Lib.hid hi57; have HZ0 := Lib.hid hz0; have HZ1 := Lib.hid hz1; have HZ2 := Lib.hid hz2
            clear hi57 hz0 hz1 hz2
            go_wp2_with (refine wpList_append_own_at _ rfl (.tmp 132) (.tmp 134) 38 rfl (q + 1) 57 i57 (.agg #[.string ⟨#[]⟩, ns, ns, ns]) 4 88 Tryd.underlying38 HI.out HZ0.out HZ1.out HZ2.out rfl (by decide) (.slice O1 k oc) k cells' rfl (HOWNO.out.alloc _) ⟨W6.heap.size, 0, none⟩ 1 1 [vs nmF, .slice AF aF.length cF, .slice RF lF.length rF, .slice MF msF.length mF] rfl rfl (new_cells W6 57 [vs nmF, .slice AF aF.length cF, .slice RF lF.length rF, .slice MF msF.length mF]) (by simp [Value.oneCell']) (by unfold maxLen; omega) (by omega) (by simp; omega) ?_)
            intro v' w' h2 hg _ h5
            obtain ⟨O4, oc4, hv4⟩ := own_form h2
            subst hv4
            have hvs : (W6.alloc (.cells #[vs nmF, .slice AF aF.length cF, .slice RF lF.length rF, .slice MF msF.length mF] 57)).heap.size = W6.heap.size + 1 := by simp
            have hbelow : Below (q + 1) W6 w' := ((Below.refl (q + 1) W6).alloc (by omega) _).grown hg (by rw [hvs]; omega) (fun c hc => (HROW.out c hc).1)
            have hsz' : W6.heap.size ≤ w'.heap.size := hbelow.size
            have hbq' : Blk w' q 40 _ := Blk.below HBQ6.out hbelow (by omega)
            have q5' := hbq'.cell 5; have g5' := hbq'.frozen 5
            simp only [List.getElem?_cons_zero, List.getElem?_cons_succ] at q5'
            have hfr : ∀ b, W0.heap.size ≤ b → b < W6.heap.size → q < b ∧ b < (w'.setCell ⟨q, 5, none⟩ (.slice O4 (k + 1) oc4)).heap.size ∧ (Value.slice O4 (k + 1) oc4).ownBlock ≠ some b := fun b hb1 hb2 => by
              refine ⟨by omega, by rw [World.size_setCell]; omega, fun e => ?_⟩
              rcases h5 with h5 | h5
              · rw [h5] at e; have := (HROW.out b e).2; omega
              · rw [h5] at e; injection e with e; omega
            have hkeep : ∀ c, q < c → c < W6.heap.size → (Value.slice O1 k oc).ownBlock ≠ some c → (w'.setCell ⟨q, 5, none⟩ (.slice O4 (k + 1) oc4)).heap[c]? = W6.heap[c]? := fun c hc1 hc2 hne => by
              rw [Below.heap_setCell w' ⟨q, 5, none⟩ _ c (by simp only; omega), hg.block c (by rw [hvs]; omega) (fun e => hne e.symm), Below.heap_alloc W6 _ c hc2]
            have hsame : ∀ b, W0.heap.size ≤ b → b < W6.heap.size → (w'.setCell ⟨q, 5, none⟩ (.slice O4 (k + 1) oc4)).heap[b]? = W6.heap[b]? := fun b hb1 hb2 => hkeep b (by omega) hb2 (fun e => by have := (HROW.out b e).2; omega)
            have hKEEP : Keep q (.slice O1 k oc) (.slice O4 (k + 1) oc4) W0 (w'.setCell ⟨q, 5, none⟩ (.slice O4 (k + 1) oc4)) := by
              refine ⟨by rw [World.size_setCell]; omega, fun c hc1 hc2 hne => ?_, fun c hc => ?_⟩
              · rw [hkeep c hc1 (by omega) hne]; exact HBE1.out.block c hc2
              · rcases h5 with h5 | h5
                · exact .inl (by rw [← h5]; exact hc)
                · rw [h5] at hc; injection hc with hc; exact .inr (by omega)
            have hcne : ∀ c, (Value.slice O4 (k + 1) oc4).ownBlock = some c → (w'.setCell ⟨q, 5, none⟩ (.slice O4 (k + 1) oc4)).heap[c]? = w'.heap[c]? := fun c hc => Below.heap_setCell w' ⟨q, 5, none⟩ _ c (by have := (h2.lt c hc).1; simp only; omega)
            have HX9 : Hid (OQ w W2 q kb (k + 1) (w'.setCell ⟨q, 5, none⟩ (.slice O4 (k + 1) oc4))) := by
              refine ⟨⟨acc ++ [⟨nmF, aF, lF, msF⟩], cells' ++ [vs nmF, .slice AF aF.length cF, .slice RF lF.length rF, .slice MF msF.length mF], .slice O4 (k + 1) oc4, by simp [HACC.out], by rw [List.length_append, HCL.out]; simp; omega, ownsRow_keepG h2 hcne, ?_, ?_, ?_⟩, ?_⟩
              · have := hbq'.set 5 (.slice O4 (k + 1) oc4)
                simpa using this
              · intro i' hi'
                by_cases hik : i' < acc.length
                · rw [List.getElem_append_left hik]
                  exact ((HDD.out i' hik).keep hKEEP).app _
                · have hik2 : i' = acc.length := by simp at hi'; omega
                  subst hik2
                  rw [List.getElem_append_right (Nat.le_refl _)]
                  simp only [Nat.sub_self, List.getElem_cons_zero]
                  have hcl2 : cells'.length = acc.length * 4 := by rw [HCL.out, HACC.out]
                  refine ⟨AF, cF, RF, rF, MF, mF, ?_, ?_, ?_, ?_, HO.out.src, HO.out.refs.sameAt (fun a ha => hsame _ (HO.out.dr a ha).1 (HO.out.dr a ha).2.1), HO.out.needs.sameAt (fun a ha => hsame _ (HO.out.dm a ha).1 (HO.out.dm a ha).2.1), fun a ha => hfr _ (HO.out.dr a ha).1 (HO.out.dr a ha).2.1, fun a ha => hfr _ (HO.out.dm a ha).1 (HO.out.dm a ha).2.1⟩
                  · rw [List.getElem?_append_right (by omega), hcl2, Nat.sub_self]; rfl
                  · rw [List.getElem?_append_right (by omega), hcl2, show acc.length * 4 + 1 - acc.length * 4 = 1 by omega]; rfl
                  · rw [List.getElem?_append_right (by omega), hcl2, show acc.length * 4 + 2 - acc.length * 4 = 2 by omega]; rfl
                  · rw [List.getElem?_append_right (by omega), hcl2, show acc.length * 4 + 3 - acc.length * 4 = 3 by omega]; rfl
              · intro i' hi'
                by_cases hik : i' < acc.length
                · rw [List.getElem_append_left hik]; exact HG.out i' hik
                · have hik2 : i' = acc.length := by simp at hi'; omega
                  subst hik2
                  rw [List.getElem_append_right (Nat.le_refl _)]
                  simp only [Nat.sub_self, List.getElem_cons_zero]
                  have := HO.out.good
                  rw [← HACC.out] at this
                  exact this
              · exact ((HBE.out.trans (HBE1.out.mono (by omega))).trans (hbelow.mono (by omega))).setCell (by simp only; omega) _
            clear h2 hg h5 hvs hbelow hbq' hfr hkeep hsame hKEEP hcne HBQ6 HOWNO HBE1 q5 b0 b1 b2 b3 HDD HO
            go_wp2_with fail
            go_roundw
            case rel => first | exact ⟨k + 1, by omega, by go_num, HX9.out⟩ | ((repeat apply Exists.intro); exact ⟨⟨k + 1, by omega, by go_num, HX9.out⟩, rfl⟩)
            case measure => simp [intOf]; omega
          · exfalso
            rw [beq_iff_eq] at c1'
            omega
          · go_upto_region 18 with fail
            generalize W5 = W6 at *
            clear b1 b3 f1 f3 x1 x4 HX5
            obtain ⟨ob', nmF, aF, lF, msF, AF, RF, MF, cF, rF, mF, heq, hO⟩ := HP.out
            injection heq with heq
            injection heq with heq
            injection heq with heq
            subst heq
            have hbe1 := hO.below
            have hownO : W6.ownsRow (q + 1) 57 4 (.slice O1 k oc) k cells' := ownsRow_keepG HOWN.out (fun c hc => hbe1.block c (HOWN.out.lt c hc).2)
            have hbq : Blk W6 q 40 _ := Blk.below HBOX.out hbe1 hqW
            have q5 := hbq.cell 5
            have b0 := hO.blk.cell 0; have b1 := hO.blk.cell 1; have b2 := hO.blk.cell 2; have b3 := hO.blk.cell 3
            simp only [List.getElem?_cons_zero, List.getElem?_cons_succ] at q5 b0 b1 b2 b3
            have HO := Lib.hid hO; have HBQ6 := Lib.hid hbq; have HOWNO := Lib.hid hownO; have HBE1 := Lib.hid hbe1
            have hV10 : W0.heap.size < W6.heap.size := by have := hO.lo; have := Blk.lt hO.blk; omega
            clear hO hbq hownO hbe1 HP HN1 HA1
            obtain ⟨i57, hi57, hz0, hz1, hz2⟩ := info_parts info57
            have HI := Lib.hid hi57; have HZ0 := Lib.hid hz0; have HZ1 := Lib.hid hz1; have HZ2 := Lib.hid hz2
            clear hi57 hz0 hz1 hz2
            go_wp2_with (refine wpList_append_own_at _ rfl (.tmp 132) (.tmp 134) 38 rfl (q + 1) 57 i57 (.agg #[.string ⟨#[]⟩, ns, ns, ns]) 4 88 Tryd.underlying38 HI.out HZ0.out HZ1.out HZ2.out rfl (by decide) (.slice O1 k oc) k cells' rfl (HOWNO.out.alloc _) ⟨W6.heap.size, 0, none⟩ 1 1 [vs nmF, .slice AF aF.length cF, .slice RF lF.length rF, .slice MF msF.length mF] rfl rfl (new_cells W6 57 [vs nmF, .slice AF aF.length cF, .slice RF lF.length rF, .slice MF msF.length mF]) (by simp [Value.oneCell']) (by unfold maxLen; omega) (by omega) (by simp; omega) ?_)
            intro v' w' h2 hg _ h5
            obtain ⟨O4, oc4, hv4⟩ := own_form h2
            subst hv4
            have hvs : (W6.alloc (.cells #[vs nmF, .slice AF aF.length cF, .slice RF lF.length rF, .slice MF msF.length mF] 57)).heap.size = W6.heap.size + 1 := by simp
            have hbelow : Below (q + 1) W6 w' := ((Below.refl (q + 1) W6).alloc (by omega) _).grown hg (by rw [hvs]; omega) (fun c hc => (HROW.out c hc).1)
            have hsz' : W6.heap.size ≤ w'.heap.size := hbelow.size
            have hbq' : Blk w' q 40 _ := Blk.below HBQ6.out hbelow (by omega)
            have q5' := hbq'.cell 5; have g5' := hbq'.frozen 5
            simp only [List.getElem?_cons_zero, List.getElem?_cons_succ] at q5'
            have hfr : ∀ b, W0.heap.size ≤ b → b < W6.heap.size → q < b ∧ b < (w'.setCell ⟨q, 5, none⟩ (.slice O4 (k + 1) oc4)).heap.size ∧ (Value.slice O4 (k + 1) oc4).ownBlock ≠ some b := fun b hb1 hb2 => by
              refine ⟨by omega, by rw [World.size_setCell]; omega, fun e => ?_⟩
              rcases h5 with h5 | h5
              · rw [h5] at e; have := (HROW.out b e).2; omega
              · rw [h5] at e; injection e with e; omega
            have hkeep : ∀ c, q < c → c < W6.heap.size → (Value.slice O1 k oc).ownBlock ≠ some c → (w'.setCell ⟨q, 5, none⟩ (.slice O4 (k + 1) oc4)).heap[c]? = W6.heap[c]? := fun c hc1 hc2 hne => by
              rw [Below.heap_setCell w' ⟨q, 5, none⟩ _ c (by simp only; omega), hg.block c (by rw [hvs]; omega) (fun e => hne e.symm), Below.heap_alloc W6 _ c hc2]
            have hsame : ∀ b, W0.heap.size ≤ b → b < W6.heap.size → (w'.setCell ⟨q, 5, none⟩ (.slice O4 (k + 1) oc4)).heap[b]? = W6.heap[b]? := fun b hb1 hb2 => hkeep b (by omega) hb2 (fun e => by have := (HROW.out b e).2; omega)
            have hKEEP : Keep q (.slice O1 k oc) (.slice O4 (k + 1) oc4) W0 (w'.setCell ⟨q, 5, none⟩ (.slice O4 (k + 1) oc4)) := by
              refine ⟨by rw [World.size_setCell]; omega, fun c hc1 hc2 hne => ?_, fun c hc => ?_⟩
              · rw [hkeep c hc1 (by omega) hne]; exact HBE1.out.block c hc2
              · rcases h5 with h5 | h5
                · exact .inl (by rw [← h5]; exact hc)
                · rw [h5] at hc; injection hc with hc; exact .inr (by omega)
            have hcne : ∀ c, (Value.slice O4 (k + 1) oc4).ownBlock = some c → (w'.setCell ⟨q, 5, none⟩ (.slice O4 (k + 1) oc4)).heap[c]? = w'.heap[c]? := fun c hc => Below.heap_setCell w' ⟨q, 5, none⟩ _ c (by have := (h2.lt c hc).1; simp only; omega)
            have HX9 : Hid (OQ w W2 q kb (k + 1) (w'.setCell ⟨q, 5, none⟩ (.slice O4 (k + 1) oc4))) := by
              refine ⟨⟨acc ++ [⟨nmF, aF, lF, msF⟩], cells' ++ [vs nmF, .slice AF aF.length cF, .slice RF lF.length rF, .slice MF msF.length mF], .slice O4 (k + 1) oc4, by simp [HACC.out], by rw [List.length_append, HCL.out]; simp; omega, ownsRow_keepG h2 hcne, ?_, ?_, ?_⟩, ?_⟩
              · have := hbq'.set 5 (.slice O4 (k + 1) oc4)
                simpa using this
              · intro i' hi'
                by_cases hik : i' < acc.length
                · rw [List.getElem_append_left hik]
                  exact ((HDD.out i' hik).keep hKEEP).app _
                · have hik2 : i' = acc.length := by simp at hi'; omega
                  subst hik2
                  rw [List.getElem_append_right (Nat.le_refl _)]
                  simp only [Nat.sub_self, List.getElem_cons_zero]
                  have hcl2 : cells'.length = acc.length * 4 := by rw [HCL.out, HACC.out]
                  refine ⟨AF, cF, RF, rF, MF, mF, ?_, ?_, ?_, ?_, HO.out.src, HO.out.refs.sameAt (fun a ha => hsame _ (HO.out.dr a ha).1 (HO.out.dr a ha).2.1), HO.out.needs.sameAt (fun a ha => hsame _ (HO.out.dm a ha).1 (HO.out.dm a ha).2.1), fun a ha => hfr _ (HO.out.dr a ha).1 (HO.out.dr a ha).2.1, fun a ha => hfr _ (HO.out.dm a ha).1 (HO.out.dm a ha).2.1⟩
                  · rw [List.getElem?_append_right (by omega), hcl2, Nat.sub_self]; rfl
                  · rw [List.getElem?_append_right (by omega), hcl2, show acc.length * 4 + 1 - acc.length * 4 = 1 by omega]; rfl
                  · rw [List.getElem?_append_right (by omega), hcl2, show acc.length * 4 + 2 - acc.length * 4 = 2 by omega]; rfl
                  · rw [List.getElem?_append_right (by omega), hcl2, show acc.length * 4 + 3 - acc.length * 4 = 3 by omega]; rfl
              · intro i' hi'
                by_cases hik : i' < acc.length
                · rw [List.getElem_append_left hik]; exact HG.out i' hik
                · have hik2 : i' = acc.length := by simp at hi'; omega
                  subst hik2
                  rw [List.getElem_append_right (Nat.le_refl _)]
                  simp only [Nat.sub_self, List.getElem_cons_zero]
                  have := HO.out.good
                  rw [← HACC.out] at this
                  exact this
              · exact ((HBE.out.trans (HBE1.out.mono (by omega))).trans (hbelow.mono (by omega))).setCell (by simp only; omega) _
            clear h2 hg h5 hvs hbelow hbq' hfr hkeep hsame hKEEP hcne HBQ6 HOWNO HBE1 q5 b0 b1 b2 b3 HDD HO
            go_wp2_with fail
            go_roundw
            case rel => first | exact ⟨k + 1, by omega, by go_num, HX9.out⟩ | ((repeat apply Exists.intro); exact ⟨⟨k + 1, by omega, by go_num, HX9.out⟩, rfl⟩)
            case measure => simp [intOf]; omega
    · have hlt' : ¬ ((k : Int) ≤ (xm.toNat : Int) % 4) := by omega
      have hk4 : k = xm.toNat % 4 + 1 := by omega
      have HK4 := Lib.hid hk4
      clear hk4
      have hbr := Blk.below HBR.out HBE.out hqw
      have HB4 : Hid (Below w.heap.size w W0) := HB2.out.trans (HBE.out.mono (by omega))
      have HR4 := Lib.hid hbr
      clear hbr
      have z0 := HBOX.out.cell 0; have z1 := HBOX.out.cell 1; have z2 := HBOX.out.cell 2; have z3 := HBOX.out.cell 3; have z4 := HBOX.out.cell 4; have z5 := HBOX.out.cell 5
      simp only [List.getElem?_cons_zero, List.getElem?_cons_succ] at z0 z1 z2 z3 z4 z5
      go_wp2_with (refine wpList_store_blk rfl (.tmp 4) (.tmp 151) rfl rfl (cs' := [vb kb, .string ⟨#[]⟩, .string ⟨#[]⟩, ns, ns, .slice O1 k oc]) rfl HR4.out rfl info40 rfl ?_)
      intro w8 hrs
      have d0 := hrs.blk.cell 0; have d1 := hrs.blk.cell 1; have d2 := hrs.blk.cell 2; have d3 := hrs.blk.cell 3; have d4 := hrs.blk.cell 4; have d5 := hrs.blk.cell 5
      simp only [List.getElem?_cons_zero, List.getElem?_cons_succ] at d0 d1 d2 d3 d4 d5
      have hb8 : Below w.heap.size w w8 := hrs.below _ _ HB4.out (by omega)
      have hfin : RqPost w (.returned (.agg #[vb kb, .string ⟨#[]⟩, .string ⟨#[]⟩, ns, ns, .slice O1 k oc])) w8 := by
        have hk : hasK kb.toNat = 4 := by rw [hkb7.out]; rfl
        have hkb := hkb7.out
        obtain ⟨O2, co, hv2, hO2⟩ := outsE_own HOWN.out HACC.out HDD.out (fun c hc => hrs.other c (by omega)) hb8
        refine ⟨⟨_, ⟨kb, [], [], [], [], acc⟩, rfl, ⟨none, 0, none, 0, O2, co, by rw [hv2]; rfl, SrcIs.nil _ _, StrsIs.nil _ _, hO2⟩, ?_⟩, hb8⟩
        exact ⟨by simp only; omega, by simp only; omega, by simp, by simp, by simp, ⟨by simp, fun x h => by cases h⟩, ⟨by have := HACC.out; have := HK4.out; simp only; omega, HG.out⟩, (fun _ => by have := HACC.out; have := HK4.out; simp only; omega), by unfold canonV; simp only [hk]; rfl⟩
      have HF := Lib.hid hfin
      clear hrs hfin hb8 z0 z1 z2 z3 z4 z5
      go_wp2_with fail
      exact bodyPost_ret (v := .agg #[vb kb, .string ⟨#[]⟩, .string ⟨#[]⟩, ns, ns, .slice O1 k oc]) (by simp [results, Tryd.results14, go_sem, *]) rfl HF.out
end Go.Proofs.YtggmogjgaoobjaaDoor
