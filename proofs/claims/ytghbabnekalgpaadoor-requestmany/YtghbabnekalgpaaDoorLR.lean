/- The walk of RequestReads: what any bytes are is the document's answer. -/
import Derived.Test.YtghbabnekalgpaaDoorE5
import Derived.Test.YtghbabnekalgpaaDoorA1
import Derived.Test.YtghbabnekalgpaaDoorL0
import Derived.Test.YtghbabnekalgpaaDoorW8
namespace Go.Proofs.YtghbabnekalgpaaDoor
open Go.RowKit BaseMath WireMath ReqMath

set_option maxHeartbeats 4000000 in
set_option maxRecDepth 100000 in
theorem decodes_any (A : Option Addr) (c : Nat) (p : List By) (hp : p.length ≤ 70000) (hN : A = none → c = 0) (hc : p.length ≤ c) (w : World) (ht : KTab w) (hA : SrcIs w A p) :
    Calls Tryd.prog 20 #[.slice A p.length c] w fun e w' => e = .returned (.bool true) ∧ Below w.heap.size w w' := by
  have HD := Lib.hid (decode_any A c p hp hN w ht hA)
  have HA := Lib.hid hA
  have HSM := Lib.hid (decV_small p)
  have HRD : Hid (∀ W, Below w.heap.size w W → Calls Tryd.prog 55 #[.slice A p.length c] W (DecPost W (decV p))) := fun W hW => rdecode_any A c p hp hN hc W (HA.out.below hW)
  clear hA ht HA
  obtain ⟨r, er⟩ : ∃ r, r = (decV p).1 := ⟨_, rfl⟩
  obtain ⟨f, ef⟩ : ∃ f, f = (decV p).2 := ⟨_, rfl⟩
  have hpair : decV p = (r, f) := by rw [er, ef]
  rw [hpair] at HD HRD HSM
  clear er ef hpair
  go_enter Tryd.func20, Tryd.ntmps20
  go_wp2_with fail
  refine HD.out.mono ?_
  rintro e w1 ⟨hb1, v1, rfl, hv1⟩
  obtain ⟨A1, a1, R1, r1, O1, o1, rfl, h1, h2, h3⟩ := hv1
  have HV1 : Hid (ReqIs w1 (.agg #[vb r.kind, vs r.name, vs r.path, .slice A1 r.arch.length a1, .slice R1 r.refs.length r1, .slice O1 r.outs.length o1]) r) := ⟨A1, a1, R1, r1, O1, o1, rfl, h1, h2, h3⟩
  have HB1 := Lib.hid hb1
  have hbx : Below w1.heap.size w1 (w1.alloc (.cells #[vb r.kind, vs r.name, vs r.path, .slice A1 r.arch.length a1, .slice R1 r.refs.length r1, .slice O1 r.outs.length o1] 40)) := (Below.refl _ _).alloc (Nat.le_refl _) _
  have HBX := Lib.hid (Blk.new w1 40 #[vb r.kind, vs r.name, vs r.path, .slice A1 r.arch.length a1, .slice R1 r.refs.length r1, .slice O1 r.outs.length o1])
  have HB2 : Hid (Below w.heap.size w _) := HB1.out.trans (hbx.mono HB1.out.size)
  have HV2 := Lib.hid (HV1.out.below hbx)
  clear hb1 h1 h2 h3 hbx HV1 HB1 HD
  go_wp2_with fail
  generalize w1.alloc (.cells #[vb r.kind, vs r.name, vs r.path, .slice A1 r.arch.length a1, .slice R1 r.refs.length r1, .slice O1 r.outs.length o1] 40) = w2 at *
  refine (HRD.out w2 HB2.out).mono ?_
  rintro e w3 ⟨hb3, v3, rfl, hv3⟩
  obtain ⟨A3, a3, R3, r3, O3, o3, rfl, h1, h2, h3⟩ := hv3
  have HV3 : Hid (ReqIs w3 (.agg #[vb r.kind, vs r.name, vs r.path, .slice A3 r.arch.length a3, .slice R3 r.refs.length r3, .slice O3 r.outs.length o3]) r) := ⟨A3, a3, R3, r3, O3, o3, rfl, h1, h2, h3⟩
  have hbx : Below w3.heap.size w3 (w3.alloc (.cells #[vb r.kind, vs r.name, vs r.path, .slice A3 r.arch.length a3, .slice R3 r.refs.length r3, .slice O3 r.outs.length o3] 40)) := (Below.refl _ _).alloc (Nat.le_refl _) _
  have HBX3 := Lib.hid (Blk.new w3 40 #[vb r.kind, vs r.name, vs r.path, .slice A3 r.arch.length a3, .slice R3 r.refs.length r3, .slice O3 r.outs.length o3])
  have HBXa := Lib.hid ((HBX.out.below hb3 HBX.out.lt).below hbx (HBX.out.below hb3 HBX.out.lt).lt)
  have HVa := Lib.hid ((HV2.out.below hb3).below hbx)
  have HVb := Lib.hid (HV3.out.below hbx)
  have HB4 : Hid (Below w.heap.size w _) := (HB2.out.trans (hb3.mono HB2.out.size)).trans (hbx.mono (HB2.out.trans (hb3.mono HB2.out.size)).size)
  have c0 := HBXa.out.cell 0; have c1 := HBXa.out.cell 1; have c2 := HBXa.out.cell 2; have c3 := HBXa.out.cell 3; have c4 := HBXa.out.cell 4; have c5 := HBXa.out.cell 5
  simp only [List.getElem?_cons_zero, List.getElem?_cons_succ] at c0 c1 c2 c3 c4 c5
  have hff : ((f : Int) == f) = true := by simp
  clear hb3 h1 h2 h3 hbx HV2 HV3 HB2 HBX HRD
  go_wp2_with fail
  refine (alike_any r HSM.out _ _ _ HVa.out HVb.out).mono ?_
  rintro e w5 ⟨rfl, hb5⟩
  have HB5 : Hid (Below w.heap.size w w5) := HB4.out.trans (hb5.mono HB4.out.size)
  clear hb5
  go_wp2_with fail
  go_ret
  exact ⟨rfl, HB5.out⟩
/-- two bytes' worth of text and one byte ahead of it, joined: what stands behind -/
theorem byte_mod (k m : Nat) (hm : 0 < m) (hm2 : m < 256) : ∃ x : By, vb x = .int .u8 ((k : Int) % (m : Int)) := by
  refine ⟨UInt8.ofNat (k % m), ?_⟩
  have h1 := Nat.mod_lt k hm
  rw [vb_ofNat, Nat.mod_eq_of_lt (by omega)]
  rw [Int.natCast_emod]
theorem byte_sum (k : Nat) : ∃ x : By, vb x = .int .u8 (2 + (k : Int) % 9) := by
  refine ⟨UInt8.ofNat (2 + k % 9), ?_⟩
  rw [vb_ofNat, Nat.mod_eq_of_lt (by omega)]
  congr 1
theorem one_src {x : By} {v : Value} (h : vb x = v) (w : World) : SrcIs (w.alloc (.cells #[v] 5)) (some ⟨w.heap.size, 0, none⟩) [x] := by
  have := new_src w [x]
  rw [← h]; exact this
set_option maxHeartbeats 4000000 in
set_option maxRecDepth 100000 in
theorem reads_long (A : Option Addr) (c : Nat) (n : Nat) (k : By) (hn : 300 < n) (hm : n ≤ maxLen) (w : World) (ht : KTab w) :
    Calls Tryd.prog 4 #[.slice A n c, vb k] w fun e w' => e = .returned (.bool true) ∧ Below w.heap.size w w' := by
  unfold maxLen at hm
  have HT := Lib.hid ht; clear ht
  have hn' : (decide ((300 : Int) < n)) = true := decide_eq_true (by omega)
  go_enter Tryd.func4, Tryd.ntmps4
  go_wp2_with fail
  refine (lone_any w HT.out).mono ?_
  rintro e w1 ⟨rfl, hb1⟩
  have HB1 := Lib.hid hb1
  clear hb1
  go_wp2_with fail
  refine (lone_any w1 (HT.out.belowS HB1.out)).mono ?_
  rintro e w2 ⟨rfl, hb2⟩
  have HB2 : Hid (Below w.heap.size w w2) := HB1.out.trans (hb2.mono HB1.out.size)
  clear hb2
  go_wp2_with fail
  go_ret
  exact ⟨rfl, HB2.out⟩
set_option maxHeartbeats 4000000 in
set_option maxRecDepth 100000 in
theorem reads_walk (A : Option Addr) (c : Nat) (p : List By) (k : By) (w : World) (hm : p.length ≤ maxLen) (hc : p.length ≤ c) (hN : A = none → c = 0) (hA : SrcIs w A p) (ht : KTab w) :
    Calls Tryd.prog 4 #[.slice A p.length c, vb k] w fun e w' => e = .returned (.bool true) ∧ Below w.heap.size w w' := by
  by_cases hlong : 300 < p.length
  · exact reads_long A c p.length k hlong hm w ht
  · have hn' : (decide ((300 : Int) < p.length)) = false := decide_eq_false (by omega)
    have HT := Lib.hid ht; have HA := Lib.hid hA; have HN := Lib.hid hN
    clear hA ht hN hm
    have hk : k.toNat < 256 := k.toNat_lt
    obtain ⟨x, hx⟩ := byte_mod k.toNat 14 (by decide) (by decide)
    obtain ⟨y, hy⟩ := byte_sum k.toNat
    have HX := Lib.hid hx; have HY := Lib.hid hy
    clear hx hy
    go_enter Tryd.func4, Tryd.ntmps4
    go_wp2_with fail
    refine (lone_any w HT.out).mono ?_
    rintro e w1 ⟨rfl, hb1⟩
    have HB1 := Lib.hid hb1
    clear hb1
    go_wp2_with fail
    refine (decodes_any A c p (by omega) HN.out hc w1 (HT.out.belowS HB1.out) (HA.out.below HB1.out)).mono ?_
    rintro e w2 ⟨rfl, hb2⟩
    have HB2 : Hid (Below w.heap.size w w2) := HB1.out.trans (hb2.mono HB1.out.size)
    clear hb2 HB1
    have ha2 : Below w2.heap.size w2 (w2.alloc (.cells #[.int .u8 ((k.toNat : Int) % 14)] 5)) := (Below.refl _ _).alloc (Nat.le_refl _) _
    have HB3 : Hid (Below w.heap.size w (w2.alloc (.cells #[.int .u8 ((k.toNat : Int) % 14)] 5))) := HB2.out.trans (ha2.mono HB2.out.size)
    have HS3 := Lib.hid (one_src HX.out w2)
    clear ha2
    go_wp2_with fail
    refine (join_any (some ⟨w2.heap.size, 0, none⟩) A 1 c [x] p (by simp; omega) (fun h => by cases h) HN.out _ HS3.out (HA.out.below HB3.out)).mono ?_
    rintro e w4 ⟨v4, rfl, hr4⟩
    obtain ⟨A4, c4, rfl, hs4, hn4, hc4, -⟩ := hr4.src
    have HB4 : Hid (Below w.heap.size w w4) := HB3.out.trans (hr4.below.mono HB3.out.size)
    have HS4 := Lib.hid hs4; have HN4 := Lib.hid hn4
    clear hr4 hs4 hn4 HB3 HS3 HB2
    go_wp2_with fail
    refine (decodes_any A4 c4 ([x] ++ p) (by simp; omega) HN4.out hc4 w4 (HT.out.belowS HB4.out) HS4.out).mono ?_
    rintro e w5 ⟨rfl, hb5⟩
    have HB5 : Hid (Below w.heap.size w w5) := HB4.out.trans (hb5.mono HB4.out.size)
    clear hb5 HB4 HS4 HN4
    have ha5 : Below w5.heap.size w5 (w5.alloc (.cells #[.int .u8 (2 + (k.toNat : Int) % 9)] 5)) := (Below.refl _ _).alloc (Nat.le_refl _) _
    have HB6 : Hid (Below w.heap.size w (w5.alloc (.cells #[.int .u8 (2 + (k.toNat : Int) % 9)] 5))) := HB5.out.trans (ha5.mono HB5.out.size)
    have HS6 := Lib.hid (one_src HY.out w5)
    have hcv := run_text_src (cap := c) (HA.out.below HB6.out)
    clear ha5
    go_wp2_with fail
    clear hcv
    refine (rtextb_any p (by omega) _).mono ?_
    rintro e w7 ⟨v7, rfl, hr7⟩
    obtain ⟨A7, c7, rfl, hs7, hn7, hc7, -⟩ := hr7.src
    have HB7 : Hid (Below w.heap.size w w7) := HB6.out.trans (hr7.below.mono HB6.out.size)
    have HS7 := Lib.hid hs7; have HN7 := Lib.hid hn7
    have HS6b := Lib.hid (HS6.out.below hr7.below)
    have htl : (textB p).length ≤ 400 := by rw [textB_length]; omega
    clear hr7 hs7 hn7 HB6 HS6 HB5
    generalize textB p = tp at *
    go_wp2_with fail
    refine (join_any (some ⟨w5.heap.size, 0, none⟩) A7 1 c7 [y] tp (by simp; omega) (fun h => by cases h) HN7.out _ HS6b.out HS7.out).mono ?_
    rintro e w8 ⟨v8, rfl, hr8⟩
    obtain ⟨A8, c8, rfl, hs8, hn8, hc8, -⟩ := hr8.src
    have HB8 : Hid (Below w.heap.size w w8) := HB7.out.trans (hr8.below.mono HB7.out.size)
    have HS8 := Lib.hid hs8; have HN8 := Lib.hid hn8
    clear hr8 hs8 hn8 HB7 HS7 HS6b HN7
    go_wp2_with fail
    refine (decodes_any A8 c8 ([y] ++ tp) (by simp; omega) HN8.out hc8 w8 (HT.out.belowS HB8.out) HS8.out).mono ?_
    rintro e w9 ⟨rfl, hb9⟩
    have HB9 : Hid (Below w.heap.size w w9) := HB8.out.trans (hb9.mono HB8.out.size)
    clear hb9
    go_wp2_with fail
    go_ret
    exact ⟨rfl, HB9.out⟩
end Go.Proofs.YtghbabnekalgpaaDoor
