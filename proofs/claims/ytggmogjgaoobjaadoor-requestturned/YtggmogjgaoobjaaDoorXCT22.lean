/- The contract of the reference's Decode: several outputs, what holds between its rounds. -/
import Derived.Test.YtggmogjgaoobjaaDoorXCT20
namespace Go.Proofs.YtggmogjgaoobjaaDoor
open Go.RowKit BaseMath WireMath ReqMath

theorem str_bytes2 (s : List By) (w : World) : ∃ c w2, (convert 9 37 (.string ⟨s.toArray⟩)).run Tryd.prog w = .ok (.slice (some ⟨w.heap.size, 0, none⟩) s.length c) w2 ∧ SrcIs w2 (some ⟨w.heap.size, 0, none⟩) s ∧ Below w.heap.size w w2 ∧ w.heap.size < w2.heap.size := by
  have h := run_bytes_of_string (P := Tryd.prog) w 9 37 5 ⟨s.toArray⟩ Tryd.underlying9 Tryd.underlying37 Tryd.underlying5
  have hs : (ByteArray.mk s.toArray).size = s.length := by simp [ByteArray.size]
  rw [hs] at h
  refine ⟨_, _, h, ?_, (Below.refl _ _).drew.alloc (Nat.le_refl _) _, by simp⟩
  refine bytes_src (fun k hk => ?_)
  rw [Nat.zero_add]
  have hc := World.cell?_alloc_mark w.drew (bytesRow ⟨s.toArray⟩ (grownCap w s.length 0 5)) 5 ((bytesRow ⟨s.toArray⟩ (grownCap w s.length 0 5)).size, (bytesRow ⟨s.toArray⟩ (grownCap w s.length 0 5)).size + 1) k
  refine Eq.trans hc ?_
  rw [bytesRow_at _ _ _ (by simpa using hk)]
  simp
theorem own_ints {w : World} {base n : Nat} {v : Value} {l : List Int} (h : w.ownsRow base 3 1 v n (l.map vi)) (hl : l.length = n) :
    ∃ A c, v = .slice A l.length c ∧ NeedsAt w A l ∧ ∀ a, A = some a → base ≤ a.block ∧ a.block < w.heap.size := by
  rcases h.2 with ⟨hv, h0⟩ | ⟨g, cap, cur, hv, hg, hc, hn, _, hs, ht⟩
  · have : l = [] := List.eq_nil_of_length_eq_zero (by omega)
    subst this
    exact ⟨none, 0, hv, NeedsAt.nil _ _, fun a ha => by cases ha⟩
  · rw [Nat.mul_one] at ht
    have hb : Blk w g 3 (l.map vi ++ cur.toList.drop n) := by rw [← ht, List.take_append_drop]; exact hc
    refine ⟨some ⟨g, 0, none⟩, cap, by rw [hv, hl], fun _ => ⟨g, 0, rfl, fun k hk => ?_⟩, fun a ha => by cases ha; exact ⟨hg, hb.lt⟩⟩
    rw [Nat.zero_add, hb.cell, List.getElem?_append_left (by simpa using hk)]; simp [hk]
theorem outs_own {W : World} {q n : Nat} {v : Value} {cells : List Value} {acc : List OutV} (h : W.ownsRow (q + 1) 57 4 v n cells) (hn : acc.length = n) (hD : ∀ i (h : i < acc.length), OutD W q v cells (i * 4) acc[i]) :
    ∃ O co, v = .slice O acc.length co ∧ OutsN W (q + 1) O acc := by
  rcases h.2 with ⟨hv, h0⟩ | ⟨g, cap, cur, hv, hg, hc, hnc, _, hs, ht⟩
  · have : acc = [] := List.eq_nil_of_length_eq_zero (by omega)
    subst this
    exact ⟨none, 0, hv, OutsN.nil _ _ _⟩
  · have hb : Blk W g 57 (cells ++ cur.toList.drop (n * 4)) := by rw [← ht, List.take_append_drop]; exact hc
    refine ⟨some ⟨g, 0, none⟩, cap, by rw [hv, hn], fun _ => ⟨g, 0, rfl, hg, fun i hi => ?_⟩⟩
    obtain ⟨A, ca, R, cr, M, cm, h0, h1, h2, h3, h4, d1, d2, d3⟩ := (hD i hi).app (cur.toList.drop (n * 4))
    rw [Nat.zero_add]
    exact ⟨A, ca, R, cr, M, cm, by rw [hb.cell]; exact h0, by rw [hb.cell]; exact h1, by rw [hb.cell]; exact h2, by rw [hb.cell]; exact h3, h4, fun a ha => (d1 a ha).1, fun a ha => (d2 a ha).1, fun a ha => (d3 a ha).1⟩
theorem But2.below {g o B : Nat} {w w' : World} (h : But2 g o w w') (hg : B ≤ g) (ho : B ≤ o) (hw : B ≤ w.heap.size) : Below B w w' :=
  ⟨h.os, h.tape, h.output, h.size, fun k hk => h.other k (by omega) (by omega) (by omega)⟩
/-- while the Outs are read -/
structure RtRel (w : World) (g q n : Nat) (all : Option (List OutV × Rd)) (L k : Nat) (wr : World) : Prop where
  ex : ∃ (acc : List OutV) (cells : List Value) (v : Value) (r : Rd), acc.length = k ∧ cells.length = k * 4 ∧ wr.ownsRow (q + 1) 57 4 v k cells ∧ Blk wr q 40 [.int .u8 7, .string ⟨#[]⟩, .string ⟨#[]⟩, ns, ns, v] ∧ (∀ i (h : i < acc.length), OutD wr q v cells (i * 4) acc[i]) ∧
    RdIs wr 125 w.heap.size g r ∧ r.ok ∧ r.p.length ≤ L ∧ outsGo (n - k) k acc r = all
  zero : Blk wr w.heap.size 40 [.int .u8 0, .string ⟨#[]⟩, .string ⟨#[]⟩, ns, ns, ns]
  below : Below w.heap.size w wr
/-- while an Out's needs are read -/
structure RnRel (w6 : World) (d g ob n place : Nat) (x y z : Value) (all : Option (List Int × Rd)) (L k : Nat) (wr : World) : Prop where
  ex : ∃ (acc : List Int) (v : Value) (r : Rd), acc.length = k ∧ wr.ownsRow w6.heap.size 3 1 v k (acc.map vi) ∧ Blk wr ob 57 [x, y, z, v] ∧ RdIs wr 125 d g r ∧ r.ok ∧ r.p.length ≤ L ∧ needsGo place (n - k) acc r = all
  but : But2 g ob w6 wr
theorem own_form {w : World} {base e size n : Nat} {v : Value} {xs : List Value} (h : w.ownsRow base e size v n xs) : ∃ A c, v = .slice A n c := by
  rcases h.2 with ⟨rfl, h0⟩ | ⟨k, cap, cur, rfl, _⟩
  · exact ⟨none, 0, by rw [h0]⟩
  · exact ⟨_, _, rfl⟩
theorem ownsRow_keepG {w w' : World} {base e size n : Nat} {v : Value} {xs : List Value} (h : w.ownsRow base e size v n xs) (hk : ∀ c, v.ownBlock = some c → w'.heap[c]? = w.heap[c]?) : w'.ownsRow base e size v n xs := by
  refine ⟨h.1, ?_⟩
  rcases h.2 with h1 | ⟨g, cap, cur, hv, hg, hc, hr⟩
  · exact .inl h1
  · refine .inr ⟨g, cap, cur, hv, hg, ?_, hr⟩
    rw [hk g (by rw [hv]; rfl)]; exact hc
end Go.Proofs.YtggmogjgaoobjaaDoor

/- The contract of the reference's Decode: too long, no kind. -/
namespace Go.Proofs.YtggmogjgaoobjaaDoor
open Go.RowKit BaseMath WireMath ReqMath

set_option maxHeartbeats 4000000 in
set_option maxRecDepth 100000 in
theorem rdecode_long (A : Option Addr) (c : Nat) (p : List By) (hlen : 2048 < p.length) (w : World) :
    Calls Tryd.prog 55 #[.slice A p.length c] w (DecPost w (decV p)) := by
  have HD : Hid (decV p = (zeroV, 3)) := by show _ = _; unfold decV; rw [if_pos hlen]
  have hl' : (2048 : Int) < p.length := by omega
  go_enter Tryd.func55, Tryd.ntmps55
  go_wp2_with fail
  exact bodyPost_ret (v := .tuple #[.agg #[.int .u8 0, .string ⟨#[]⟩, .string ⟨#[]⟩, ns, ns, ns], .int .i64 3]) (by simp [results, Tryd.results55, go_sem]) rfl (dec_zero HD.out ((Below.refl _ _).alloc (Nat.le_refl _) _))
set_option maxHeartbeats 4000000 in
set_option maxRecDepth 100000 in
theorem rdecode_0 (A : Option Addr) (c : Nat) (p : List By) (hp : p.length ≤ 500000) (hN : A = none → c = 0) (hc : p.length ≤ c) (hlen : ¬ 2048 < p.length) (hkk : numR 1 ⟨p, false⟩ = 0 ∨ 13 ≤ numR 1 ⟨p, false⟩) (w : World) (hA : SrcIs w A p) :
    Calls Tryd.prog 55 #[.slice A p.length c] w (DecPost w (decV p)) := by
  have HA := Lib.hid hA; have HN := Lib.hid hN
  clear hA hN
  have hl' : ¬ (2048 : Int) < p.length := by omega
  have HD : Hid (decV p = decK (kindR p) (after 1 ⟨p, false⟩)) := by show _ = _; unfold decV; rw [if_neg hlen]
  have HKV := Lib.hid (kind_vb p)
  have HKN : Hid ((kindR p).toNat = numR 1 ⟨p, false⟩) := by
    show _ = _
    have h : numR 1 ⟨p, false⟩ < 256 := numR_lt 1 _
    unfold kindR; rw [UInt8.toNat_ofNat_of_lt' h]
  have hb1 : Below w.heap.size w (w.alloc (.cells #[.int .u8 0, .string ⟨#[]⟩, .string ⟨#[]⟩, ns, ns, ns] 40)) := (Below.refl _ _).alloc (Nat.le_refl _) _
  have hb2 : Below w.heap.size w ((w.alloc (.cells #[.int .u8 0, .string ⟨#[]⟩, .string ⟨#[]⟩, ns, ns, ns] 40)).alloc (.cells #[.slice A p.length c, .bool false] 125)) := hb1.alloc hb1.size _
  have HBLK2 : Hid (Blk ((w.alloc (.cells #[.int .u8 0, .string ⟨#[]⟩, .string ⟨#[]⟩, ns, ns, ns] 40)).alloc (.cells #[.slice A p.length c, .bool false] 125)) w.heap.size 40 [.int .u8 0, .string ⟨#[]⟩, .string ⟨#[]⟩, ns, ns, ns]) := (Blk.new w 40 #[.int .u8 0, .string ⟨#[]⟩, .string ⟨#[]⟩, ns, ns, ns]).alloc _
  have HR2 : Hid (RdIs ((w.alloc (.cells #[.int .u8 0, .string ⟨#[]⟩, .string ⟨#[]⟩, ns, ns, ns] 40)).alloc (.cells #[.slice A p.length c, .bool false] 125)) 125 w.heap.size (w.heap.size + 1) ⟨p, false⟩) := by
    refine ⟨⟨A, c, ?_, HN.out, hc, HA.out.below hb2, fun h0 a ha => ?_⟩, by omega⟩
    · have := Blk.new (w.alloc (.cells #[.int .u8 0, .string ⟨#[]⟩, .string ⟨#[]⟩, ns, ns, ns] 40)) 125 #[.slice A p.length c, .bool false]
      rw [show (w.alloc (.cells #[.int .u8 0, .string ⟨#[]⟩, .string ⟨#[]⟩, ns, ns, ns] 40)).heap.size = w.heap.size + 1 by simp] at this
      exact this
    · obtain ⟨b, o, rfl, hb⟩ := HA.out h0
      cases ha
      exact hb.lt h0
  have HB2 := Lib.hid hb2
  clear hb1 hb2
  have hk256 : numR 1 ⟨p, false⟩ < 256 := numR_lt 1 _
  go_enter Tryd.func55, Tryd.ntmps55
  go_wp2_with fail
  refine (iwide_any w.heap.size (w.heap.size + 1) 1 (by decide) ⟨p, false⟩ (by simp only; omega) (fun h => by cases h) _ HR2.out).mono ?_
  rintro e w3 ⟨rfl, h1, h2⟩
  have HB3 : Hid (Below w.heap.size w w3) := HB2.out.trans (h2.below (by omega) HB2.out.size)
  have HBLK3 := Lib.hid (Blk.only HBLK2.out h2 (by omega : w.heap.size ≠ w.heap.size + 1))
  have HR3 := Lib.hid h1
  have hal := after_len 1 ⟨p, false⟩
  have HOK : Hid (after 1 ⟨p, false⟩).ok := ok_after (fun h => by cases h) 1
  simp only at hal
  have hgw3 : w.heap.size + 1 < w3.heap.size := h1.lt
  clear h1 h2 HR2 HBLK2 HB2
  generalize after 1 ⟨p, false⟩ = r at *
  generalize numR 1 ⟨p, false⟩ = k at *
  have hb4 : Below w3.heap.size w3 (w3.alloc (.cells #[.int .u8 (k : Int), .string ⟨#[]⟩, .string ⟨#[]⟩, ns, ns, ns] 40)) := (Below.refl _ _).alloc (Nat.le_refl _) _
  have HB5 : Hid (Below w.heap.size w (w3.alloc (.cells #[.int .u8 (k : Int), .string ⟨#[]⟩, .string ⟨#[]⟩, ns, ns, ns] 40))) := HB3.out.trans (hb4.mono HB3.out.size)
  have HBLK5 := Lib.hid (HBLK3.out.below hb4 HBLK3.out.lt)
  have HR5 := Lib.hid (HR3.out.below hb4 hgw3)
  have HBOX5 := Lib.hid (Blk.new w3 40 #[.int .u8 (k : Int), .string ⟨#[]⟩, .string ⟨#[]⟩, ns, ns, ns])
  have k0 := HBOX5.out.cell 0
  simp only [List.getElem?_cons_zero] at k0
  have hw5 : w3.heap.size < (w3.alloc (.cells #[.int .u8 (k : Int), .string ⟨#[]⟩, .string ⟨#[]⟩, ns, ns, ns] 40)).heap.size := by simp
  have HKR : Hid (hasK (kindR p).toNat = hasK k) := by show _ = _; rw [HKN.out]
  clear hb4 HBLK3 HR3 HB3
  have HX : Hid (decV p = (zeroV, 2)) := by
    show _ = _
    have hz : hasK k = 0 := by rcases has_cases k with h | h | h | h | h <;> omega
    rw [HD.out]; unfold decK; rw [if_pos (by rw [HKR.out]; exact hz)]
  have HBLK6 := HBLK5; have HB6 := HB5
  rcases hkk with rfl | hkk
  · go_wp2_with (refine wpList_store_blk rfl (.tmp 2) (.tmp 31) rfl rfl (cs' := [.int .u8 0, .string ⟨#[]⟩, .string ⟨#[]⟩, ns, ns, ns]) rfl HBLK6.out rfl info40 rfl ?_)
    intro w8 hrs
    have d0 := hrs.blk.cell 0; have d1 := hrs.blk.cell 1; have d2 := hrs.blk.cell 2; have d3 := hrs.blk.cell 3; have d4 := hrs.blk.cell 4; have d5 := hrs.blk.cell 5
    simp only [List.getElem?_cons_zero, List.getElem?_cons_succ] at d0 d1 d2 d3 d4 d5
    have HB8 : Hid (Below w.heap.size w w8) := hrs.below _ _ HB6.out (Nat.le_refl _)
    clear hrs
    go_wp2_with fail
    exact bodyPost_ret (v := .tuple #[.agg #[.int .u8 0, .string ⟨#[]⟩, .string ⟨#[]⟩, ns, ns, ns], .int .i64 2]) (by simp [results, Tryd.results55, go_sem, *]) rfl (dec_zero HX.out HB8.out)
  · have hkk1 : ¬ (k : Int) < 1 := by omega
    have hkk2 : (12 : Int) < k := by omega
    go_wp2_with (refine wpList_store_blk rfl (.tmp 2) (.tmp 31) rfl rfl (cs' := [.int .u8 0, .string ⟨#[]⟩, .string ⟨#[]⟩, ns, ns, ns]) rfl HBLK6.out rfl info40 rfl ?_)
    intro w8 hrs
    have d0 := hrs.blk.cell 0; have d1 := hrs.blk.cell 1; have d2 := hrs.blk.cell 2; have d3 := hrs.blk.cell 3; have d4 := hrs.blk.cell 4; have d5 := hrs.blk.cell 5
    simp only [List.getElem?_cons_zero, List.getElem?_cons_succ] at d0 d1 d2 d3 d4 d5
    have HB8 : Hid (Below w.heap.size w w8) := hrs.below _ _ HB6.out (Nat.le_refl _)
    clear hrs
    go_wp2_with fail
    exact bodyPost_ret (v := .tuple #[.agg #[.int .u8 0, .string ⟨#[]⟩, .string ⟨#[]⟩, ns, ns, ns], .int .i64 2]) (by simp [results, Tryd.results55, go_sem, *]) rfl (dec_zero HX.out HB8.out)
end Go.Proofs.YtggmogjgaoobjaaDoor

/- The contract of the reference's Decode: a bare kind. -/
namespace Go.Proofs.YtggmogjgaoobjaaDoor
open Go.RowKit BaseMath WireMath ReqMath

set_option maxHeartbeats 4000000 in
set_option maxRecDepth 100000 in
theorem rdecode_1 (A : Option Addr) (c : Nat) (p : List By) (hp : p.length ≤ 500000) (hN : A = none → c = 0) (hc : p.length ≤ c) (hlen : ¬ 2048 < p.length) (hkk : numR 1 ⟨p, false⟩ = 11 ∨ numR 1 ⟨p, false⟩ = 12) (w : World) (hA : SrcIs w A p) :
    Calls Tryd.prog 55 #[.slice A p.length c] w (DecPost w (decV p)) := by
  have HA := Lib.hid hA; have HN := Lib.hid hN
  clear hA hN
  have hl' : ¬ (2048 : Int) < p.length := by omega
  have HD : Hid (decV p = decK (kindR p) (after 1 ⟨p, false⟩)) := by show _ = _; unfold decV; rw [if_neg hlen]
  have HKV := Lib.hid (kind_vb p)
  have HKN : Hid ((kindR p).toNat = numR 1 ⟨p, false⟩) := by
    show _ = _
    have h : numR 1 ⟨p, false⟩ < 256 := numR_lt 1 _
    unfold kindR; rw [UInt8.toNat_ofNat_of_lt' h]
  have hb1 : Below w.heap.size w (w.alloc (.cells #[.int .u8 0, .string ⟨#[]⟩, .string ⟨#[]⟩, ns, ns, ns] 40)) := (Below.refl _ _).alloc (Nat.le_refl _) _
  have hb2 : Below w.heap.size w ((w.alloc (.cells #[.int .u8 0, .string ⟨#[]⟩, .string ⟨#[]⟩, ns, ns, ns] 40)).alloc (.cells #[.slice A p.length c, .bool false] 125)) := hb1.alloc hb1.size _
  have HBLK2 : Hid (Blk ((w.alloc (.cells #[.int .u8 0, .string ⟨#[]⟩, .string ⟨#[]⟩, ns, ns, ns] 40)).alloc (.cells #[.slice A p.length c, .bool false] 125)) w.heap.size 40 [.int .u8 0, .string ⟨#[]⟩, .string ⟨#[]⟩, ns, ns, ns]) := (Blk.new w 40 #[.int .u8 0, .string ⟨#[]⟩, .string ⟨#[]⟩, ns, ns, ns]).alloc _
  have HR2 : Hid (RdIs ((w.alloc (.cells #[.int .u8 0, .string ⟨#[]⟩, .string ⟨#[]⟩, ns, ns, ns] 40)).alloc (.cells #[.slice A p.length c, .bool false] 125)) 125 w.heap.size (w.heap.size + 1) ⟨p, false⟩) := by
    refine ⟨⟨A, c, ?_, HN.out, hc, HA.out.below hb2, fun h0 a ha => ?_⟩, by omega⟩
    · have := Blk.new (w.alloc (.cells #[.int .u8 0, .string ⟨#[]⟩, .string ⟨#[]⟩, ns, ns, ns] 40)) 125 #[.slice A p.length c, .bool false]
      rw [show (w.alloc (.cells #[.int .u8 0, .string ⟨#[]⟩, .string ⟨#[]⟩, ns, ns, ns] 40)).heap.size = w.heap.size + 1 by simp] at this
      exact this
    · obtain ⟨b, o, rfl, hb⟩ := HA.out h0
      cases ha
      exact hb.lt h0
  have HB2 := Lib.hid hb2
  clear hb1 hb2
  have hk256 : numR 1 ⟨p, false⟩ < 256 := numR_lt 1 _
  go_enter Tryd.func55, Tryd.ntmps55
  go_wp2_with fail
  refine (iwide_any w.heap.size (w.heap.size + 1) 1 (by decide) ⟨p, false⟩ (by simp only; omega) (fun h => by cases h) _ HR2.out).mono ?_
  rintro e w3 ⟨rfl, h1, h2⟩
  have HB3 : Hid (Below w.heap.size w w3) := HB2.out.trans (h2.below (by omega) HB2.out.size)
  have HBLK3 := Lib.hid (Blk.only HBLK2.out h2 (by omega : w.heap.size ≠ w.heap.size + 1))
  have HR3 := Lib.hid h1
  have hal := after_len 1 ⟨p, false⟩
  have HOK : Hid (after 1 ⟨p, false⟩).ok := ok_after (fun h => by cases h) 1
  simp only at hal
  have hgw3 : w.heap.size + 1 < w3.heap.size := h1.lt
  clear h1 h2 HR2 HBLK2 HB2
  generalize after 1 ⟨p, false⟩ = r at *
  generalize numR 1 ⟨p, false⟩ = k at *
  have hb4 : Below w3.heap.size w3 (w3.alloc (.cells #[.int .u8 (k : Int), .string ⟨#[]⟩, .string ⟨#[]⟩, ns, ns, ns] 40)) := (Below.refl _ _).alloc (Nat.le_refl _) _
  have HB5 : Hid (Below w.heap.size w (w3.alloc (.cells #[.int .u8 (k : Int), .string ⟨#[]⟩, .string ⟨#[]⟩, ns, ns, ns] 40))) := HB3.out.trans (hb4.mono HB3.out.size)
  have HBLK5 := Lib.hid (HBLK3.out.below hb4 HBLK3.out.lt)
  have HR5 := Lib.hid (HR3.out.below hb4 hgw3)
  have HBOX5 := Lib.hid (Blk.new w3 40 #[.int .u8 (k : Int), .string ⟨#[]⟩, .string ⟨#[]⟩, ns, ns, ns])
  have k0 := HBOX5.out.cell 0
  simp only [List.getElem?_cons_zero] at k0
  have hw5 : w3.heap.size < (w3.alloc (.cells #[.int .u8 (k : Int), .string ⟨#[]⟩, .string ⟨#[]⟩, ns, ns, ns] 40)).heap.size := by simp
  have HKR : Hid (hasK (kindR p).toNat = hasK k) := by show _ = _; rw [HKN.out]
  clear hb4 HBLK3 HR3 HB3
  have hka : ¬ (k : Int) < 1 := by omega
  have hkb : ¬ (12 : Int) < k := by omega
  have hk1 : ((k : Int) == 1) = false := by rw [beq_eq_false_iff_ne]; omega
  have hk7 : ((k : Int) == 7) = false := by rw [beq_eq_false_iff_ne]; omega
  have HX : Hid (decV p = finR ⟨kindR p, [], [], [], [], []⟩ r) := by
    show _ = _
    have hz : hasK k = 1 := by rcases has_cases k with h | h | h | h | h <;> omega
    rw [HD.out]; unfold decK; rw [if_neg (by rw [HKR.out, hz]; decide), if_pos (by rw [HKR.out]; exact hz)]
  have HP : Hid (∀ W, Calls Tryd.prog 46 #[.int .u8 (k : Int)] W fun e w' => e = .returned (.bool false) ∧ W = w') := fun W => pathed_no k hk256 (by omega) W
  have HQ6 : Hid (ReqN (w3.alloc (.cells #[.int .u8 (k : Int), .string ⟨#[]⟩, .string ⟨#[]⟩, ns, ns, ns] 40)) (w.heap.size + 1) (.agg #[.int .u8 (k : Int), .string ⟨#[]⟩, .string ⟨#[]⟩, ns, ns, ns]) ⟨kindR p, [], [], [], [], []⟩) := ⟨none, 0, none, 0, none, 0, by rw [HKV.out]; rfl, SrcIs.nil _ _, New.none _, StrsIs.nil _ _, New.none _, OutsN.nil _ _ _⟩
  have HR6 := HR5; have HB6 := HB5; have HBLK6 := HBLK5; have HBOX6 := HBOX5
  clear HR5 HB5 HBLK5 HBOX5 HD hkk
  go_wp2_with fail
  refine (HP.out _).mono ?_
  rintro e w6 ⟨rfl, rfl⟩
  rcases whole_end r with ⟨hw, -⟩ | ⟨hw, -⟩
  · have HE : Hid (wholeR r = true) := hw
    have HX2 : Hid (decV p = (⟨kindR p, [], [], [], [], []⟩, 0)) := by show _ = _; rw [HX.out]; unfold finR; rw [if_pos hw]
    clear hw HX
    go_wp2_with fail
    with_reducible refine (whole_any w.heap.size (w.heap.size + 1) r _ HR6.out).mono ?_
    rintro e w7 ⟨rfl, rfl⟩
    rw [HE.out]
    have k0 := Blk.cell HBOX6.out 0; have k1 := Blk.cell HBOX6.out 1; have k2 := Blk.cell HBOX6.out 2; have k3 := Blk.cell HBOX6.out 3; have k4 := Blk.cell HBOX6.out 4; have k5 := Blk.cell HBOX6.out 5
    simp only [List.getElem?_cons_zero, List.getElem?_cons_succ] at k0 k1 k2 k3 k4 k5
    go_wp2_with (refine wpList_store_blk rfl (.tmp 2) (.tmp 113) rfl rfl (cs' := [.int .u8 (k : Int), .string ⟨#[]⟩, .string ⟨#[]⟩, ns, ns, ns]) rfl HBLK6.out rfl info40 rfl ?_)
    intro w8 hrs
    have d0 := hrs.blk.cell 0; have d1 := hrs.blk.cell 1; have d2 := hrs.blk.cell 2; have d3 := hrs.blk.cell 3; have d4 := hrs.blk.cell 4; have d5 := hrs.blk.cell 5
    simp only [List.getElem?_cons_zero, List.getElem?_cons_succ] at d0 d1 d2 d3 d4 d5
    have HB8 : Hid (Below w.heap.size w w8) := hrs.below _ _ HB6.out (Nat.le_refl _)
    have HQ8 : Hid (ReqN w8 (w.heap.size + 1) (.agg #[.int .u8 (k : Int), .string ⟨#[]⟩, .string ⟨#[]⟩, ns, ns, ns]) ⟨kindR p, [], [], [], [], []⟩) := HQ6.out.only (RowSet.only hrs) (Nat.lt_succ_self _)
    clear hrs k0 k1 k2 k3 k4 k5
    go_wp2_with fail
    exact bodyPost_ret (v := .tuple #[.agg #[.int .u8 (k : Int), .string ⟨#[]⟩, .string ⟨#[]⟩, ns, ns, ns], .int .i64 0]) (by simp [results, Tryd.results55, go_sem, *]) rfl (dec_ok HX2.out HB8.out HQ8.out)
  · have HE : Hid (wholeR r = false) := hw
    have HX2 : Hid (decV p = (zeroV, 2)) := by show _ = _; rw [HX.out]; unfold finR; rw [if_neg (by rw [hw]; simp)]
    clear hw HX
    go_wp2_with fail
    with_reducible refine (whole_any w.heap.size (w.heap.size + 1) r _ HR6.out).mono ?_
    rintro e w7 ⟨rfl, rfl⟩
    rw [HE.out]
    go_wp2_with (refine wpList_store_blk rfl (.tmp 2) (.tmp 112) rfl rfl (cs' := [.int .u8 0, .string ⟨#[]⟩, .string ⟨#[]⟩, ns, ns, ns]) rfl HBLK6.out rfl info40 rfl ?_)
    intro w8 hrs
    have d0 := hrs.blk.cell 0; have d1 := hrs.blk.cell 1; have d2 := hrs.blk.cell 2; have d3 := hrs.blk.cell 3; have d4 := hrs.blk.cell 4; have d5 := hrs.blk.cell 5
    simp only [List.getElem?_cons_zero, List.getElem?_cons_succ] at d0 d1 d2 d3 d4 d5
    have HB8 : Hid (Below w.heap.size w w8) := hrs.below _ _ HB6.out (Nat.le_refl _)
    clear hrs
    go_wp2_with fail
    exact bodyPost_ret (v := .tuple #[.agg #[.int .u8 0, .string ⟨#[]⟩, .string ⟨#[]⟩, ns, ns, ns], .int .i64 2]) (by simp [results, Tryd.results55, go_sem, *]) rfl (dec_zero HX2.out HB8.out)
end Go.Proofs.YtggmogjgaoobjaaDoor

/- The contract of the reference's Decode: a path. -/
namespace Go.Proofs.YtggmogjgaoobjaaDoor
open Go.RowKit BaseMath WireMath ReqMath

set_option maxHeartbeats 4000000 in
set_option maxRecDepth 100000 in
theorem rdecode_2 (A : Option Addr) (c : Nat) (p : List By) (hp : p.length ≤ 500000) (hN : A = none → c = 0) (hc : p.length ≤ c) (hlen : ¬ 2048 < p.length) (hkk : 2 ≤ numR 1 ⟨p, false⟩ ∧ numR 1 ⟨p, false⟩ ≤ 6 ∨ 8 ≤ numR 1 ⟨p, false⟩ ∧ numR 1 ⟨p, false⟩ ≤ 10) (w : World) (hA : SrcIs w A p) :
    Calls Tryd.prog 55 #[.slice A p.length c] w (DecPost w (decV p)) := by
  have HA := Lib.hid hA; have HN := Lib.hid hN
  clear hA hN
  have hl' : ¬ (2048 : Int) < p.length := by omega
  have HD : Hid (decV p = decK (kindR p) (after 1 ⟨p, false⟩)) := by show _ = _; unfold decV; rw [if_neg hlen]
  have HKV := Lib.hid (kind_vb p)
  have HKN : Hid ((kindR p).toNat = numR 1 ⟨p, false⟩) := by
    show _ = _
    have h : numR 1 ⟨p, false⟩ < 256 := numR_lt 1 _
    unfold kindR; rw [UInt8.toNat_ofNat_of_lt' h]
  have hb1 : Below w.heap.size w (w.alloc (.cells #[.int .u8 0, .string ⟨#[]⟩, .string ⟨#[]⟩, ns, ns, ns] 40)) := (Below.refl _ _).alloc (Nat.le_refl _) _
  have hb2 : Below w.heap.size w ((w.alloc (.cells #[.int .u8 0, .string ⟨#[]⟩, .string ⟨#[]⟩, ns, ns, ns] 40)).alloc (.cells #[.slice A p.length c, .bool false] 125)) := hb1.alloc hb1.size _
  have HBLK2 : Hid (Blk ((w.alloc (.cells #[.int .u8 0, .string ⟨#[]⟩, .string ⟨#[]⟩, ns, ns, ns] 40)).alloc (.cells #[.slice A p.length c, .bool false] 125)) w.heap.size 40 [.int .u8 0, .string ⟨#[]⟩, .string ⟨#[]⟩, ns, ns, ns]) := (Blk.new w 40 #[.int .u8 0, .string ⟨#[]⟩, .string ⟨#[]⟩, ns, ns, ns]).alloc _
  have HR2 : Hid (RdIs ((w.alloc (.cells #[.int .u8 0, .string ⟨#[]⟩, .string ⟨#[]⟩, ns, ns, ns] 40)).alloc (.cells #[.slice A p.length c, .bool false] 125)) 125 w.heap.size (w.heap.size + 1) ⟨p, false⟩) := by
    refine ⟨⟨A, c, ?_, HN.out, hc, HA.out.below hb2, fun h0 a ha => ?_⟩, by omega⟩
    · have := Blk.new (w.alloc (.cells #[.int .u8 0, .string ⟨#[]⟩, .string ⟨#[]⟩, ns, ns, ns] 40)) 125 #[.slice A p.length c, .bool false]
      rw [show (w.alloc (.cells #[.int .u8 0, .string ⟨#[]⟩, .string ⟨#[]⟩, ns, ns, ns] 40)).heap.size = w.heap.size + 1 by simp] at this
      exact this
    · obtain ⟨b, o, rfl, hb⟩ := HA.out h0
      cases ha
      exact hb.lt h0
  have HB2 := Lib.hid hb2
  clear hb1 hb2
  have hk256 : numR 1 ⟨p, false⟩ < 256 := numR_lt 1 _
  go_enter Tryd.func55, Tryd.ntmps55
  go_wp2_with fail
  refine (iwide_any w.heap.size (w.heap.size + 1) 1 (by decide) ⟨p, false⟩ (by simp only; omega) (fun h => by cases h) _ HR2.out).mono ?_
  rintro e w3 ⟨rfl, h1, h2⟩
  have HB3 : Hid (Below w.heap.size w w3) := HB2.out.trans (h2.below (by omega) HB2.out.size)
  have HBLK3 := Lib.hid (Blk.only HBLK2.out h2 (by omega : w.heap.size ≠ w.heap.size + 1))
  have HR3 := Lib.hid h1
  have hal := after_len 1 ⟨p, false⟩
  have HOK : Hid (after 1 ⟨p, false⟩).ok := ok_after (fun h => by cases h) 1
  simp only at hal
  have hgw3 : w.heap.size + 1 < w3.heap.size := h1.lt
  clear h1 h2 HR2 HBLK2 HB2
  generalize after 1 ⟨p, false⟩ = r at *
  generalize numR 1 ⟨p, false⟩ = k at *
  have hb4 : Below w3.heap.size w3 (w3.alloc (.cells #[.int .u8 (k : Int), .string ⟨#[]⟩, .string ⟨#[]⟩, ns, ns, ns] 40)) := (Below.refl _ _).alloc (Nat.le_refl _) _
  have HB5 : Hid (Below w.heap.size w (w3.alloc (.cells #[.int .u8 (k : Int), .string ⟨#[]⟩, .string ⟨#[]⟩, ns, ns, ns] 40))) := HB3.out.trans (hb4.mono HB3.out.size)
  have HBLK5 := Lib.hid (HBLK3.out.below hb4 HBLK3.out.lt)
  have HR5 := Lib.hid (HR3.out.below hb4 hgw3)
  have HBOX5 := Lib.hid (Blk.new w3 40 #[.int .u8 (k : Int), .string ⟨#[]⟩, .string ⟨#[]⟩, ns, ns, ns])
  have k0 := HBOX5.out.cell 0
  simp only [List.getElem?_cons_zero] at k0
  have hw5 : w3.heap.size < (w3.alloc (.cells #[.int .u8 (k : Int), .string ⟨#[]⟩, .string ⟨#[]⟩, ns, ns, ns] 40)).heap.size := by simp
  have HKR : Hid (hasK (kindR p).toNat = hasK k) := by show _ = _; rw [HKN.out]
  clear hb4 HBLK3 HR3 HB3
  have hka : ¬ (k : Int) < 1 := by omega
  have hkb : ¬ (12 : Int) < k := by omega
  have hk1 : ((k : Int) == 1) = false := by rw [beq_eq_false_iff_ne]; omega
  have hk7 : ((k : Int) == 7) = false := by rw [beq_eq_false_iff_ne]; omega
  have HX : Hid (decV p = finR ⟨kindR p, [], textR r, [], [], []⟩ (textA r)) := by
    show _ = _
    have hz : hasK k = 2 := by rcases has_cases k with h | h | h | h | h <;> omega
    rw [HD.out]; unfold decK; rw [if_neg (by rw [HKR.out, hz]; decide), if_neg (by rw [HKR.out, hz]; decide), if_pos (by rw [HKR.out]; exact hz)]
  have HP : Hid (∀ W, Calls Tryd.prog 46 #[.int .u8 (k : Int)] W fun e w' => e = .returned (.bool true) ∧ W = w') := fun W => pathed_yes k hk256 (by omega) W
  clear HD hkk
  go_wp2_with fail
  refine (HP.out _).mono ?_
  rintro e w6 ⟨rfl, rfl⟩
  go_wp2_with fail
  refine (itext_any w.heap.size (w.heap.size + 1) r (by omega) HOK.out _ HR5.out).mono ?_
  rintro e w6 ⟨rfl, h1, h2⟩
  have hb6 : Blk w6 w3.heap.size 40 _ := Blk.only HBOX5.out h2 (by omega)
  have k0 := hb6.cell 0; have c2 := hb6.cell 2; have f2 := hb6.frozen 2
  simp only [List.getElem?_cons_zero, List.getElem?_cons_succ] at k0 c2
  have HBOX6 := Lib.hid (hb6.set 2 (vs (textR r)))
  simp only [List.set_cons_zero, List.set_cons_succ] at HBOX6
  have hsz6 := h2.size
  have HBLK6 := Lib.hid ((Blk.only HBLK5.out h2 (by omega)).other (p := ⟨w3.heap.size, 2, none⟩) (by simp only; omega) (vs (textR r)))
  have HR6 : Hid (RdIs (w6.setCell ⟨w3.heap.size, 2, none⟩ (vs (textR r))) 125 w.heap.size (w.heap.size + 1) (textA r)) := h1.only ((OnlyAt.refl w3.heap.size w6).setCell 2 _) (by omega) (by omega)
  have HB6 : Hid (Below w.heap.size w (w6.setCell ⟨w3.heap.size, 2, none⟩ (vs (textR r)))) := (HB5.out.trans (h2.below (by omega) HB5.out.size)).setCell (by simp only; omega) _
  have HQ6 : Hid (ReqN (w6.setCell ⟨w3.heap.size, 2, none⟩ (vs (textR r))) (w.heap.size + 1) (.agg #[.int .u8 (k : Int), .string ⟨#[]⟩, vs (textR r), ns, ns, ns]) ⟨kindR p, [], textR r, [], [], []⟩) := ⟨none, 0, none, 0, none, 0, by rw [HKV.out]; rfl, SrcIs.nil _ _, New.none _, StrsIs.nil _ _, New.none _, OutsN.nil _ _ _⟩
  have hal2 := textA_len r
  clear hb6 h1 h2 HR5 HB5 HBLK5 HBOX5
  generalize textR r = tx at *
  generalize textA r = r6 at *
  rcases whole_end r6 with ⟨hw, -⟩ | ⟨hw, -⟩
  · have HE : Hid (wholeR r6 = true) := hw
    have HX2 : Hid (decV p = (⟨kindR p, [], tx, [], [], []⟩, 0)) := by show _ = _; rw [HX.out]; unfold finR; rw [if_pos hw]
    clear hw HX
    go_wp2_with fail
    with_reducible refine (whole_any w.heap.size (w.heap.size + 1) r6 _ HR6.out).mono ?_
    rintro e w7 ⟨rfl, rfl⟩
    rw [HE.out]
    have k0 := Blk.cell HBOX6.out 0; have k1 := Blk.cell HBOX6.out 1; have k2 := Blk.cell HBOX6.out 2; have k3 := Blk.cell HBOX6.out 3; have k4 := Blk.cell HBOX6.out 4; have k5 := Blk.cell HBOX6.out 5
    simp only [List.getElem?_cons_zero, List.getElem?_cons_succ] at k0 k1 k2 k3 k4 k5
    go_wp2_with (refine wpList_store_blk rfl (.tmp 2) (.tmp 113) rfl rfl (cs' := [.int .u8 (k : Int), .string ⟨#[]⟩, vs tx, ns, ns, ns]) rfl HBLK6.out rfl info40 rfl ?_)
    intro w8 hrs
    have d0 := hrs.blk.cell 0; have d1 := hrs.blk.cell 1; have d2 := hrs.blk.cell 2; have d3 := hrs.blk.cell 3; have d4 := hrs.blk.cell 4; have d5 := hrs.blk.cell 5
    simp only [List.getElem?_cons_zero, List.getElem?_cons_succ] at d0 d1 d2 d3 d4 d5
    have HB8 : Hid (Below w.heap.size w w8) := hrs.below _ _ HB6.out (Nat.le_refl _)
    have HQ8 : Hid (ReqN w8 (w.heap.size + 1) (.agg #[.int .u8 (k : Int), .string ⟨#[]⟩, vs tx, ns, ns, ns]) ⟨kindR p, [], tx, [], [], []⟩) := HQ6.out.only (RowSet.only hrs) (Nat.lt_succ_self _)
    clear hrs k0 k1 k2 k3 k4 k5
    go_wp2_with fail
    exact bodyPost_ret (v := .tuple #[.agg #[.int .u8 (k : Int), .string ⟨#[]⟩, vs tx, ns, ns, ns], .int .i64 0]) (by simp [results, Tryd.results55, go_sem, *]) rfl (dec_ok HX2.out HB8.out HQ8.out)
  · have HE : Hid (wholeR r6 = false) := hw
    have HX2 : Hid (decV p = (zeroV, 2)) := by show _ = _; rw [HX.out]; unfold finR; rw [if_neg (by rw [hw]; simp)]
    clear hw HX
    go_wp2_with fail
    with_reducible refine (whole_any w.heap.size (w.heap.size + 1) r6 _ HR6.out).mono ?_
    rintro e w7 ⟨rfl, rfl⟩
    rw [HE.out]
    go_wp2_with (refine wpList_store_blk rfl (.tmp 2) (.tmp 112) rfl rfl (cs' := [.int .u8 0, .string ⟨#[]⟩, .string ⟨#[]⟩, ns, ns, ns]) rfl HBLK6.out rfl info40 rfl ?_)
    intro w8 hrs
    have d0 := hrs.blk.cell 0; have d1 := hrs.blk.cell 1; have d2 := hrs.blk.cell 2; have d3 := hrs.blk.cell 3; have d4 := hrs.blk.cell 4; have d5 := hrs.blk.cell 5
    simp only [List.getElem?_cons_zero, List.getElem?_cons_succ] at d0 d1 d2 d3 d4 d5
    have HB8 : Hid (Below w.heap.size w w8) := hrs.below _ _ HB6.out (Nat.le_refl _)
    clear hrs
    go_wp2_with fail
    exact bodyPost_ret (v := .tuple #[.agg #[.int .u8 0, .string ⟨#[]⟩, .string ⟨#[]⟩, ns, ns, ns], .int .i64 2]) (by simp [results, Tryd.results55, go_sem, *]) rfl (dec_zero HX2.out HB8.out)
end Go.Proofs.YtggmogjgaoobjaaDoor
