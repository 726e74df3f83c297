/- The contract of Decode, one of its ways. -/
import Derived.Test.YtggmogjgaoobjaaDoorXCT19
import Derived.Test.YtggmogjgaoobjaaDoorXCT5
import Derived.Maps.AppendAt
import Derived.Test.YtggmogjgaoobjaaDoorXCT18
namespace Go.Proofs.YtggmogjgaoobjaaDoor
open Go.RowKit BaseMath WireMath ReqMath

set_option maxHeartbeats 4000000 in
set_option maxRecDepth 100000 in
theorem decode_4 (A : Option Addr) (c : Nat) (p : List By) (hp : p.length ≤ 500000) (hN : A = none → c = 0) (hlen : ¬ 2048 < p.length) (hkk : hasK (kindR p).toNat = 4) (w : World) (ht : KTab w) (hA : SrcIs w A p) :
    Calls Tryd.prog 18 #[.slice A p.length c] w (DecPost w (decV p)) := by
  have HT := Lib.hid ht; have HA := Lib.hid hA; have HN := Lib.hid hN
  have hts := ht.size
  clear ht hA hN
  have hl' : ¬ (2048 : Int) < p.length := by omega
  have hb1 : Below w.heap.size w (w.alloc (.cells #[.int .u8 0, .string ⟨#[]⟩, .string ⟨#[]⟩, ns, ns, ns] 40)) := (Below.refl _ _).alloc (Nat.le_refl _) _
  have HBLK := Lib.hid (Blk.new w 40 #[.int .u8 0, .string ⟨#[]⟩, .string ⟨#[]⟩, ns, ns, ns])
  have HB1 := Lib.hid hb1
  have HA1 := Lib.hid (HA.out.below hb1)
  have hsz1 : (w.alloc (.cells #[.int .u8 0, .string ⟨#[]⟩, .string ⟨#[]⟩, ns, ns, ns] 40)).heap.size = w.heap.size + 1 := by simp
  have HSZ1 := Lib.hid hsz1
  have HD : Hid (decV p = decK (kindR p) (after 1 ⟨p, false⟩)) := by show _ = _; unfold decV; rw [if_neg hlen]
  have HKV := Lib.hid (kind_vb p)
  clear hb1 hsz1
  go_enter Tryd.func18, Tryd.ntmps18
  go_wp2_with fail
  refine (reader_any A c p (by omega) HN.out _ HA1.out).mono ?_
  rintro e w2 ⟨g, rfl, hg, hr, hb⟩
  have hg' : w.heap.size + 1 ≤ g := by rw [← HSZ1.out]; exact hg
  have HB2 : Hid (Below w.heap.size w w2) := HB1.out.trans (hb.mono HB1.out.size)
  have HBLK2 := Lib.hid (HBLK.out.below hb HBLK.out.lt)
  have HR2 := Lib.hid hr
  clear hr hb hg HBLK HB1 HA1
  go_wp2_with fail
  refine (byte_any g g ⟨p, false⟩ (by simp only; omega) w2 HR2.out).mono ?_
  rintro e w3 ⟨rfl, h1, h2⟩
  have HB3 : Hid (Below w.heap.size w w3) := HB2.out.trans (h2.below (by omega) HB2.out.size)
  have HBLK3 := Lib.hid (Blk.only HBLK2.out h2 (by omega : w.heap.size ≠ g))
  have HR3 := Lib.hid h1
  have hal := after_len 1 ⟨p, false⟩
  have HOK : Hid (after 1 ⟨p, false⟩).ok := ok_after (fun h => by cases h) 1
  simp only at hal
  have hgw3 := h1.lt
  clear h1 h2 HR2 HBLK2 HB2
  rw [← HKV.out]
  generalize after 1 ⟨p, false⟩ = r at *
  generalize kindR p = k at *
  have hb4 : Below w3.heap.size w3 (w3.alloc (.cells #[vb k, .string ⟨#[]⟩, .string ⟨#[]⟩, ns, ns, ns] 40)) := (Below.refl _ _).alloc (Nat.le_refl _) _
  have HB4 : Hid (Below w.heap.size w (w3.alloc (.cells #[vb k, .string ⟨#[]⟩, .string ⟨#[]⟩, ns, ns, ns] 40))) := HB3.out.trans (hb4.mono HB3.out.size)
  have HBLK4 := Lib.hid (HBLK3.out.below hb4 HBLK3.out.lt)
  have HR4 := Lib.hid (HR3.out.below hb4 hgw3)
  have HBOX4 := Lib.hid (Blk.new w3 40 #[vb k, .string ⟨#[]⟩, .string ⟨#[]⟩, ns, ns, ns])
  have k0 := HBOX4.out.cell 0
  simp only [List.getElem?_cons_zero] at k0
  clear hb4 HBLK3 HR3 HB3
  go_wp2_with fail
  refine (lookup_any k _ (HT.out.below HB4.out hts)).mono ?_
  rintro e w5 ⟨rfl, hb⟩
  have HB5 : Hid (Below w.heap.size w w5) := HB4.out.trans (hb.mono HB4.out.size)
  have HBLK5 := Lib.hid (HBLK4.out.below hb HBLK4.out.lt)
  have HBOX5 := Lib.hid (HBOX4.out.below hb HBOX4.out.lt)
  have HR5 := Lib.hid (HR4.out.below hb (by simp; omega))
  have HK5 : Hid (decV p = if hasK k.toNat = 0 then (zeroV, 2) else if hasK k.toNat = 1 then finR ⟨k, [], [], [], [], []⟩ r else if hasK k.toNat = 2 then finR ⟨k, [], textR r, [], [], []⟩ (textA r) else if hasK k.toNat = 3 then finR ⟨k, iname r, [], iarch r, irefs r, []⟩ (itemA r)
    else match outsR r with
      | none => (zeroV, 2)
      | some (os, r') => finR ⟨k, [], [], [], [], os⟩ r') := HD.out
  have hw5 : w3.heap.size < w5.heap.size := HBOX5.out.lt
  have hd3 : w.heap.size < w3.heap.size := by have := HR5.out.le; omega
  clear hb HBLK4 HBOX4 HR4 HB4 HD k0
  rw [hkk] at HK5 ⊢
  clear hkk
  generalize nameK k.toNat = nn at *
  have HX0 : Hid (decV p = match outsR r with | none => (zeroV, 2) | some (os, r') => finR ⟨k, [], [], [], [], os⟩ r') := HK5.out
  clear HK5
  go_wp2_with fail
  refine (readouts_any g g r (by omega) HOK.out w5 HR5.out).mono ?_
  rintro e w6 ⟨h2, hcase⟩
  have hb6 : Blk w6 w3.heap.size 40 _ := Blk.only HBOX5.out h2 (by omega)
  have b5 := hb6.cell 5; have f5 := hb6.frozen 5
  simp only [List.getElem?_cons_zero, List.getElem?_cons_succ] at b5
  have hb6d : Blk w6 w.heap.size 40 _ := Blk.only HBLK5.out h2 (by omega)
  have hB6 : Below w.heap.size w w6 := HB5.out.trans (h2.below (by omega) HB5.out.size)
  rcases hcase with ⟨hnone, rfl⟩ | ⟨os, r6, O1, c1, hsome, rfl, hO, h1, hok6, hl6⟩
  · have HX : Hid (decV p = (zeroV, 2)) := by show _ = _; rw [HX0.out, hnone]
    have HBLK6 := Lib.hid (hb6d.other (p := ⟨w3.heap.size, 5, none⟩) (by simp only; omega) (.slice none 0 0))
    have HB6 : Hid (Below w.heap.size w (w6.setCell ⟨w3.heap.size, 5, none⟩ (.slice none 0 0))) := hB6.setCell (by simp only; omega) _
    clear hnone HX0 hb6 hb6d hB6 h2 HR5 HB5 HBLK5 HBOX5
    go_wp2_with (refine wpList_store_blk rfl (.tmp 2) (.tmp 53) rfl rfl (cs' := [.int .u8 0, .string ⟨#[]⟩, .string ⟨#[]⟩, ns, ns, ns]) rfl HBLK6.out rfl info40 rfl ?_)
    intro w8 hrs
    have d0 := hrs.blk.cell 0; have d1 := hrs.blk.cell 1; have d2 := hrs.blk.cell 2; have d3 := hrs.blk.cell 3; have d4 := hrs.blk.cell 4; have d5 := hrs.blk.cell 5
    simp only [List.getElem?_cons_zero, List.getElem?_cons_succ] at d0 d1 d2 d3 d4 d5
    have HB8 : Hid (Below w.heap.size w w8) := hrs.below _ _ HB6.out (Nat.le_refl _)
    clear hrs
    go_wp2_with fail
    exact bodyPost_ret (v := .tuple #[.agg #[.int .u8 0, .string ⟨#[]⟩, .string ⟨#[]⟩, ns, ns, ns], .int .i64 2]) (by simp [results, Tryd.results18, go_sem, *]) rfl (dec_zero HX.out HB8.out)
  · have HX : Hid (decV p = finR ⟨k, [], [], [], [], os⟩ r6) := by show _ = _; rw [HX0.out, hsome]
    have ho6 := (OnlyAt.refl w3.heap.size w6).setCell 5 (.slice O1 os.length c1)
    have HBOX6 := Lib.hid (hb6.set 5 (.slice O1 os.length c1))
    simp only [List.set_cons_zero, List.set_cons_succ] at HBOX6
    have HBLK6 := Lib.hid (hb6d.other (p := ⟨w3.heap.size, 5, none⟩) (by simp only; omega) (.slice O1 os.length c1))
    have HB6 : Hid (Below w.heap.size w (w6.setCell ⟨w3.heap.size, 5, none⟩ (.slice O1 os.length c1))) := hB6.setCell (by simp only; omega) _
    have HR6 : Hid (RdIs (w6.setCell ⟨w3.heap.size, 5, none⟩ (.slice O1 os.length c1)) 141 g g r6) := h1.only ho6 (by omega) (by omega)
    have HQ6 : Hid (ReqN (w6.setCell ⟨w3.heap.size, 5, none⟩ (.slice O1 os.length c1)) (w.heap.size + 1) (.agg #[vb k, .string ⟨#[]⟩, .string ⟨#[]⟩, ns, ns, .slice O1 os.length c1]) ⟨k, [], [], [], [], os⟩) := ⟨none, 0, none, 0, O1, c1, rfl, SrcIs.nil _ _, New.none _, StrsIs.nil _ _, New.none _, (hO.only ho6 (by omega)).mono (by omega)⟩
    clear hsome HX0 hb6 hb6d hB6 h2 h1 hO hok6 ho6 HR5 HB5 HBLK5 HBOX5
    rcases whole_end r6 with ⟨hw, he⟩ | ⟨hw, he⟩
    · have HE := Lib.hid he
      have HX2 : Hid (decV p = (⟨k, [], [], [], [], os⟩, 0)) := by show _ = _; rw [HX.out]; unfold finR; rw [if_pos hw]
      clear hw he HX
      go_wp2_with fail
      refine (end_any g g r6 _ HR6.out).mono ?_
      rintro e w7 ⟨rfl, rfl⟩
      rw [HE.out]
      have k0 := Blk.cell HBOX6.out 0; have k1 := Blk.cell HBOX6.out 1; have k2 := Blk.cell HBOX6.out 2; have k3 := Blk.cell HBOX6.out 3; have k4 := Blk.cell HBOX6.out 4; have k5 := Blk.cell HBOX6.out 5
      simp only [List.getElem?_cons_zero, List.getElem?_cons_succ] at k0 k1 k2 k3 k4 k5
      go_wp2_with (refine wpList_store_blk rfl (.tmp 2) (.tmp 54) rfl rfl (cs' := [vb k, .string ⟨#[]⟩, .string ⟨#[]⟩, ns, ns, .slice O1 os.length c1]) rfl HBLK6.out rfl info40 rfl ?_)
      intro w8 hrs
      have d0 := hrs.blk.cell 0; have d1 := hrs.blk.cell 1; have d2 := hrs.blk.cell 2; have d3 := hrs.blk.cell 3; have d4 := hrs.blk.cell 4; have d5 := hrs.blk.cell 5
      simp only [List.getElem?_cons_zero, List.getElem?_cons_succ] at d0 d1 d2 d3 d4 d5
      have HB8 : Hid (Below w.heap.size w w8) := hrs.below _ _ HB6.out (Nat.le_refl _)
      have HQ8 : Hid (ReqN w8 (w.heap.size + 1) (.agg #[vb k, .string ⟨#[]⟩, .string ⟨#[]⟩, ns, ns, .slice O1 os.length c1]) ⟨k, [], [], [], [], os⟩) := HQ6.out.only (RowSet.only hrs) (Nat.lt_succ_self _)
      clear hrs k0 k1 k2 k3 k4 k5
      go_wp2_with fail
      exact bodyPost_ret (v := .tuple #[.agg #[vb k, .string ⟨#[]⟩, .string ⟨#[]⟩, ns, ns, .slice O1 os.length c1], .int .i64 0]) (by simp [results, Tryd.results18, go_sem, *]) rfl (dec_ok HX2.out HB8.out HQ8.out)
    · have HE := Lib.hid he
      have HX2 : Hid (decV p = (zeroV, 2)) := by show _ = _; rw [HX.out]; unfold finR; rw [if_neg (by rw [hw]; simp)]
      clear hw he HX
      go_wp2_with fail
      refine (end_any g g r6 _ HR6.out).mono ?_
      rintro e w7 ⟨rfl, rfl⟩
      rw [HE.out]
      go_wp2_with (refine wpList_store_blk rfl (.tmp 2) (.tmp 53) rfl rfl (cs' := [.int .u8 0, .string ⟨#[]⟩, .string ⟨#[]⟩, ns, ns, ns]) rfl HBLK6.out rfl info40 rfl ?_)
      intro w8 hrs
      have d0 := hrs.blk.cell 0; have d1 := hrs.blk.cell 1; have d2 := hrs.blk.cell 2; have d3 := hrs.blk.cell 3; have d4 := hrs.blk.cell 4; have d5 := hrs.blk.cell 5
      simp only [List.getElem?_cons_zero, List.getElem?_cons_succ] at d0 d1 d2 d3 d4 d5
      have HB8 : Hid (Below w.heap.size w w8) := hrs.below _ _ HB6.out (Nat.le_refl _)
      clear hrs
      go_wp2_with fail
      exact bodyPost_ret (v := .tuple #[.agg #[.int .u8 0, .string ⟨#[]⟩, .string ⟨#[]⟩, ns, ns, ns], .int .i64 2]) (by simp [results, Tryd.results18, go_sem, *]) rfl (dec_zero HX2.out HB8.out)
end Go.Proofs.YtggmogjgaoobjaaDoor

/- The contract of Decode. -/
namespace Go.Proofs.YtggmogjgaoobjaaDoor
open Go.RowKit BaseMath WireMath ReqMath

set_option maxHeartbeats 4000000 in
set_option maxRecDepth 100000 in
theorem decode_any (A : Option Addr) (c : Nat) (p : List By) (hp : p.length ≤ 500000) (hN : A = none → c = 0) (w : World) (ht : KTab w) (hA : SrcIs w A p) :
    Calls Tryd.prog 18 #[.slice A p.length c] w (DecPost w (decV p)) := by
  by_cases hlen : 2048 < p.length
  · exact decode_long A c p hp hN hlen w ht hA
  · have h := hasK_le (kindR p).toNat
    have hcase : hasK (kindR p).toNat = 0 ∨ hasK (kindR p).toNat = 1 ∨ hasK (kindR p).toNat = 2 ∨ hasK (kindR p).toNat = 3 ∨ hasK (kindR p).toNat = 4 := by omega
    rcases hcase with h | h | h | h | h
    · exact decode_0 A c p hp hN hlen h w ht hA
    · exact decode_1 A c p hp hN hlen h w ht hA
    · exact decode_2 A c p hp hN hlen h w ht hA
    · exact decode_3 A c p hp hN hlen h w ht hA
    · exact decode_4 A c p hp hN hlen h w ht hA
end Go.Proofs.YtggmogjgaoobjaaDoor

/- Frames for the reference's Decode; its pathed. -/
namespace Go.Proofs.YtggmogjgaoobjaaDoor
open Go.RowKit BaseMath WireMath ReqMath

theorem has_cases (n : Nat) : (hasK n = 0 ∧ (n = 0 ∨ 13 ≤ n)) ∨ (hasK n = 1 ∧ (n = 11 ∨ n = 12)) ∨ (hasK n = 2 ∧ (2 ≤ n ∧ n ≤ 6 ∨ 8 ≤ n ∧ n ≤ 10)) ∨ (hasK n = 3 ∧ n = 1) ∨ (hasK n = 4 ∧ n = 7) := by
  by_cases h : 13 ≤ n
  · exact .inl ⟨hasK_big n h, .inr h⟩
  · match n, h with
    | 0, _ => exact .inl ⟨rfl, .inl rfl⟩
    | 1, _ => exact .inr (.inr (.inr (.inl ⟨rfl, rfl⟩)))
    | 2, _ | 3, _ | 4, _ | 5, _ | 6, _ => exact .inr (.inr (.inl ⟨rfl, .inl ⟨by decide, by decide⟩⟩))
    | 7, _ => exact .inr (.inr (.inr (.inr ⟨rfl, rfl⟩)))
    | 8, _ | 9, _ | 10, _ => exact .inr (.inr (.inl ⟨rfl, .inr ⟨by decide, by decide⟩⟩))
    | 11, _ => exact .inr (.inl ⟨rfl, .inl rfl⟩)
    | 12, _ => exact .inr (.inl ⟨rfl, .inr rfl⟩)
    | n + 13, h => exact absurd (by omega) h
set_option maxRecDepth 100000 in
theorem pathed_yes (n : Nat) (hn : n < 256) (h : 2 ≤ n ∧ n ≤ 6 ∨ 8 ≤ n ∧ n ≤ 10) (w : World) : Calls Tryd.prog 46 #[.int .u8 (n : Int)] w fun e w' => e = .returned (.bool true) ∧ w = w' := by
  rcases h with ⟨h1, h2⟩ | ⟨h1, h2⟩
  · have a1 : (2 : Int) ≤ n := by omega
    have a2 : (n : Int) ≤ 6 := by omega
    go_enter Tryd.func46, Tryd.ntmps46
    go_wp2_with fail
    go_ret
    exact ⟨rfl, rfl⟩
  · have a1 : (2 : Int) ≤ n := by omega
    have a2 : ¬ (n : Int) ≤ 6 := by omega
    have a3 : (8 : Int) ≤ n := by omega
    have a4 : (n : Int) ≤ 10 := by omega
    go_enter Tryd.func46, Tryd.ntmps46
    go_wp2_with fail
    go_ret
    exact ⟨rfl, rfl⟩
set_option maxRecDepth 100000 in
theorem pathed_no (n : Nat) (hn : n < 256) (h : ¬ (2 ≤ n ∧ n ≤ 6 ∨ 8 ≤ n ∧ n ≤ 10)) (w : World) : Calls Tryd.prog 46 #[.int .u8 (n : Int)] w fun e w' => e = .returned (.bool false) ∧ w = w' := by
  have hc : n < 2 ∨ n = 7 ∨ 10 < n := by omega
  clear h
  rcases hc with h | rfl | h
  · have a1 : ¬ (2 : Int) ≤ n := by omega
    have a2 : ¬ (8 : Int) ≤ n := by omega
    go_enter Tryd.func46, Tryd.ntmps46
    go_wp2_with fail
    go_ret
    exact ⟨rfl, rfl⟩
  · go_enter Tryd.func46, Tryd.ntmps46
    go_wp2_with fail
    go_ret
    exact ⟨rfl, rfl⟩
  · have a1 : (2 : Int) ≤ n := by omega
    have a2 : ¬ (n : Int) ≤ 6 := by omega
    have a3 : (8 : Int) ≤ n := by omega
    have a4 : ¬ (n : Int) ≤ 10 := by omega
    go_enter Tryd.func46, Tryd.ntmps46
    go_wp2_with fail
    go_ret
    exact ⟨rfl, rfl⟩

/- what keeps data -/
theorem SrcIs.sameAt {W W' : World} {A : Option Addr} {p : List By} (h : SrcIs W A p) (hs : ∀ a, A = some a → W'.heap[a.block]? = W.heap[a.block]?) : SrcIs W' A p := fun h0 => by
  obtain ⟨b, o, rfl, hc⟩ := h h0
  exact ⟨b, o, rfl, hc.same (hs _ rfl)⟩
theorem StrsIs.sameAt {W W' : World} {A : Option Addr} {p : List (List By)} (h : StrsIs W A p) (hs : ∀ a, A = some a → W'.heap[a.block]? = W.heap[a.block]?) : StrsIs W' A p := fun h0 => by
  obtain ⟨b, o, rfl, hc⟩ := h h0
  refine ⟨b, o, rfl, fun k hk => ?_⟩
  rw [World.cell?_of_block (w := W) (a := ⟨b, o + k, none⟩) (hs ⟨b, o, none⟩ rfl)]; exact hc k hk
theorem NeedsAt.sameAt {W W' : World} {A : Option Addr} {p : List Int} (h : NeedsAt W A p) (hs : ∀ a, A = some a → W'.heap[a.block]? = W.heap[a.block]?) : NeedsAt W' A p := fun h0 => by
  obtain ⟨b, o, rfl, hc⟩ := h h0
  refine ⟨b, o, rfl, fun k hk => ?_⟩
  rw [World.cell?_of_block (w := W) (a := ⟨b, o + k, none⟩) (hs ⟨b, o, none⟩ rfl)]; exact hc k hk
/-- data behind q, not in the row v -/
def Dat (W : World) (q : Nat) (v : Value) (A : Option Addr) : Prop := ∀ a, A = some a → q < a.block ∧ a.block < W.heap.size ∧ v.ownBlock ≠ some a.block
def OutD (W : World) (q : Nat) (v : Value) (cs : List Value) (o : Nat) (x : OutV) : Prop := ∃ A ca R cr M cm, cs[o]? = some (vs x.name) ∧ cs[o + 1]? = some (.slice A x.arch.length ca) ∧ cs[o + 2]? = some (.slice R x.refs.length cr) ∧ cs[o + 3]? = some (.slice M x.needs.length cm) ∧
  OutV4 W x A R M ∧ Dat W q v A ∧ Dat W q v R ∧ Dat W q v M
/-- what a step keeps: all behind q but the row v; the row may have moved -/
structure Keep (q : Nat) (v v' : Value) (W W' : World) : Prop where
  size : W.heap.size ≤ W'.heap.size
  same : ∀ c, q < c → c < W.heap.size → v.ownBlock ≠ some c → W'.heap[c]? = W.heap[c]?
  own : ∀ k, v'.ownBlock = some k → v.ownBlock = some k ∨ W.heap.size ≤ k
theorem Dat.keep {q : Nat} {v v' : Value} {W W' : World} {A : Option Addr} (h : Dat W q v A) (k : Keep q v v' W W') : Dat W' q v' A := fun a ha => by
  obtain ⟨h1, h2, h3⟩ := h a ha
  refine ⟨h1, Nat.lt_of_lt_of_le h2 k.size, fun e => ?_⟩
  rcases k.own _ e with h4 | h4
  · exact h3 h4
  · omega
theorem OutD.keep {q : Nat} {v v' : Value} {W W' : World} {cs : List Value} {o : Nat} {x : OutV} (h : OutD W q v cs o x) (k : Keep q v v' W W') : OutD W' q v' cs o x := by
  obtain ⟨A, ca, R, cr, M, cm, h0, h1, h2, h3, h4, d1, d2, d3⟩ := h
  exact ⟨A, ca, R, cr, M, cm, h0, h1, h2, h3, ⟨h4.1.sameAt fun a ha => k.same _ (d1 a ha).1 (d1 a ha).2.1 (d1 a ha).2.2, h4.2.1.sameAt fun a ha => k.same _ (d2 a ha).1 (d2 a ha).2.1 (d2 a ha).2.2, h4.2.2.sameAt fun a ha => k.same _ (d3 a ha).1 (d3 a ha).2.1 (d3 a ha).2.2⟩, d1.keep k, d2.keep k, d3.keep k⟩
theorem OutD.app {W : World} {q : Nat} {v : Value} {cs : List Value} {o : Nat} {x : OutV} (h : OutD W q v cs o x) (cs' : List Value) : OutD W q v (cs ++ cs') o x := by
  obtain ⟨A, ca, R, cr, M, cm, h0, h1, h2, h3, h4⟩ := h
  have hh : ∀ i y, cs[i]? = some y → (cs ++ cs')[i]? = some y := fun i y hi => by rw [List.getElem?_append_left (List.getElem?_eq_some_iff.1 hi).1]; exact hi
  exact ⟨A, ca, R, cr, M, cm, hh _ _ h0, hh _ _ h1, hh _ _ h2, hh _ _ h3, h4⟩
/-- two blocks may have turned -/
structure But2 (g o : Nat) (w w' : World) : Prop where
  os : w'.os = w.os
  tape : w'.tape = w.tape
  output : w'.output = w.output
  size : w.heap.size ≤ w'.heap.size
  other : ∀ c, c < w.heap.size → c ≠ g → c ≠ o → w'.heap[c]? = w.heap[c]?
theorem But2.refl (g o : Nat) (w : World) : But2 g o w w := ⟨rfl, rfl, rfl, Nat.le_refl _, fun _ _ _ _ => rfl⟩
theorem But2.trans {g o : Nat} {a b c : World} (h : But2 g o a b) (k : But2 g o b c) : But2 g o a c :=
  ⟨k.os.trans h.os, k.tape.trans h.tape, k.output.trans h.output, Nat.le_trans h.size k.size, fun i hi h1 h2 => (k.other i (Nat.lt_of_lt_of_le hi h.size) h1 h2).trans (h.other i hi h1 h2)⟩
theorem But2.of1 {g o : Nat} {a b : World} (h : OnlyAt g a b) : But2 g o a b := ⟨h.os, h.tape, h.output, h.size, fun i hi h1 _ => h.other i hi h1⟩
theorem But2.of2 {g o : Nat} {a b : World} (h : OnlyAt o a b) : But2 g o a b := ⟨h.os, h.tape, h.output, h.size, fun i hi _ h2 => h.other i hi h2⟩
theorem But2.of_below {g o : Nat} {a b : World} (h : Below a.heap.size a b) : But2 g o a b := .of1 (OnlyAt.of_below h)
/-- of what was there ahead of the block o only g has turned -/
theorem But2.only {g o : Nat} {w0 a b : World} (h0 : OnlyAt g w0 a) (h : But2 g o a b) (ho : w0.heap.size ≤ o) : OnlyAt g w0 b :=
  ⟨h.os.trans h0.os, h.tape.trans h0.tape, h.output.trans h0.output, Nat.le_trans h0.size h.size, fun c hc hne => (h.other c (Nat.lt_of_lt_of_le hc h0.size) hne (by omega)).trans (h0.other c hc hne)⟩
theorem But2.grown {g o : Nat} {a w w' : World} {row : Option Nat} (h : But2 g o a w) (hg : w.grownBy w' row) (hr : ∀ k, row = some k → a.heap.size ≤ k) : But2 g o a w' :=
  ⟨hg.os.trans h.os, hg.tape.trans h.tape, hg.output.trans h.output, Nat.le_trans h.size hg.size, fun c hc h1 h2 => by
    rw [hg.block c (Nat.lt_of_lt_of_le hc h.size) (fun e => by have := hr c e.symm; omega)]; exact h.other c hc h1 h2⟩
theorem But2.blk {g o b : Nat} {w w' : World} {t : TypeId} {cs : List Value} (h : But2 g o w w') (hb : Blk w b t cs) (h1 : b ≠ g) (h2 : b ≠ o) : Blk w' b t cs := by
  unfold Blk; rw [h.other b hb.lt h1 h2]; exact hb
theorem numR_u64 (n : Nat) (hn : n ≤ 8) (r : Rd) : numR n r < 18446744073709551616 := by
  have h := numR_lt n r
  exact Nat.lt_of_lt_of_le h (Nat.le_trans (Nat.pow_le_pow_right (by decide) hn) (by decide))
end Go.Proofs.YtggmogjgaoobjaaDoor

/- The contracts of layOuts and Encode. -/
namespace Go.Proofs.YtggmogjgaoobjaaDoor
open Go.RowKit BaseMath WireMath ReqMath

/-- while something is laid: the writer, the box -/
structure LIn (w : World) (base g : Nat) (v : Value) (t : TypeId) (cs : List Value) (W : World) (u : Value) (l : List By) : Prop where
  wr : WrIs W base g u l
  box : Blk W w.heap.size t cs
  step : WrStep g v u w W
  ne : u.ownBlock ≠ some w.heap.size
  glt : g < w.heap.size
theorem LIn.next {w W W' : World} {base g : Nat} {v u u' : Value} {t : TypeId} {cs : List Value} {l l' : List By} (h : LIn w base g v t cs W u l) (h1 : WrIs W' base g u' l') (h2 : WrStep g u u' W W') : LIn w base g v t cs W' u' l' := by
  have hlt := h.box.lt
  refine ⟨h1, ?_, h.step.trans h2, fun e => ?_, h.glt⟩
  · unfold Blk; rw [h2.other _ hlt (by have := h.glt; omega) h.ne]; exact h.box
  · rcases h2.own _ e with h3 | h3
    · exact h.ne h3
    · omega
theorem LIn.below {w W : World} {base g : Nat} {v u : Value} {t : TypeId} {cs : List Value} {l l0 : List By} (h : LIn w base g v t cs W u l) (h0 : WrIs w base g v l0) : Below base w W := h.step.below h0 h0.base_lt
theorem LIn.new {w : World} {base g : Nat} {v : Value} {l : List By} {t : TypeId} (h : WrIs w base g v l) (cs : Array Value) : LIn w base g v t cs.toList (w.alloc (.cells cs t)) v l := by
  have hb : Below w.heap.size w (w.alloc (.cells cs t)) := (Below.refl _ _).alloc (Nat.le_refl _) _
  refine ⟨h.below hb, Blk.new w t cs, WrStep.of_below hb, fun e => ?_, h.blk.lt⟩
  have := (h.own.lt _ e).2; omega
def outN (l : List OutV) (k : Nat) : List By := (l.take k).flatMap outB
theorem outN_succ (l : List OutV) (k : Nat) (h : k < l.length) : outN l (k + 1) = outN l k ++ outB l[k] := by
  unfold outN; rw [List.take_succ_eq_append_getElem h, List.flatMap_append, List.flatMap_cons, List.flatMap_nil, List.append_nil]
theorem outN_le (l : List OutV) (k : Nat) (h : k < l.length) : (outN l k).length + (outB l[k]).length ≤ (l.flatMap outB).length := by
  have e : l.flatMap outB = outN l (k + 1) ++ (l.drop (k + 1)).flatMap outB := by
    unfold outN; rw [← List.flatMap_append, List.take_append_drop]
  rw [e, outN_succ l k h, List.length_append, List.length_append]; omega
theorem outB_length (o : OutV) : (outB o).length = (itemB o.name o.arch o.refs).length + 1 + o.needs.length := by unfold outB; simp; omega
def needN (l : List Int) (k : Nat) : List By := (l.take k).map byteI
theorem needN_succ (l : List Int) (k : Nat) (h : k < l.length) : needN l (k + 1) = needN l k ++ [byteI l[k]] := by
  unfold needN; rw [List.take_succ_eq_append_getElem h, List.map_append, List.map_singleton]
theorem needN_length (l : List Int) (k : Nat) (h : k ≤ l.length) : (needN l k).length = k := by unfold needN; simp; omega
theorem outs_len : ∀ l : List OutV, l.length ≤ (l.flatMap outB).length
  | [] => Nat.le_refl _
  | x :: l => by
    have := outs_len l
    rw [List.flatMap_cons, List.length_append, outB_length, List.length_cons]; omega
theorem vb_byteI (n : Int) : vb (byteI n) = .int .u8 (n % 256) := vb_ofInt n
set_option maxHeartbeats 4000000 in
set_option maxRecDepth 100000 in
theorem layouts_any (w0 : World) (base g : Nat) (v : Value) (l : List By) (os : List OutV) (O : Option Addr) (co : Nat) (hrs : ∀ x ∈ os, x.refs.length ≤ 255) (hbd : l.length + (outsB os).length ≤ 1000000) (w : World)
    (h : WrIs w base g v l) (hO : OutsAt w0 O os) (hb0 : Below w0.heap.size w0 w) (hw0 : w0.heap.size ≤ base) :
    Calls Tryd.prog 43 #[.pointer (some ⟨g, 0, none⟩), .slice O os.length co] w (LayPost w base g v (l ++ outsB os)) := by
  have hbd' : l.length + 1 + (os.flatMap outB).length ≤ 1000000 := by unfold outsB at hbd; simp only [List.length_append, List.length_cons, List.length_nil] at hbd; omega
  have H := Lib.hid h; have HO := Lib.hid hO; have HRS := Lib.hid hrs; have HB0 := Lib.hid hb0
  have HC1 : Hid (Calls Tryd.prog 39 #[.pointer (some ⟨g, 0, none⟩), .int .u8 ((os.length : Int) % 256)] w (WrPost w base g v (l ++ [UInt8.ofNat os.length]))) := by
    have := wbyte_any base g v l (UInt8.ofNat os.length) (by omega) w h
    rw [vb_mod] at this; exact this
  have hbs := h.base_lt
  have hol := outs_len os
  clear h hO hrs hb0 hbd
  go_enter Tryd.func43, Tryd.ntmps43
  go_wp2_with fail
  refine HC1.out.mono ?_
  rintro e w1 ⟨rfl, v1, h1, h2⟩
  have H1 : Hid (WrIs w1 base g v1 (l ++ [UInt8.ofNat os.length] ++ outN os 0)) := by show WrIs _ _ _ _ _; simpa [outN] using h1
  have HT := Lib.hid h2
  clear h1 h2 HC1
  go_wp2_with fail
  go_loopw [15] (fun vi wr => ∃ k : Nat, k ≤ os.length ∧ vi = .int .i64 k ∧ Hid (∃ v', WrIs wr base g v' (l ++ [UInt8.ofNat os.length] ++ outN os k) ∧ WrStep g v v' w wr)) (fun vi _ => os.length - (intOf vi).toNat)
  case atStart => exact ⟨0, Nat.zero_le _, rfl, v1, H1.out, HT.out⟩
  case round =>
    clear H1 HT
    obtain ⟨k, hk, rfl, HX⟩ := hrel
    rename World => W0
    obtain ⟨u0, h1, h2⟩ := HX.out
    have HR := Lib.hid h1; have HT := Lib.hid h2
    have HBB : Hid (Below w0.heap.size w0 W0) := HB0.out.trans ((h2.below H.out hbs).mono hw0)
    have hb0s := HR.out.base_lt
    clear HX h1 h2
    by_cases hlt : k < os.length
    · obtain ⟨b, o, rfl, hc⟩ := (HO.out.below HBB.out) (by omega)
      obtain ⟨A, ca, R, cr, M, cm, c0, c1, c2, c3, h4⟩ := hc k hlt
      obtain ⟨_, _, hOe, hc0⟩ := HO.out (by omega)
      cases hOe
      obtain ⟨A', ca', R', cr', M', cm', d0, d1, d2, d3, h4'⟩ := hc0 k hlt
      have hbl : b < w0.heap.size := block_of_cell d0
      have hh : ∀ q, W0.cell? ⟨b, q, none⟩ = w0.cell? ⟨b, q, none⟩ := fun q => HBB.out.cell (p := ⟨b, q, none⟩) hbl
      rw [hh, d1] at c1; rw [hh, d2] at c2; rw [hh, d3] at c3
      obtain ⟨rfl, rfl⟩ : A' = A ∧ ca' = ca := by cases c1; exact ⟨rfl, rfl⟩
      obtain ⟨rfl, rfl⟩ : R' = R ∧ cr' = cr := by cases c2; exact ⟨rfl, rfl⟩
      obtain ⟨rfl, rfl⟩ : M' = M ∧ cm' = cm := by cases c3; exact ⟨rfl, rfl⟩
      clear c1 c2 c3
      rw [← hh] at d1 d2 d3
      have c1 := d1; have c2 := d2; have c3 := d3
      have H4 := Lib.hid h4'
      have hle := outN_le os k hlt
      rw [outB_length] at hle
      have HF := Lib.hid (outN_succ os k hlt)
      have HRL := HRS.out os[k] (List.getElem_mem hlt)
      clear hc hc0 d0 d1 d2 d3 h4 h4' hh
      generalize os[k] = x at *
      have hL := LIn.new (t := 57) HR.out #[vs x.name, .slice A' x.arch.length ca', .slice R' x.refs.length cr', .slice M' x.needs.length cm']
      have HL := Lib.hid hL
      have b0 := hL.box.cell 0; have b1 := hL.box.cell 1; have b2 := hL.box.cell 2; have b3 := hL.box.cell 3
      simp only [List.getElem?_cons_zero, List.getElem?_cons_succ] at b0 b1 b2 b3
      have HBX : Hid (Below w0.heap.size w0 (W0.alloc (.cells #[vs x.name, .slice A' x.arch.length ca', .slice R' x.refs.length cr', .slice M' x.needs.length cm'] 57))) := HBB.out.trans ((hL.below HR.out).mono hw0)
      clear hL
      go_wp2_with fail
      refine (layitem_any w0 base g u0 (l ++ [UInt8.ofNat os.length] ++ outN os k) x.name x.arch x.refs A' ca' R' cr' HRL (by simp; omega) _ HL.out.wr H4.out.1 H4.out.2.1 HBX.out hw0).mono ?_
      rintro e w2 ⟨rfl, v2, h1, h2⟩
      have HL2 := Lib.hid (HL.out.next h1 h2)
      clear h1 h2 HL HBX b0 b1 b2 b3 c0 c1 c2 c3
      have b3 := HL2.out.box.cell 3
      simp only [List.getElem?_cons_zero, List.getElem?_cons_succ] at b3
      have HC2 : Hid (Calls Tryd.prog 39 #[.pointer (some ⟨g, 0, none⟩), .int .u8 ((x.needs.length : Int) % 256)] w2 (WrPost w2 base g v2 (l ++ [UInt8.ofNat os.length] ++ outN os k ++ itemB x.name x.arch x.refs ++ [UInt8.ofNat x.needs.length]))) := by
        have := wbyte_any base g v2 (l ++ [UInt8.ofNat os.length] ++ outN os k ++ itemB x.name x.arch x.refs) (UInt8.ofNat x.needs.length) (by simp; omega) w2 HL2.out.wr
        rw [vb_mod] at this; exact this
      go_wp2_with fail
      refine HC2.out.mono ?_
      rintro e w3 ⟨rfl, v3, h1, h2⟩
      have HL3 := Lib.hid (HL2.out.next h1 h2)
      clear h1 h2 HL2 b3 HC2
      have b3 := HL3.out.box.cell 3
      simp only [List.getElem?_cons_zero, List.getElem?_cons_succ] at b3
      go_wp2_with fail
      clear b3
      go_loopw [36] (fun vj wr => ∃ j : Nat, j ≤ x.needs.length ∧ vj = .int .i64 j ∧ Hid (∃ u, LIn W0 base g u0 57 [vs x.name, .slice A' x.arch.length ca', .slice R' x.refs.length cr', .slice M' x.needs.length cm'] wr u (l ++ [UInt8.ofNat os.length] ++ outN os k ++ itemB x.name x.arch x.refs ++ [UInt8.ofNat x.needs.length] ++ needN x.needs j))) (fun vj _ => x.needs.length - (intOf vj).toNat)
      case atStart => exact ⟨0, Nat.zero_le _, rfl, v3, by have h := HL3.out; simpa [needN] using h⟩
      case round =>
        clear HL3
        obtain ⟨j, hj, rfl, HX⟩ := hrel
        rename World => W5
        obtain ⟨u5, hL⟩ := HX.out
        have HL := Lib.hid hL
        clear hL HX
        by_cases hjt : j < x.needs.length
        · have hbw : Below w0.heap.size w0 W5 := HBB.out.trans ((HL.out.below HR.out).mono hw0)
          obtain ⟨nb, no, hMe, hnc⟩ := (H4.out.2.2.below hbw) (by omega)
          subst hMe
          have cn := hnc j hjt
          have HNF := Lib.hid (needN_succ x.needs j hjt)
          have HLEN := needN_length x.needs j hj
          generalize x.needs[j] = z at *
          have HC5 : Hid (Calls Tryd.prog 39 #[.pointer (some ⟨g, 0, none⟩), .int .u8 (z % 256)] W5 (WrPost W5 base g u5 (l ++ [UInt8.ofNat os.length] ++ outN os k ++ itemB x.name x.arch x.refs ++ [UInt8.ofNat x.needs.length] ++ needN x.needs j ++ [byteI z]))) := by
            have := wbyte_any base g u5 (l ++ [UInt8.ofNat os.length] ++ outN os k ++ itemB x.name x.arch x.refs ++ [UInt8.ofNat x.needs.length] ++ needN x.needs j) (byteI z) (by simp; omega) W5 HL.out.wr
            rw [vb_byteI] at this; exact this
          clear hbw hnc
          go_wp2_with fail
          refine HC5.out.mono ?_
          rintro e w6 ⟨rfl, v6, h1, h2⟩
          have HN : Hid (∃ u, LIn W0 base g u0 57 [vs x.name, .slice A' x.arch.length ca', .slice R' x.refs.length cr', .slice (some ⟨nb, no, none⟩) x.needs.length cm'] w6 u (l ++ [UInt8.ofNat os.length] ++ outN os k ++ itemB x.name x.arch x.refs ++ [UInt8.ofNat x.needs.length] ++ needN x.needs (j + 1))) := ⟨v6, by rw [HNF.out, ← List.append_assoc]; exact HL.out.next h1 h2⟩
          clear h1 h2 HC5 HL
          go_wp2_with fail
          go_roundw
          case rel => exact ⟨j + 1, by omega, by go_num, HN.out⟩
          case measure => simp [intOf]; omega
        · obtain rfl : j = x.needs.length := by omega
          have HN : Hid (∃ v', WrIs W5 base g v' (l ++ [UInt8.ofNat os.length] ++ outN os (k + 1)) ∧ WrStep g v v' w W5) := by
            refine ⟨u5, ?_, HT.out.trans HL.out.step⟩
            have := HL.out.wr
            rw [HF.out]
            unfold outB
            simpa [needN, List.append_assoc] using this
          go_wp2_with fail
          go_roundw
          case rel => exact ⟨k + 1, by omega, by go_num, HN.out⟩
          case measure => simp [intOf]; omega
    · obtain rfl : k = os.length := by omega
      go_wp2_with fail
      refine bodyPost_end (v := .tuple #[]) (by simp [results, Tryd.results43]) rfl ⟨rfl, u0, ?_, HT.out⟩
      have := HR.out
      unfold outN at this
      rw [List.take_length] at this
      unfold outsB
      rw [← List.append_assoc]; exact this
/-- the bytes of a request, as Encode answers them -/
def EncPost (w : World) (l : List By) (e : Ending) (w' : World) : Prop := ∃ v, e = .returned v ∧ RowRel w 5 (l.map vb) v w'
theorem writer_nil (w : World) : WrIs (w.alloc (.cells #[.slice none 0 0] 88)) w.heap.size w.heap.size (.slice none 0 0) [] := by
  refine ⟨?_, World.ownsRow_nil _ _ _ _, Nat.le_refl _⟩
  exact Blk.new w 88 _
end Go.Proofs.YtggmogjgaoobjaaDoor

/- The contract of Encode. -/
namespace Go.Proofs.YtggmogjgaoobjaaDoor
open Go.RowKit BaseMath WireMath ReqMath

theorem RowRel.pre {w w1 wr : World} {e : TypeId} {l : List Value} {v : Value} (h : RowRel w1 e l v wr) (hb : Below w.heap.size w w1) : RowRel w e l v wr := by
  refine ⟨hb.trans (h.below.mono hb.size), h.own.1, ?_⟩
  rcases h.own.2 with h1 | ⟨g, cap, cur, h1, h2, h3⟩
  · exact .inl h1
  · exact .inr ⟨g, cap, cur, h1, Nat.le_trans hb.size h2, h3⟩
set_option maxHeartbeats 4000000 in
set_option maxRecDepth 100000 in
theorem encode_any (r : ReqV) (v : Value) (hrs : r.refs.length ≤ 255) (hors : ∀ x ∈ r.outs, x.refs.length ≤ 255) (hbd : (encB r).length ≤ 1000000) (w : World) (ht : KTab w) (h : ReqIs w v r) :
    Calls Tryd.prog 15 #[v] w (EncPost w (encB r)) := by
  obtain ⟨A, ca, R, cr, O, co, rfl, hA, hR, hO⟩ := h
  have HA := Lib.hid hA; have HR := Lib.hid hR; have HO := Lib.hid hO; have HT := Lib.hid ht; have HOR := Lib.hid hors
  have hb1 : Below w.heap.size w (w.alloc (.cells #[vb r.kind, vs r.name, vs r.path, .slice A r.arch.length ca, .slice R r.refs.length cr, .slice O r.outs.length co] 40)) := (Below.refl _ _).alloc (Nat.le_refl _) _
  have hbox := Blk.new w 40 #[vb r.kind, vs r.name, vs r.path, .slice A r.arch.length ca, .slice R r.refs.length cr, .slice O r.outs.length co]
  have hW := writer_nil (w.alloc (.cells #[vb r.kind, vs r.name, vs r.path, .slice A r.arch.length ca, .slice R r.refs.length cr, .slice O r.outs.length co] 40))
  have hsz1 : (w.alloc (.cells #[vb r.kind, vs r.name, vs r.path, .slice A r.arch.length ca, .slice R r.refs.length cr, .slice O r.outs.length co] 40)).heap.size = w.heap.size + 1 := by simp
  rw [hsz1] at hW
  have HBOX := Lib.hid (hbox.alloc (.cells #[.slice none 0 0] 88))
  have HB2 := Lib.hid (hb1.alloc hb1.size (.cells #[.slice none 0 0] 88))
  have HW := Lib.hid hW
  have HL : Hid ((encB r).length = 1 + (restB (hasK r.kind.toNat) r).length) := by show _ = _; unfold encB; simp; omega
  have HE : Hid (encB r = [r.kind] ++ restB (hasK r.kind.toNat) r) := rfl
  have hK := hasK_le r.kind.toNat
  have hlen : 1 + (restB (hasK r.kind.toNat) r).length ≤ 1000000 := by rw [← HL.out]; exact hbd
  have hts := ht.size
  have k0 := HBOX.out.cell 0
  simp only [List.getElem?_cons_zero] at k0
  clear hA hR hO ht hors hb1 hbox hW hsz1 hbd HL
  rw [HE.out]
  clear HE
  go_enter Tryd.func15, Tryd.ntmps15
  go_wp2_with fail
  refine (wbyte_any (w.heap.size + 1) (w.heap.size + 1) (.slice none 0 0) [] r.kind (by simp) _ HW.out).mono ?_
  rintro e w3 ⟨rfl, v3, h1, h2⟩
  have hB3 := h2.below HW.out HW.out.base_lt
  have HB3 : Hid (Below w.heap.size w w3) := HB2.out.trans (hB3.mono (by omega))
  have HBX3 := Lib.hid (HBOX.out.below hB3 (by omega))
  have HW3 := Lib.hid h1
  clear h1 h2 hB3 HBOX HW HB2 k0
  have k0 := HBX3.out.cell 0
  simp only [List.getElem?_cons_zero] at k0
  go_wp2_with fail
  refine (lookup_any r.kind w3 (HT.out.below HB3.out hts)).mono ?_
  rintro e w4 ⟨rfl, hb⟩
  have HB4 : Hid (Below w.heap.size w w4) := HB3.out.trans (hb.mono HB3.out.size)
  have HBX4 := Lib.hid (HBX3.out.below hb HBX3.out.lt)
  have HW4 := Lib.hid (HW3.out.below hb)
  clear hb HBX3 HW3 HB3 k0
  have k1 := HBX4.out.cell 1; have k2 := HBX4.out.cell 2; have k3 := HBX4.out.cell 3; have k4 := HBX4.out.cell 4; have k5 := HBX4.out.cell 5
  simp only [List.getElem?_cons_zero, List.getElem?_cons_succ] at k1 k2 k3 k4 k5
  generalize hasK r.kind.toNat = hh at *
  generalize nameK r.kind.toNat = nn at *
  have hcase : hh = 0 ∨ hh = 1 ∨ hh = 2 ∨ hh = 3 ∨ hh = 4 := by omega
  rcases hcase with rfl | rfl | rfl | rfl | rfl
  · have HX : Hid (restB 0 r = []) := rfl
    rw [HX.out] at hlen ⊢
    go_wp2_with fail
    refine (wbytes_any _ _ v3 _ (by simp) w4 HW4.out).mono ?_
    rintro e w5 ⟨v5, rfl, hr⟩
    have HN := Lib.hid (hr.pre HB4.out)
    clear hr
    go_wp2_with fail
    go_ret
    exact ⟨_, rfl, by rw [HX.out]; simpa using HN.out⟩
  · have HX : Hid (restB 1 r = []) := rfl
    rw [HX.out] at hlen ⊢
    go_wp2_with fail
    refine (wbytes_any _ _ v3 _ (by simp) w4 HW4.out).mono ?_
    rintro e w5 ⟨v5, rfl, hr⟩
    have HN := Lib.hid (hr.pre HB4.out)
    clear hr
    go_wp2_with fail
    go_ret
    exact ⟨_, rfl, by rw [HX.out]; simpa using HN.out⟩
  · have HX : Hid (restB 2 r = textB r.path) := rfl
    rw [HX.out, textB_length] at hlen
    rw [HX.out]
    go_wp2_with fail
    refine (wtext_any _ _ v3 ([] ++ [r.kind]) r.path (by simp; omega) w4 HW4.out).mono ?_
    rintro e w5 ⟨rfl, v5, h1, h2⟩
    have HB5 : Hid (Below w.heap.size w w5) := HB4.out.trans ((h2.below HW4.out HW4.out.base_lt).mono (by omega))
    have HW5 := Lib.hid h1
    clear h1 h2 HW4
    go_wp2_with fail
    refine (wbytes_any _ _ v5 _ (by simp [textB_length]; omega) w5 HW5.out).mono ?_
    rintro e w6 ⟨v6, rfl, hr⟩
    have HN := Lib.hid (hr.pre HB5.out)
    clear hr
    go_wp2_with fail
    go_ret
    exact ⟨_, rfl, by rw [HX.out]; simpa using HN.out⟩
  · have HX : Hid (restB 3 r = itemB r.name r.arch r.refs) := rfl
    rw [HX.out] at hlen ⊢
    go_wp2_with fail
    refine (layitem_any w _ _ v3 ([] ++ [r.kind]) r.name r.arch r.refs A ca R cr hrs (by simp; omega) w4 HW4.out HA.out HR.out HB4.out (by omega)).mono ?_
    rintro e w5 ⟨rfl, v5, h1, h2⟩
    have HB5 : Hid (Below w.heap.size w w5) := HB4.out.trans ((h2.below HW4.out HW4.out.base_lt).mono (by omega))
    have HW5 := Lib.hid h1
    clear h1 h2 HW4
    go_wp2_with fail
    refine (wbytes_any _ _ v5 _ (by simp; omega) w5 HW5.out).mono ?_
    rintro e w6 ⟨v6, rfl, hr⟩
    have HN := Lib.hid (hr.pre HB5.out)
    clear hr
    go_wp2_with fail
    go_ret
    exact ⟨_, rfl, by rw [HX.out]; simpa using HN.out⟩
  · have HX : Hid (restB 4 r = outsB r.outs) := rfl
    rw [HX.out] at hlen ⊢
    go_wp2_with fail
    refine (layouts_any w _ _ v3 ([] ++ [r.kind]) r.outs O co HOR.out (by simp; omega) w4 HW4.out HO.out HB4.out (by omega)).mono ?_
    rintro e w5 ⟨rfl, v5, h1, h2⟩
    have HB5 : Hid (Below w.heap.size w w5) := HB4.out.trans ((h2.below HW4.out HW4.out.base_lt).mono (by omega))
    have HW5 := Lib.hid h1
    clear h1 h2 HW4
    go_wp2_with fail
    refine (wbytes_any _ _ v5 _ (by simp; omega) w5 HW5.out).mono ?_
    rintro e w6 ⟨v6, rfl, hr⟩
    have HN := Lib.hid (hr.pre HB5.out)
    clear hr
    go_wp2_with fail
    go_ret
    exact ⟨_, rfl, by rw [HX.out]; simpa using HN.out⟩
end Go.Proofs.YtggmogjgaoobjaaDoor
