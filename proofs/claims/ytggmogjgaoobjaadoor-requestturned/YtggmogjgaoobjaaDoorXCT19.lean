/- The contract of Decode. -/
import Derived.Test.YtggmogjgaoobjaaDoorXCT18
namespace Go.Proofs.YtggmogjgaoobjaaDoor
open Go.RowKit BaseMath WireMath ReqMath

/-- a request that was made: its data lie in blocks from n on -/
def ReqN (w : World) (n : Nat) (v : Value) (r : ReqV) : Prop := ∃ A ca R cr O co, v = .agg #[vb r.kind, vs r.name, vs r.path, .slice A r.arch.length ca, .slice R r.refs.length cr, .slice O r.outs.length co] ∧ SrcIs w A r.arch ∧ New n A ∧ StrsIs w R r.refs ∧ New n R ∧ OutsN w n O r.outs
theorem ReqN.is {w : World} {n : Nat} {v : Value} {r : ReqV} (h : ReqN w n v r) : ReqIs w v r := by
  obtain ⟨A, ca, R, cr, O, co, he, h1, _, h2, _, h3⟩ := h
  exact ⟨A, ca, R, cr, O, co, he, h1, h2, h3.at⟩
theorem ReqN.only {w w' : World} {n g : Nat} {v : Value} {r : ReqV} (h : ReqN w n v r) (ho : OnlyAt g w w') (hg : g < n) : ReqN w' n v r := by
  obtain ⟨A, ca, R, cr, O, co, he, h1, n1, h2, n2, h3⟩ := h
  exact ⟨A, ca, R, cr, O, co, he, h1.onlyN ho n1 hg, n1, h2.onlyN ho n2 hg, n2, h3.only ho hg⟩
def DecPost (w : World) (x : ReqV × Int) (e : Ending) (w' : World) : Prop := Below w.heap.size w w' ∧ ∃ v, e = .returned (.tuple #[v, .int .i64 x.2]) ∧ ReqIs w' v x.1
abbrev ns : Value := .slice none 0 0
theorem New.none (n : Nat) : New n none := fun a ha => by cases ha
theorem zero_req (w : World) : ReqIs w (.agg #[.int .u8 0, .string ⟨#[]⟩, .string ⟨#[]⟩, ns, ns, ns]) zeroV := ⟨none, 0, none, 0, none, 0, rfl, SrcIs.nil _ _, StrsIs.nil _ _, OutsAt.nil _ _⟩
theorem dec_zero {w w' : World} {x : ReqV × Int} {e : Int} (hx : x = (zeroV, e)) (hb : Below w.heap.size w w') : DecPost w x (.returned (.tuple #[.agg #[.int .u8 0, .string ⟨#[]⟩, .string ⟨#[]⟩, ns, ns, ns], .int .i64 e])) w' := by
  subst hx; exact ⟨hb, _, rfl, zero_req _⟩
theorem dec_ok {w w' : World} {x : ReqV × Int} {r : ReqV} {v : Value} {n : Nat} (hx : x = (r, 0)) (hb : Below w.heap.size w w') (h : ReqN w' n v r) : DecPost w x (.returned (.tuple #[v, .int .i64 0])) w' := by
  subst hx; exact ⟨hb, _, rfl, h.is⟩
theorem info40 : (Tryd.prog.info? 40).map (·.size) = some 6 := by kernel_rfl
theorem RowSet.only {w w' : World} {b : Nat} {t : TypeId} {cs : List Value} (h : RowSet w b t cs w') : OnlyAt b w w' := by
  have hb := h.below 0 w (Below.refl 0 w) (Nat.zero_le _)
  exact ⟨hb.os, hb.tape, hb.output, hb.size, fun c _ hne => h.other c hne⟩
theorem whole_end (r : Rd) : (whole r = true ∧ endR r = 0) ∨ (whole r = false ∧ endR r = 2) := by
  unfold whole endR
  cases hf : r.f with
  | true => exact .inr ⟨by simp, by simp⟩
  | false =>
    by_cases hl : r.p.length = 0
    · exact .inl ⟨by simp [hl], by simp [hl]⟩
    · exact .inr ⟨by simp [hl], by simp [show 0 < r.p.length by omega]⟩
theorem kind_vb (p : List By) : vb (kindR p) = .int .u8 (numR 1 ⟨p, false⟩ : Nat) := by
  have h : numR 1 ⟨p, false⟩ < 256 := numR_lt 1 _
  unfold kindR; rw [vb_ofNat, Nat.mod_eq_of_lt h]
set_option maxHeartbeats 4000000 in
set_option maxRecDepth 100000 in
theorem decode_long (A : Option Addr) (c : Nat) (p : List By) (hp : p.length ≤ 500000) (hN : A = none → c = 0) (hlen : 2048 < p.length) (w : World) (ht : KTab w) (hA : SrcIs w A p) :
    Calls Tryd.prog 18 #[.slice A p.length c] w (DecPost w (decV p)) := by
  have HT := Lib.hid ht; have HA := Lib.hid hA; have HN := Lib.hid hN
  have hts := ht.size
  clear ht hA hN
  have HD : Hid (decV p = (zeroV, 3)) := by show _ = _; unfold decV; rw [if_pos hlen]
  have hl' : (2048 : Int) < p.length := by omega
  go_enter Tryd.func18, Tryd.ntmps18
  go_wp2_with fail
  exact bodyPost_ret (v := .tuple #[.agg #[.int .u8 0, .string ⟨#[]⟩, .string ⟨#[]⟩, ns, ns, ns], .int .i64 3]) (by simp [results, Tryd.results18, go_sem]) rfl (dec_zero HD.out ((Below.refl _ _).alloc (Nat.le_refl _) _))
set_option maxHeartbeats 4000000 in
set_option maxRecDepth 100000 in
theorem decode_0 (A : Option Addr) (c : Nat) (p : List By) (hp : p.length ≤ 500000) (hN : A = none → c = 0) (hlen : ¬ 2048 < p.length) (hkk : hasK (kindR p).toNat = 0) (w : World) (ht : KTab w) (hA : SrcIs w A p) :
    Calls Tryd.prog 18 #[.slice A p.length c] w (DecPost w (decV p)) := by
  have HT := Lib.hid ht; have HA := Lib.hid hA; have HN := Lib.hid hN
  have hts := ht.size
  clear ht hA hN
  have hl' : ¬ (2048 : Int) < p.length := by omega
  have hb1 : Below w.heap.size w (w.alloc (.cells #[.int .u8 0, .string ⟨#[]⟩, .string ⟨#[]⟩, ns, ns, ns] 40)) := (Below.refl _ _).alloc (Nat.le_refl _) _
  have HBLK := Lib.hid (Blk.new w 40 #[.int .u8 0, .string ⟨#[]⟩, .string ⟨#[]⟩, ns, ns, ns])
  have HB1 := Lib.hid hb1
  have HA1 := Lib.hid (HA.out.below hb1)
  have hsz1 : (w.alloc (.cells #[.int .u8 0, .string ⟨#[]⟩, .string ⟨#[]⟩, ns, ns, ns] 40)).heap.size = w.heap.size + 1 := by simp
  have HSZ1 := Lib.hid hsz1
  have HD : Hid (decV p = decK (kindR p) (after 1 ⟨p, false⟩)) := by show _ = _; unfold decV; rw [if_neg hlen]
  have HKV := Lib.hid (kind_vb p)
  clear hb1 hsz1
  go_enter Tryd.func18, Tryd.ntmps18
  go_wp2_with fail
  refine (reader_any A c p (by omega) HN.out _ HA1.out).mono ?_
  rintro e w2 ⟨g, rfl, hg, hr, hb⟩
  have hg' : w.heap.size + 1 ≤ g := by rw [← HSZ1.out]; exact hg
  have HB2 : Hid (Below w.heap.size w w2) := HB1.out.trans (hb.mono HB1.out.size)
  have HBLK2 := Lib.hid (HBLK.out.below hb HBLK.out.lt)
  have HR2 := Lib.hid hr
  clear hr hb hg HBLK HB1 HA1
  go_wp2_with fail
  refine (byte_any g g ⟨p, false⟩ (by simp only; omega) w2 HR2.out).mono ?_
  rintro e w3 ⟨rfl, h1, h2⟩
  have HB3 : Hid (Below w.heap.size w w3) := HB2.out.trans (h2.below (by omega) HB2.out.size)
  have HBLK3 := Lib.hid (Blk.only HBLK2.out h2 (by omega : w.heap.size ≠ g))
  have HR3 := Lib.hid h1
  have hal := after_len 1 ⟨p, false⟩
  have HOK : Hid (after 1 ⟨p, false⟩).ok := ok_after (fun h => by cases h) 1
  simp only at hal
  have hgw3 := h1.lt
  clear h1 h2 HR2 HBLK2 HB2
  rw [← HKV.out]
  generalize after 1 ⟨p, false⟩ = r at *
  generalize kindR p = k at *
  have hb4 : Below w3.heap.size w3 (w3.alloc (.cells #[vb k, .string ⟨#[]⟩, .string ⟨#[]⟩, ns, ns, ns] 40)) := (Below.refl _ _).alloc (Nat.le_refl _) _
  have HB4 : Hid (Below w.heap.size w (w3.alloc (.cells #[vb k, .string ⟨#[]⟩, .string ⟨#[]⟩, ns, ns, ns] 40))) := HB3.out.trans (hb4.mono HB3.out.size)
  have HBLK4 := Lib.hid (HBLK3.out.below hb4 HBLK3.out.lt)
  have HR4 := Lib.hid (HR3.out.below hb4 hgw3)
  have HBOX4 := Lib.hid (Blk.new w3 40 #[vb k, .string ⟨#[]⟩, .string ⟨#[]⟩, ns, ns, ns])
  have k0 := HBOX4.out.cell 0
  simp only [List.getElem?_cons_zero] at k0
  clear hb4 HBLK3 HR3 HB3
  go_wp2_with fail
  refine (lookup_any k _ (HT.out.below HB4.out hts)).mono ?_
  rintro e w5 ⟨rfl, hb⟩
  have HB5 : Hid (Below w.heap.size w w5) := HB4.out.trans (hb.mono HB4.out.size)
  have HBLK5 := Lib.hid (HBLK4.out.below hb HBLK4.out.lt)
  have HBOX5 := Lib.hid (HBOX4.out.below hb HBOX4.out.lt)
  have HR5 := Lib.hid (HR4.out.below hb (by simp; omega))
  have HK5 : Hid (decV p = if hasK k.toNat = 0 then (zeroV, 2) else if hasK k.toNat = 1 then finR ⟨k, [], [], [], [], []⟩ r else if hasK k.toNat = 2 then finR ⟨k, [], textR r, [], [], []⟩ (textA r) else if hasK k.toNat = 3 then finR ⟨k, iname r, [], iarch r, irefs r, []⟩ (itemA r)
    else match outsR r with
      | none => (zeroV, 2)
      | some (os, r') => finR ⟨k, [], [], [], [], os⟩ r') := HD.out
  have hw5 : w3.heap.size < w5.heap.size := HBOX5.out.lt
  have hd3 : w.heap.size < w3.heap.size := by have := HR5.out.le; omega
  clear hb HBLK4 HBOX4 HR4 HB4 HD k0
  rw [hkk] at HK5 ⊢
  clear hkk
  generalize nameK k.toNat = nn at *
  have HX : Hid (decV p = (zeroV, 2)) := HK5.out
  clear HK5
  go_wp2_with (refine wpList_store_blk rfl (.tmp 2) (.tmp 53) rfl rfl (cs' := [.int .u8 0, .string ⟨#[]⟩, .string ⟨#[]⟩, ns, ns, ns]) rfl HBLK5.out rfl info40 rfl ?_)
  intro w7 hrs
  have HRS := Lib.hid hrs
  have d0 := hrs.blk.cell 0; have d1 := hrs.blk.cell 1; have d2 := hrs.blk.cell 2; have d3 := hrs.blk.cell 3; have d4 := hrs.blk.cell 4; have d5 := hrs.blk.cell 5
  simp only [List.getElem?_cons_zero, List.getElem?_cons_succ] at d0 d1 d2 d3 d4 d5
  have HB7 : Hid (Below w.heap.size w w7) := hrs.below _ _ HB5.out (Nat.le_refl _)
  clear hrs
  go_wp2_with fail
  exact bodyPost_ret (v := .tuple #[.agg #[.int .u8 0, .string ⟨#[]⟩, .string ⟨#[]⟩, ns, ns, ns], .int .i64 2]) (by simp [results, Tryd.results18, go_sem, *]) rfl (dec_zero HX.out HB7.out)
end Go.Proofs.YtggmogjgaoobjaaDoor

/- The contract of Decode, one of its ways. -/
namespace Go.Proofs.YtggmogjgaoobjaaDoor
open Go.RowKit BaseMath WireMath ReqMath

set_option maxHeartbeats 4000000 in
set_option maxRecDepth 100000 in
theorem decode_1 (A : Option Addr) (c : Nat) (p : List By) (hp : p.length ≤ 500000) (hN : A = none → c = 0) (hlen : ¬ 2048 < p.length) (hkk : hasK (kindR p).toNat = 1) (w : World) (ht : KTab w) (hA : SrcIs w A p) :
    Calls Tryd.prog 18 #[.slice A p.length c] w (DecPost w (decV p)) := by
  have HT := Lib.hid ht; have HA := Lib.hid hA; have HN := Lib.hid hN
  have hts := ht.size
  clear ht hA hN
  have hl' : ¬ (2048 : Int) < p.length := by omega
  have hb1 : Below w.heap.size w (w.alloc (.cells #[.int .u8 0, .string ⟨#[]⟩, .string ⟨#[]⟩, ns, ns, ns] 40)) := (Below.refl _ _).alloc (Nat.le_refl _) _
  have HBLK := Lib.hid (Blk.new w 40 #[.int .u8 0, .string ⟨#[]⟩, .string ⟨#[]⟩, ns, ns, ns])
  have HB1 := Lib.hid hb1
  have HA1 := Lib.hid (HA.out.below hb1)
  have hsz1 : (w.alloc (.cells #[.int .u8 0, .string ⟨#[]⟩, .string ⟨#[]⟩, ns, ns, ns] 40)).heap.size = w.heap.size + 1 := by simp
  have HSZ1 := Lib.hid hsz1
  have HD : Hid (decV p = decK (kindR p) (after 1 ⟨p, false⟩)) := by show _ = _; unfold decV; rw [if_neg hlen]
  have HKV := Lib.hid (kind_vb p)
  clear hb1 hsz1
  go_enter Tryd.func18, Tryd.ntmps18
  go_wp2_with fail
  refine (reader_any A c p (by omega) HN.out _ HA1.out).mono ?_
  rintro e w2 ⟨g, rfl, hg, hr, hb⟩
  have hg' : w.heap.size + 1 ≤ g := by rw [← HSZ1.out]; exact hg
  have HB2 : Hid (Below w.heap.size w w2) := HB1.out.trans (hb.mono HB1.out.size)
  have HBLK2 := Lib.hid (HBLK.out.below hb HBLK.out.lt)
  have HR2 := Lib.hid hr
  clear hr hb hg HBLK HB1 HA1
  go_wp2_with fail
  refine (byte_any g g ⟨p, false⟩ (by simp only; omega) w2 HR2.out).mono ?_
  rintro e w3 ⟨rfl, h1, h2⟩
  have HB3 : Hid (Below w.heap.size w w3) := HB2.out.trans (h2.below (by omega) HB2.out.size)
  have HBLK3 := Lib.hid (Blk.only HBLK2.out h2 (by omega : w.heap.size ≠ g))
  have HR3 := Lib.hid h1
  have hal := after_len 1 ⟨p, false⟩
  have HOK : Hid (after 1 ⟨p, false⟩).ok := ok_after (fun h => by cases h) 1
  simp only at hal
  have hgw3 := h1.lt
  clear h1 h2 HR2 HBLK2 HB2
  rw [← HKV.out]
  generalize after 1 ⟨p, false⟩ = r at *
  generalize kindR p = k at *
  have hb4 : Below w3.heap.size w3 (w3.alloc (.cells #[vb k, .string ⟨#[]⟩, .string ⟨#[]⟩, ns, ns, ns] 40)) := (Below.refl _ _).alloc (Nat.le_refl _) _
  have HB4 : Hid (Below w.heap.size w (w3.alloc (.cells #[vb k, .string ⟨#[]⟩, .string ⟨#[]⟩, ns, ns, ns] 40))) := HB3.out.trans (hb4.mono HB3.out.size)
  have HBLK4 := Lib.hid (HBLK3.out.below hb4 HBLK3.out.lt)
  have HR4 := Lib.hid (HR3.out.below hb4 hgw3)
  have HBOX4 := Lib.hid (Blk.new w3 40 #[vb k, .string ⟨#[]⟩, .string ⟨#[]⟩, ns, ns, ns])
  have k0 := HBOX4.out.cell 0
  simp only [List.getElem?_cons_zero] at k0
  clear hb4 HBLK3 HR3 HB3
  go_wp2_with fail
  refine (lookup_any k _ (HT.out.below HB4.out hts)).mono ?_
  rintro e w5 ⟨rfl, hb⟩
  have HB5 : Hid (Below w.heap.size w w5) := HB4.out.trans (hb.mono HB4.out.size)
  have HBLK5 := Lib.hid (HBLK4.out.below hb HBLK4.out.lt)
  have HBOX5 := Lib.hid (HBOX4.out.below hb HBOX4.out.lt)
  have HR5 := Lib.hid (HR4.out.below hb (by simp; omega))
  have HK5 : Hid (decV p = if hasK k.toNat = 0 then (zeroV, 2) else if hasK k.toNat = 1 then finR ⟨k, [], [], [], [], []⟩ r else if hasK k.toNat = 2 then finR ⟨k, [], textR r, [], [], []⟩ (textA r) else if hasK k.toNat = 3 then finR ⟨k, iname r, [], iarch r, irefs r, []⟩ (itemA r)
    else match outsR r with
      | none => (zeroV, 2)
      | some (os, r') => finR ⟨k, [], [], [], [], os⟩ r') := HD.out
  have hw5 : w3.heap.size < w5.heap.size := HBOX5.out.lt
  have hd3 : w.heap.size < w3.heap.size := by have := HR5.out.le; omega
  clear hb HBLK4 HBOX4 HR4 HB4 HD k0
  rw [hkk] at HK5 ⊢
  clear hkk
  generalize nameK k.toNat = nn at *
  have HX : Hid (decV p = finR ⟨k, [], [], [], [], []⟩ r) := HK5.out
  clear HK5
  have HR6 := HR5; have HB6 := HB5; have HBLK6 := HBLK5; have HBOX6 := HBOX5
  have HQ6 : Hid (ReqN w5 (w.heap.size + 1) (.agg #[vb k, .string ⟨#[]⟩, .string ⟨#[]⟩, ns, ns, ns]) ⟨k, [], [], [], [], []⟩) := ⟨none, 0, none, 0, none, 0, rfl, SrcIs.nil _ _, New.none _, StrsIs.nil _ _, New.none _, OutsN.nil _ _ _⟩
  clear HR5 HB5 HBLK5 HBOX5
  rcases whole_end r with ⟨hw, he⟩ | ⟨hw, he⟩
  · have HE := Lib.hid he
    have HX2 : Hid (decV p = (⟨k, [], [], [], [], []⟩, 0)) := by show _ = _; rw [HX.out]; unfold finR; rw [if_pos hw]
    clear hw he HX
    go_wp2_with fail
    refine (end_any g g r _ HR6.out).mono ?_
    rintro e w7 ⟨rfl, rfl⟩
    rw [HE.out]
    have k0 := Blk.cell HBOX6.out 0; have k1 := Blk.cell HBOX6.out 1; have k2 := Blk.cell HBOX6.out 2; have k3 := Blk.cell HBOX6.out 3; have k4 := Blk.cell HBOX6.out 4; have k5 := Blk.cell HBOX6.out 5
    simp only [List.getElem?_cons_zero, List.getElem?_cons_succ] at k0 k1 k2 k3 k4 k5
    go_wp2_with (refine wpList_store_blk rfl (.tmp 2) (.tmp 54) rfl rfl (cs' := [vb k, .string ⟨#[]⟩, .string ⟨#[]⟩, ns, ns, ns]) rfl HBLK6.out rfl info40 rfl ?_)
    intro w8 hrs
    have d0 := hrs.blk.cell 0; have d1 := hrs.blk.cell 1; have d2 := hrs.blk.cell 2; have d3 := hrs.blk.cell 3; have d4 := hrs.blk.cell 4; have d5 := hrs.blk.cell 5
    simp only [List.getElem?_cons_zero, List.getElem?_cons_succ] at d0 d1 d2 d3 d4 d5
    have HB8 : Hid (Below w.heap.size w w8) := hrs.below _ _ HB6.out (Nat.le_refl _)
    have HQ8 : Hid (ReqN w8 (w.heap.size + 1) (.agg #[vb k, .string ⟨#[]⟩, .string ⟨#[]⟩, ns, ns, ns]) ⟨k, [], [], [], [], []⟩) := HQ6.out.only (RowSet.only hrs) (Nat.lt_succ_self _)
    clear hrs k0 k1 k2 k3 k4 k5
    go_wp2_with fail
    exact bodyPost_ret (v := .tuple #[.agg #[vb k, .string ⟨#[]⟩, .string ⟨#[]⟩, ns, ns, ns], .int .i64 0]) (by simp [results, Tryd.results18, go_sem, *]) rfl (dec_ok HX2.out HB8.out HQ8.out)
  · have HE := Lib.hid he
    have HX2 : Hid (decV p = (zeroV, 2)) := by show _ = _; rw [HX.out]; unfold finR; rw [if_neg (by rw [hw]; simp)]
    clear hw he HX
    go_wp2_with fail
    refine (end_any g g r _ HR6.out).mono ?_
    rintro e w7 ⟨rfl, rfl⟩
    rw [HE.out]
    go_wp2_with (refine wpList_store_blk rfl (.tmp 2) (.tmp 53) rfl rfl (cs' := [.int .u8 0, .string ⟨#[]⟩, .string ⟨#[]⟩, ns, ns, ns]) rfl HBLK6.out rfl info40 rfl ?_)
    intro w8 hrs
    have d0 := hrs.blk.cell 0; have d1 := hrs.blk.cell 1; have d2 := hrs.blk.cell 2; have d3 := hrs.blk.cell 3; have d4 := hrs.blk.cell 4; have d5 := hrs.blk.cell 5
    simp only [List.getElem?_cons_zero, List.getElem?_cons_succ] at d0 d1 d2 d3 d4 d5
    have HB8 : Hid (Below w.heap.size w w8) := hrs.below _ _ HB6.out (Nat.le_refl _)
    clear hrs
    go_wp2_with fail
    exact bodyPost_ret (v := .tuple #[.agg #[.int .u8 0, .string ⟨#[]⟩, .string ⟨#[]⟩, ns, ns, ns], .int .i64 2]) (by simp [results, Tryd.results18, go_sem, *]) rfl (dec_zero HX2.out HB8.out)
end Go.Proofs.YtggmogjgaoobjaaDoor

/- The contract of Decode, one of its ways. -/
namespace Go.Proofs.YtggmogjgaoobjaaDoor
open Go.RowKit BaseMath WireMath ReqMath

set_option maxHeartbeats 4000000 in
set_option maxRecDepth 100000 in
theorem decode_2 (A : Option Addr) (c : Nat) (p : List By) (hp : p.length ≤ 500000) (hN : A = none → c = 0) (hlen : ¬ 2048 < p.length) (hkk : hasK (kindR p).toNat = 2) (w : World) (ht : KTab w) (hA : SrcIs w A p) :
    Calls Tryd.prog 18 #[.slice A p.length c] w (DecPost w (decV p)) := by
  have HT := Lib.hid ht; have HA := Lib.hid hA; have HN := Lib.hid hN
  have hts := ht.size
  clear ht hA hN
  have hl' : ¬ (2048 : Int) < p.length := by omega
  have hb1 : Below w.heap.size w (w.alloc (.cells #[.int .u8 0, .string ⟨#[]⟩, .string ⟨#[]⟩, ns, ns, ns] 40)) := (Below.refl _ _).alloc (Nat.le_refl _) _
  have HBLK := Lib.hid (Blk.new w 40 #[.int .u8 0, .string ⟨#[]⟩, .string ⟨#[]⟩, ns, ns, ns])
  have HB1 := Lib.hid hb1
  have HA1 := Lib.hid (HA.out.below hb1)
  have hsz1 : (w.alloc (.cells #[.int .u8 0, .string ⟨#[]⟩, .string ⟨#[]⟩, ns, ns, ns] 40)).heap.size = w.heap.size + 1 := by simp
  have HSZ1 := Lib.hid hsz1
  have HD : Hid (decV p = decK (kindR p) (after 1 ⟨p, false⟩)) := by show _ = _; unfold decV; rw [if_neg hlen]
  have HKV := Lib.hid (kind_vb p)
  clear hb1 hsz1
  go_enter Tryd.func18, Tryd.ntmps18
  go_wp2_with fail
  refine (reader_any A c p (by omega) HN.out _ HA1.out).mono ?_
  rintro e w2 ⟨g, rfl, hg, hr, hb⟩
  have hg' : w.heap.size + 1 ≤ g := by rw [← HSZ1.out]; exact hg
  have HB2 : Hid (Below w.heap.size w w2) := HB1.out.trans (hb.mono HB1.out.size)
  have HBLK2 := Lib.hid (HBLK.out.below hb HBLK.out.lt)
  have HR2 := Lib.hid hr
  clear hr hb hg HBLK HB1 HA1
  go_wp2_with fail
  refine (byte_any g g ⟨p, false⟩ (by simp only; omega) w2 HR2.out).mono ?_
  rintro e w3 ⟨rfl, h1, h2⟩
  have HB3 : Hid (Below w.heap.size w w3) := HB2.out.trans (h2.below (by omega) HB2.out.size)
  have HBLK3 := Lib.hid (Blk.only HBLK2.out h2 (by omega : w.heap.size ≠ g))
  have HR3 := Lib.hid h1
  have hal := after_len 1 ⟨p, false⟩
  have HOK : Hid (after 1 ⟨p, false⟩).ok := ok_after (fun h => by cases h) 1
  simp only at hal
  have hgw3 := h1.lt
  clear h1 h2 HR2 HBLK2 HB2
  rw [← HKV.out]
  generalize after 1 ⟨p, false⟩ = r at *
  generalize kindR p = k at *
  have hb4 : Below w3.heap.size w3 (w3.alloc (.cells #[vb k, .string ⟨#[]⟩, .string ⟨#[]⟩, ns, ns, ns] 40)) := (Below.refl _ _).alloc (Nat.le_refl _) _
  have HB4 : Hid (Below w.heap.size w (w3.alloc (.cells #[vb k, .string ⟨#[]⟩, .string ⟨#[]⟩, ns, ns, ns] 40))) := HB3.out.trans (hb4.mono HB3.out.size)
  have HBLK4 := Lib.hid (HBLK3.out.below hb4 HBLK3.out.lt)
  have HR4 := Lib.hid (HR3.out.below hb4 hgw3)
  have HBOX4 := Lib.hid (Blk.new w3 40 #[vb k, .string ⟨#[]⟩, .string ⟨#[]⟩, ns, ns, ns])
  have k0 := HBOX4.out.cell 0
  simp only [List.getElem?_cons_zero] at k0
  clear hb4 HBLK3 HR3 HB3
  go_wp2_with fail
  refine (lookup_any k _ (HT.out.below HB4.out hts)).mono ?_
  rintro e w5 ⟨rfl, hb⟩
  have HB5 : Hid (Below w.heap.size w w5) := HB4.out.trans (hb.mono HB4.out.size)
  have HBLK5 := Lib.hid (HBLK4.out.below hb HBLK4.out.lt)
  have HBOX5 := Lib.hid (HBOX4.out.below hb HBOX4.out.lt)
  have HR5 := Lib.hid (HR4.out.below hb (by simp; omega))
  have HK5 : Hid (decV p = if hasK k.toNat = 0 then (zeroV, 2) else if hasK k.toNat = 1 then finR ⟨k, [], [], [], [], []⟩ r else if hasK k.toNat = 2 then finR ⟨k, [], textR r, [], [], []⟩ (textA r) else if hasK k.toNat = 3 then finR ⟨k, iname r, [], iarch r, irefs r, []⟩ (itemA r)
    else match outsR r with
      | none => (zeroV, 2)
      | some (os, r') => finR ⟨k, [], [], [], [], os⟩ r') := HD.out
  have hw5 : w3.heap.size < w5.heap.size := HBOX5.out.lt
  have hd3 : w.heap.size < w3.heap.size := by have := HR5.out.le; omega
  clear hb HBLK4 HBOX4 HR4 HB4 HD k0
  rw [hkk] at HK5 ⊢
  clear hkk
  generalize nameK k.toNat = nn at *
  have HX : Hid (decV p = finR ⟨k, [], textR r, [], [], []⟩ (textA r)) := HK5.out
  clear HK5
  go_wp2_with fail
  refine (rtext_any g g r (by omega) w5 HR5.out).mono ?_
  rintro e w6 ⟨rfl, h1, h2⟩
  have hb6 : Blk w6 w3.heap.size 40 _ := Blk.only HBOX5.out h2 (by omega)
  have c2 := hb6.cell 2; have f2 := hb6.frozen 2
  simp only [List.getElem?_cons_zero, List.getElem?_cons_succ] at c2
  have HBOX6 := Lib.hid (hb6.set 2 (vs (textR r)))
  simp only [List.set_cons_zero, List.set_cons_succ] at HBOX6
  have HBLK6 := Lib.hid ((Blk.only HBLK5.out h2 (by omega)).other (p := ⟨w3.heap.size, 2, none⟩) (by simp only; omega) (vs (textR r)))
  have HR6 : Hid (RdIs (w6.setCell ⟨w3.heap.size, 2, none⟩ (vs (textR r))) 141 g g (textA r)) := h1.only ((OnlyAt.refl w3.heap.size w6).setCell 2 _) (by omega) (by omega)
  have HB6 : Hid (Below w.heap.size w (w6.setCell ⟨w3.heap.size, 2, none⟩ (vs (textR r)))) := (HB5.out.trans (h2.below (by omega) HB5.out.size)).setCell (by simp only; omega) _
  have HQ6 : Hid (ReqN (w6.setCell ⟨w3.heap.size, 2, none⟩ (vs (textR r))) (w.heap.size + 1) (.agg #[vb k, .string ⟨#[]⟩, vs (textR r), ns, ns, ns]) ⟨k, [], textR r, [], [], []⟩) := ⟨none, 0, none, 0, none, 0, rfl, SrcIs.nil _ _, New.none _, StrsIs.nil _ _, New.none _, OutsN.nil _ _ _⟩
  have hal2 := textA_len r
  clear hb6 h1 h2 HR5 HB5 HBLK5 HBOX5
  generalize textR r = tx at *
  generalize textA r = r6 at *
  rcases whole_end r6 with ⟨hw, he⟩ | ⟨hw, he⟩
  · have HE := Lib.hid he
    have HX2 : Hid (decV p = (⟨k, [], tx, [], [], []⟩, 0)) := by show _ = _; rw [HX.out]; unfold finR; rw [if_pos hw]
    clear hw he HX
    go_wp2_with fail
    refine (end_any g g r6 _ HR6.out).mono ?_
    rintro e w7 ⟨rfl, rfl⟩
    rw [HE.out]
    have k0 := Blk.cell HBOX6.out 0; have k1 := Blk.cell HBOX6.out 1; have k2 := Blk.cell HBOX6.out 2; have k3 := Blk.cell HBOX6.out 3; have k4 := Blk.cell HBOX6.out 4; have k5 := Blk.cell HBOX6.out 5
    simp only [List.getElem?_cons_zero, List.getElem?_cons_succ] at k0 k1 k2 k3 k4 k5
    go_wp2_with (refine wpList_store_blk rfl (.tmp 2) (.tmp 54) rfl rfl (cs' := [vb k, .string ⟨#[]⟩, vs tx, ns, ns, ns]) rfl HBLK6.out rfl info40 rfl ?_)
    intro w8 hrs
    have d0 := hrs.blk.cell 0; have d1 := hrs.blk.cell 1; have d2 := hrs.blk.cell 2; have d3 := hrs.blk.cell 3; have d4 := hrs.blk.cell 4; have d5 := hrs.blk.cell 5
    simp only [List.getElem?_cons_zero, List.getElem?_cons_succ] at d0 d1 d2 d3 d4 d5
    have HB8 : Hid (Below w.heap.size w w8) := hrs.below _ _ HB6.out (Nat.le_refl _)
    have HQ8 : Hid (ReqN w8 (w.heap.size + 1) (.agg #[vb k, .string ⟨#[]⟩, vs tx, ns, ns, ns]) ⟨k, [], tx, [], [], []⟩) := HQ6.out.only (RowSet.only hrs) (Nat.lt_succ_self _)
    clear hrs k0 k1 k2 k3 k4 k5
    go_wp2_with fail
    exact bodyPost_ret (v := .tuple #[.agg #[vb k, .string ⟨#[]⟩, vs tx, ns, ns, ns], .int .i64 0]) (by simp [results, Tryd.results18, go_sem, *]) rfl (dec_ok HX2.out HB8.out HQ8.out)
  · have HE := Lib.hid he
    have HX2 : Hid (decV p = (zeroV, 2)) := by show _ = _; rw [HX.out]; unfold finR; rw [if_neg (by rw [hw]; simp)]
    clear hw he HX
    go_wp2_with fail
    refine (end_any g g r6 _ HR6.out).mono ?_
    rintro e w7 ⟨rfl, rfl⟩
    rw [HE.out]
    go_wp2_with (refine wpList_store_blk rfl (.tmp 2) (.tmp 53) rfl rfl (cs' := [.int .u8 0, .string ⟨#[]⟩, .string ⟨#[]⟩, ns, ns, ns]) rfl HBLK6.out rfl info40 rfl ?_)
    intro w8 hrs
    have d0 := hrs.blk.cell 0; have d1 := hrs.blk.cell 1; have d2 := hrs.blk.cell 2; have d3 := hrs.blk.cell 3; have d4 := hrs.blk.cell 4; have d5 := hrs.blk.cell 5
    simp only [List.getElem?_cons_zero, List.getElem?_cons_succ] at d0 d1 d2 d3 d4 d5
    have HB8 : Hid (Below w.heap.size w w8) := hrs.below _ _ HB6.out (Nat.le_refl _)
    clear hrs
    go_wp2_with fail
    exact bodyPost_ret (v := .tuple #[.agg #[.int .u8 0, .string ⟨#[]⟩, .string ⟨#[]⟩, ns, ns, ns], .int .i64 2]) (by simp [results, Tryd.results18, go_sem, *]) rfl (dec_zero HX2.out HB8.out)
end Go.Proofs.YtggmogjgaoobjaaDoor

/- The contract of Decode, one of its ways. -/
namespace Go.Proofs.YtggmogjgaoobjaaDoor
open Go.RowKit BaseMath WireMath ReqMath

set_option maxHeartbeats 4000000 in
set_option maxRecDepth 100000 in
theorem decode_3 (A : Option Addr) (c : Nat) (p : List By) (hp : p.length ≤ 500000) (hN : A = none → c = 0) (hlen : ¬ 2048 < p.length) (hkk : hasK (kindR p).toNat = 3) (w : World) (ht : KTab w) (hA : SrcIs w A p) :
    Calls Tryd.prog 18 #[.slice A p.length c] w (DecPost w (decV p)) := by
  have HT := Lib.hid ht; have HA := Lib.hid hA; have HN := Lib.hid hN
  have hts := ht.size
  clear ht hA hN
  have hl' : ¬ (2048 : Int) < p.length := by omega
  have hb1 : Below w.heap.size w (w.alloc (.cells #[.int .u8 0, .string ⟨#[]⟩, .string ⟨#[]⟩, ns, ns, ns] 40)) := (Below.refl _ _).alloc (Nat.le_refl _) _
  have HBLK := Lib.hid (Blk.new w 40 #[.int .u8 0, .string ⟨#[]⟩, .string ⟨#[]⟩, ns, ns, ns])
  have HB1 := Lib.hid hb1
  have HA1 := Lib.hid (HA.out.below hb1)
  have hsz1 : (w.alloc (.cells #[.int .u8 0, .string ⟨#[]⟩, .string ⟨#[]⟩, ns, ns, ns] 40)).heap.size = w.heap.size + 1 := by simp
  have HSZ1 := Lib.hid hsz1
  have HD : Hid (decV p = decK (kindR p) (after 1 ⟨p, false⟩)) := by show _ = _; unfold decV; rw [if_neg hlen]
  have HKV := Lib.hid (kind_vb p)
  clear hb1 hsz1
  go_enter Tryd.func18, Tryd.ntmps18
  go_wp2_with fail
  refine (reader_any A c p (by omega) HN.out _ HA1.out).mono ?_
  rintro e w2 ⟨g, rfl, hg, hr, hb⟩
  have hg' : w.heap.size + 1 ≤ g := by rw [← HSZ1.out]; exact hg
  have HB2 : Hid (Below w.heap.size w w2) := HB1.out.trans (hb.mono HB1.out.size)
  have HBLK2 := Lib.hid (HBLK.out.below hb HBLK.out.lt)
  have HR2 := Lib.hid hr
  clear hr hb hg HBLK HB1 HA1
  go_wp2_with fail
  refine (byte_any g g ⟨p, false⟩ (by simp only; omega) w2 HR2.out).mono ?_
  rintro e w3 ⟨rfl, h1, h2⟩
  have HB3 : Hid (Below w.heap.size w w3) := HB2.out.trans (h2.below (by omega) HB2.out.size)
  have HBLK3 := Lib.hid (Blk.only HBLK2.out h2 (by omega : w.heap.size ≠ g))
  have HR3 := Lib.hid h1
  have hal := after_len 1 ⟨p, false⟩
  have HOK : Hid (after 1 ⟨p, false⟩).ok := ok_after (fun h => by cases h) 1
  simp only at hal
  have hgw3 := h1.lt
  clear h1 h2 HR2 HBLK2 HB2
  rw [← HKV.out]
  generalize after 1 ⟨p, false⟩ = r at *
  generalize kindR p = k at *
  have hb4 : Below w3.heap.size w3 (w3.alloc (.cells #[vb k, .string ⟨#[]⟩, .string ⟨#[]⟩, ns, ns, ns] 40)) := (Below.refl _ _).alloc (Nat.le_refl _) _
  have HB4 : Hid (Below w.heap.size w (w3.alloc (.cells #[vb k, .string ⟨#[]⟩, .string ⟨#[]⟩, ns, ns, ns] 40))) := HB3.out.trans (hb4.mono HB3.out.size)
  have HBLK4 := Lib.hid (HBLK3.out.below hb4 HBLK3.out.lt)
  have HR4 := Lib.hid (HR3.out.below hb4 hgw3)
  have HBOX4 := Lib.hid (Blk.new w3 40 #[vb k, .string ⟨#[]⟩, .string ⟨#[]⟩, ns, ns, ns])
  have k0 := HBOX4.out.cell 0
  simp only [List.getElem?_cons_zero] at k0
  clear hb4 HBLK3 HR3 HB3
  go_wp2_with fail
  refine (lookup_any k _ (HT.out.below HB4.out hts)).mono ?_
  rintro e w5 ⟨rfl, hb⟩
  have HB5 : Hid (Below w.heap.size w w5) := HB4.out.trans (hb.mono HB4.out.size)
  have HBLK5 := Lib.hid (HBLK4.out.below hb HBLK4.out.lt)
  have HBOX5 := Lib.hid (HBOX4.out.below hb HBOX4.out.lt)
  have HR5 := Lib.hid (HR4.out.below hb (by simp; omega))
  have HK5 : Hid (decV p = if hasK k.toNat = 0 then (zeroV, 2) else if hasK k.toNat = 1 then finR ⟨k, [], [], [], [], []⟩ r else if hasK k.toNat = 2 then finR ⟨k, [], textR r, [], [], []⟩ (textA r) else if hasK k.toNat = 3 then finR ⟨k, iname r, [], iarch r, irefs r, []⟩ (itemA r)
    else match outsR r with
      | none => (zeroV, 2)
      | some (os, r') => finR ⟨k, [], [], [], [], os⟩ r') := HD.out
  have hw5 : w3.heap.size < w5.heap.size := HBOX5.out.lt
  have hd3 : w.heap.size < w3.heap.size := by have := HR5.out.le; omega
  clear hb HBLK4 HBOX4 HR4 HB4 HD k0
  rw [hkk] at HK5 ⊢
  clear hkk
  generalize nameK k.toNat = nn at *
  have HX : Hid (decV p = finR ⟨k, iname r, [], iarch r, irefs r, []⟩ (itemA r)) := by show _ = _; rw [HK5.out, if_neg (by decide), if_neg (by decide), if_neg (by decide), if_pos rfl]
  clear HK5
  go_wp2_with fail
  refine (readitem_any g g r (by omega) HOK.out w5 HR5.out).mono ?_
  rintro e w6 ⟨A1, c1, R1, c2, rfl, hA, hAn, hR, hRn, h1, h2⟩
  have hb6 : Blk w6 w3.heap.size 40 _ := Blk.only HBOX5.out h2 (by omega)
  have b1 := hb6.cell 1; have f1 := hb6.frozen 1
  have b3 := hb6.cell 3; have f3 := hb6.frozen 3
  have b4 := hb6.cell 4; have f4 := hb6.frozen 4
  simp only [List.getElem?_cons_zero, List.getElem?_cons_succ] at b1 b3 b4
  have ho6 := (((OnlyAt.refl w3.heap.size w6).setCell 1 (vs (iname r))).setCell 3 (.slice A1 (iarch r).length c1)).setCell 4 (.slice R1 (irefs r).length c2)
  have HBOX6 := Lib.hid (((hb6.set 1 (vs (iname r))).set 3 (.slice A1 (iarch r).length c1)).set 4 (.slice R1 (irefs r).length c2))
  simp only [List.set_cons_zero, List.set_cons_succ] at HBOX6
  have HBLK6 := Lib.hid (Blk.only (Blk.only HBLK5.out h2 (by omega)) ho6 (by omega))
  have HR6 : Hid (RdIs (((w6.setCell ⟨w3.heap.size, 1, none⟩ (vs (iname r))).setCell ⟨w3.heap.size, 3, none⟩ (.slice A1 (iarch r).length c1)).setCell ⟨w3.heap.size, 4, none⟩ (.slice R1 (irefs r).length c2)) 141 g g (itemA r)) := h1.only ho6 (by omega) (by omega)
  have HB6 : Hid (Below w.heap.size w (((w6.setCell ⟨w3.heap.size, 1, none⟩ (vs (iname r))).setCell ⟨w3.heap.size, 3, none⟩ (.slice A1 (iarch r).length c1)).setCell ⟨w3.heap.size, 4, none⟩ (.slice R1 (irefs r).length c2))) := (HB5.out.trans (h2.below (by omega) HB5.out.size)).trans (ho6.below (by omega) (by have := HB5.out.size; have := h2.size; omega))
  have hAn' : New (w3.heap.size + 1) A1 := hAn.mono (by omega)
  have hRn' : New (w3.heap.size + 1) R1 := hRn.mono (by omega)
  have hal2 := itemA_len r
  generalize iname r = nm at *
  generalize iarch r = ar at *
  generalize irefs r = rf at *
  generalize itemA r = r6 at *
  have HQ6 : Hid (ReqN (((w6.setCell ⟨w3.heap.size, 1, none⟩ (vs nm)).setCell ⟨w3.heap.size, 3, none⟩ (.slice A1 ar.length c1)).setCell ⟨w3.heap.size, 4, none⟩ (.slice R1 rf.length c2)) (w.heap.size + 1) (.agg #[vb k, vs nm, .string ⟨#[]⟩, .slice A1 ar.length c1, .slice R1 rf.length c2, ns]) ⟨k, nm, [], ar, rf, []⟩) := ⟨A1, c1, R1, c2, none, 0, rfl, hA.onlyN ho6 hAn' (by omega), hAn'.mono (by omega), hR.onlyN ho6 hRn' (by omega), hRn'.mono (by omega), OutsN.nil _ _ _⟩
  clear hb6 h1 h2 hA hR hAn hRn hAn' hRn' ho6 HR5 HB5 HBLK5 HBOX5
  rcases whole_end r6 with ⟨hw, he⟩ | ⟨hw, he⟩
  · have HE := Lib.hid he
    have HX2 : Hid (decV p = (⟨k, nm, [], ar, rf, []⟩, 0)) := by show _ = _; rw [HX.out]; unfold finR; rw [if_pos hw]
    clear hw he HX
    go_wp2_with fail
    with_reducible refine (end_any g g r6 _ HR6.out).mono ?_
    rintro e w7 ⟨rfl, rfl⟩
    rw [HE.out]
    have k0 := Blk.cell HBOX6.out 0; have k1 := Blk.cell HBOX6.out 1; have k2 := Blk.cell HBOX6.out 2; have k3 := Blk.cell HBOX6.out 3; have k4 := Blk.cell HBOX6.out 4; have k5 := Blk.cell HBOX6.out 5
    simp only [List.getElem?_cons_zero, List.getElem?_cons_succ] at k0 k1 k2 k3 k4 k5
    go_wp2_with (refine wpList_store_blk rfl (.tmp 2) (.tmp 54) rfl rfl (cs' := [vb k, vs nm, .string ⟨#[]⟩, .slice A1 ar.length c1, .slice R1 rf.length c2, ns]) rfl HBLK6.out rfl info40 rfl ?_)
    intro w8 hrs
    have d0 := hrs.blk.cell 0; have d1 := hrs.blk.cell 1; have d2 := hrs.blk.cell 2; have d3 := hrs.blk.cell 3; have d4 := hrs.blk.cell 4; have d5 := hrs.blk.cell 5
    simp only [List.getElem?_cons_zero, List.getElem?_cons_succ] at d0 d1 d2 d3 d4 d5
    have HB8 : Hid (Below w.heap.size w w8) := hrs.below _ _ HB6.out (Nat.le_refl _)
    have HQ8 : Hid (ReqN w8 (w.heap.size + 1) (.agg #[vb k, vs nm, .string ⟨#[]⟩, .slice A1 ar.length c1, .slice R1 rf.length c2, ns]) ⟨k, nm, [], ar, rf, []⟩) := HQ6.out.only (RowSet.only hrs) (Nat.lt_succ_self _)
    clear hrs k0 k1 k2 k3 k4 k5
    go_wp2_with fail
    exact bodyPost_ret (v := .tuple #[.agg #[vb k, vs nm, .string ⟨#[]⟩, .slice A1 ar.length c1, .slice R1 rf.length c2, ns], .int .i64 0]) (by simp [results, Tryd.results18, go_sem, *]) rfl (dec_ok HX2.out HB8.out HQ8.out)
  · have HE := Lib.hid he
    have HX2 : Hid (decV p = (zeroV, 2)) := by show _ = _; rw [HX.out]; unfold finR; rw [if_neg (by rw [hw]; simp)]
    clear hw he HX
    go_wp2_with fail
    with_reducible refine (end_any g g r6 _ HR6.out).mono ?_
    rintro e w7 ⟨rfl, rfl⟩
    rw [HE.out]
    go_wp2_with (refine wpList_store_blk rfl (.tmp 2) (.tmp 53) rfl rfl (cs' := [.int .u8 0, .string ⟨#[]⟩, .string ⟨#[]⟩, ns, ns, ns]) rfl HBLK6.out rfl info40 rfl ?_)
    intro w8 hrs
    have d0 := hrs.blk.cell 0; have d1 := hrs.blk.cell 1; have d2 := hrs.blk.cell 2; have d3 := hrs.blk.cell 3; have d4 := hrs.blk.cell 4; have d5 := hrs.blk.cell 5
    simp only [List.getElem?_cons_zero, List.getElem?_cons_succ] at d0 d1 d2 d3 d4 d5
    have HB8 : Hid (Below w.heap.size w w8) := hrs.below _ _ HB6.out (Nat.le_refl _)
    clear hrs
    go_wp2_with fail
    exact bodyPost_ret (v := .tuple #[.agg #[.int .u8 0, .string ⟨#[]⟩, .string ⟨#[]⟩, ns, ns, ns], .int .i64 2]) (by simp [results, Tryd.results18, go_sem, *]) rfl (dec_zero HX2.out HB8.out)
end Go.Proofs.YtggmogjgaoobjaaDoor
