/- The walk of WireReads. -/
import Derived.Test.YtefifdejepafgaaW11
import Derived.Deep.RegionHeld3
import Derived.Deep.CutBlock
namespace Go.Proofs.Ytefifdejepafgaa
open Go.RowKit BaseMath WireMath

set_option maxHeartbeats 1000000 in
theorem wreads_short (A B : Option Addr) (n ca m cb : Nat) (w : World) (h : 200 < n ∨ 40 < m) (hm : n ≤ maxLen) (hm2 : m ≤ maxLen) :
    Calls Try.prog 10 #[.slice A n ca, .slice B m cb] w fun e w' => e = .returned (.bool true) ∧ Below w.heap.size w w' := by
  unfold maxLen at hm hm2
  have key : ((decide ((200 : Int) < n)) = true) ∨ ((decide ((200 : Int) < n)) = false ∧ (decide ((40 : Int) < m)) = true) := by
    by_cases h1 : 200 < n
    · exact .inl (decide_eq_true (by omega))
    · exact .inr ⟨decide_eq_false (by omega), decide_eq_true (by omega)⟩
  clear h
  rcases key with h1 | ⟨h1, h2⟩
  all_goals
    go_enter Try.func10, Try.ntmps10
    go_wp2_with fail
    refine (lays_any w).mono ?_
    rintro e w1 ⟨rfl, hb1⟩
    have HB1 := Lib.hid hb1; clear hb1
    go_wp2_with fail
    refine (lays_any w1).mono ?_
    rintro e w2 ⟨rfl, hb2⟩
    have HB2 : Hid (Below w.heap.size w w2) := HB1.out.trans (hb2.mono HB1.out.size)
    clear hb2
    go_wp2_with fail
    go_ret
    exact ⟨rfl, HB2.out⟩
/-- both readers, alike -/
structure Two (w : World) (top gr gm : Nat) (r : Rd) (wr : World) : Prop where
  rd : RdIs wr 82 gr gr r
  inn : RdIs wr 56 top gm r
  ok : r.ok
  len : r.p.length ≤ 200
  below : Below w.heap.size w wr
theorem Two.mid {w wr w3 : World} {top gr gm : Nat} {r : Rd} (h : Two w top gr gm r wr) (o1 : OnlyAt gr wr w3) (hgm : gr < gm) (ht : top ≤ gr) : RdIs w3 56 top gm r := h.inn.only o1 (by omega) ht
theorem Two.drew {w wr : World} {top gr gm : Nat} {r : Rd} (h : Two w top gr gm r wr) : Two w top gr gm r wr.drew := ⟨⟨h.rd.ex, h.rd.le⟩, ⟨h.inn.ex, h.inn.le⟩, h.ok, h.len, h.below.drew⟩
theorem Two.drewN {w wr : World} {top gr gm : Nat} {r : Rd} (h : Two w top gr gm r wr) (q : Nat) : Two w top gr gm r (wr.drewN q) := ⟨⟨h.rd.ex, h.rd.le⟩, ⟨h.inn.ex, h.inn.le⟩, h.ok, h.len, below_drewN h.below q⟩
theorem textsGo_len : ∀ (k : Nat) (acc : List (List By)) (r : Rd), (textsGo k acc r).1.length ≤ acc.length + k ∧ (textsGo k acc r).2.p.length ≤ r.p.length
  | 0, acc, r => by simp [textsGo]
  | k + 1, acc, r => by
    unfold textsGo; split
    · simp
    · have h := textsGo_len k (acc ++ [textR r]) (textA r)
      have h2 := textA_len r
      simp at h; exact ⟨by omega, by omega⟩
theorem textsA_len (m : Int) (r : Rd) : (textsA m r).p.length ≤ r.p.length := by
  unfold textsA textsAll
  refine Nat.le_trans (textsGo_len _ _ _).2 ?_
  unfold texts0; split
  · exact Nat.zero_le _
  · exact after_len 1 r
theorem textsR_len (m : Int) (r : Rd) : (textsR m r).length ≤ 100000 := by
  unfold textsR; split
  · exact Nat.zero_le _
  · have h := (textsGo_len (numR 1 r) [] (texts0 m r)).1
    have h2 : numR 1 r < 256 := numR_lt 1 r
    unfold textsAll; simp at h; omega
theorem quietOK {W : World} {g : Nat} {r : Rd} {f : Bool} (h : RdIs W 82 g g r) (hf : r.f = f) (k : Nat) : Calls Try.prog 33 #[.pointer (some ⟨g, 0, none⟩)] (W.drewN k) fun e w' => e = .returned (.bool !f) ∧ ∃ m, w' = W.drewN m :=
  (ok_any g g r (W.drewN k) (h.drewN k)).mono fun _ _ ⟨he, hw⟩ => ⟨by rw [he, hf], k, hw.symm⟩
theorem quietLeft {W : World} {g : Nat} {r : Rd} {n : Nat} (h : RdIs W 82 g g r) (hf : r.p.length = n) (k : Nat) : Calls Try.prog 35 #[.pointer (some ⟨g, 0, none⟩)] (W.drewN k) fun e w' => e = .returned (.int .i64 (n : Nat)) ∧ ∃ m, w' = W.drewN m :=
  (left_any g g r (W.drewN k) (h.drewN k)).mono fun _ _ ⟨he, hw⟩ => ⟨by rw [he, hf], k, hw.symm⟩
theorem quietEnd {W : World} {g : Nat} {r : Rd} {n : Int} (h : RdIs W 82 g g r) (hf : endR r = n) (k : Nat) : Calls Try.prog 34 #[.pointer (some ⟨g, 0, none⟩)] (W.drewN k) fun e w' => e = .returned (.int .i64 n) ∧ ∃ m, w' = W.drewN m :=
  (end_any g g r (W.drewN k) (h.drewN k)).mono fun _ _ ⟨he, hw⟩ => ⟨by rw [he, hf], k, hw.symm⟩
theorem quietWhole {W : World} {top g : Nat} {r : Rd} {b : Bool} (h : RdIs W 56 top g r) (hf : wholeR r = b) (k : Nat) : Calls Try.prog 39 #[.pointer (some ⟨g, 0, none⟩)] (W.drewN k) fun e w' => e = .returned (.bool b) ∧ ∃ m, w' = W.drewN m :=
  (whole_any top g r (W.drewN k) (h.drewN k)).mono fun _ _ ⟨he, hw⟩ => ⟨by rw [he, hf], k, hw.symm⟩
/-- the three ways in which two readers may stand -/
theorem three (r : Rd) : (r.f = true ∧ endR r = 2 ∧ wholeR r = false) ∨ (r.f = false ∧ endR r = 0 ∧ wholeR r = true) ∨ (r.f = false ∧ endR r = 2 ∧ wholeR r = false) := by
  cases hf : r.f with
  | true => exact .inl ⟨rfl, by simp [endR, hf], by simp [wholeR, hf]⟩
  | false =>
    by_cases hl : r.p.length = 0
    · exact .inr (.inl ⟨rfl, by simp [endR, hf, hl], by simp [wholeR, hf, hl]⟩)
    · exact .inr (.inr ⟨rfl, by unfold endR; rw [hf, decide_eq_true (by omega : 0 < r.p.length)]; rfl, by simp [wholeR, hf, hl]⟩)
theorem Two.step {w wr w3 w4 : World} {top gr gm : Nat} {r r' : Rd} (h : Two w top gr gm r wr) (hgm : gr < gm) (hw : w.heap.size ≤ gr) (h1 : RdIs w3 82 gr gr r') (o1 : OnlyAt gr wr w3) (h2 : RdIs w4 56 top gm r') (o2 : OnlyAt gm w3 w4)
    (hok : r'.ok) (hl : r'.p.length ≤ r.p.length) : Two w top gr gm r' w4 := by
  have hs := h.below.size
  have b1 := o1.below hw hs
  refine ⟨h1.only o2 (by omega) (by omega), h2, hok, Nat.le_trans hl h.len, (h.below.trans b1).trans (o2.below (by omega) (Nat.le_trans hs b1.size))⟩
set_option maxHeartbeats 2000000 in
set_option maxRecDepth 100000 in
theorem wreads_walk (A B : Option Addr) (ca cb : Nat) (p how : List By) (hp : p.length ≤ 200) (hh : how.length ≤ 40) (w : World) (hca : p.length ≤ ca) (hNA : A = none → ca = 0) (hA : SrcIs w A p) (hB : SrcIs w B how) :
    Calls Try.prog 10 #[.slice A p.length ca, .slice B how.length cb] w fun e w' => e = .returned (.bool true) ∧ Below w.heap.size w w' := by
  have h1 : (decide ((200 : Int) < p.length)) = false := decide_eq_false (by omega)
  have h2 : (decide ((40 : Int) < how.length)) = false := decide_eq_false (by omega)
  have HA := Lib.hid hA; have HB := Lib.hid hB; have HN := Lib.hid hNA
  clear hA hB hNA
  go_enter Try.func10, Try.ntmps10
  go_wp2_with fail
  refine (lays_any w).mono ?_
  rintro e w1 ⟨rfl, hb1⟩
  have HB1 := Lib.hid hb1
  have HA1 := Lib.hid (HA.out.below hb1)
  clear hb1
  go_wp2_with fail
  refine (reader_any A ca p (by omega) HN.out w1 HA1.out).mono ?_
  rintro e w2 ⟨gr, rfl, hgr, hr2, hb2⟩
  have HB2 : Hid (Below w.heap.size w w2) := HB1.out.trans (hb2.mono HB1.out.size)
  have HA2 := Lib.hid (HA1.out.below hb2)
  have hgr2 : gr < w2.heap.size := by obtain ⟨_, _, hb, _⟩ := hr2.ex; exact hb.lt
  have hgw : w.heap.size ≤ gr := Nat.le_trans HB1.out.size hgr
  have HT : Hid (Two w w1.heap.size gr w2.heap.size ⟨p, false⟩ (w2.alloc (.cells #[.slice A p.length ca, .bool false] 56))) := by
    refine ⟨hr2.below ((Below.refl w2.heap.size w2).alloc (Nat.le_refl _) _) hgr2, ?_, (fun h => by cases h), hp, HB2.out.alloc HB2.out.size _⟩
    refine ⟨⟨A, ca, Blk.new w2 56 _, HN.out, hca, HA2.out.below ((Below.refl _ _).alloc (Nat.le_refl _) _), ?_⟩, ?_⟩
    · intro h0 a ha
      obtain ⟨b, o, rfl, hb⟩ := HA1.out h0
      cases ha
      exact hb.lt h0
    · exact hb2.size
  have hgm : gr < w2.heap.size := hgr2
  have hgm2 : w1.heap.size ≤ w2.heap.size := hb2.size
  clear hr2 hb2 HA1 HA2 HB1
  go_wp2_with fail
  go_loopw [7] (fun vi wr => ∃ k : Nat, k ≤ how.length ∧ vi = .int .i64 k ∧ Hid (∃ r, Two w w1.heap.size gr w2.heap.size r wr)) (fun vi _ => how.length - (intOf vi).toNat)
  case atStart => exact ⟨0, Nat.zero_le _, rfl, _, HT.out⟩
  case round =>
    clear HT
    obtain ⟨k, hk, rfl, HR⟩ := hrel
    rename World => W0
    obtain ⟨r, ht⟩ := HR.out
    have HTW := Lib.hid ht
    clear ht HR
    by_cases hlt : k < how.length
    · obtain ⟨b, o, rfl, hb⟩ := HB.out (by omega)
      have c0 : W0.cell? ⟨b, o + k, none⟩ = some (vb how[k]) := by
        rw [HTW.out.below.cell (p := ⟨b, o + k, none⟩) (block_of_cell (hb k hlt))]; exact hb k hlt
      have hby : how[k].toNat < 256 := how[k].toNat_lt
      have hbl : b < w.heap.size := block_of_cell (hb k hlt)
      have hgm3 : w2.heap.size < W0.heap.size := by obtain ⟨_, _, hb, _⟩ := HTW.out.inn.ex; exact hb.lt
      clear hb HB
      generalize how[k] = x at *
      obtain ⟨m, hm⟩ : ∃ m, m = x.toNat / 5 := ⟨_, rfl⟩
      have hm0 : 5 * m ≤ x.toNat ∧ x.toNat < 5 * m + 5 := by omega
      clear hm
      have hd5 : (x.toNat : Int) % 5 = 0 ∨ (x.toNat : Int) % 5 = 1 ∨ (x.toNat : Int) % 5 = 2 ∨ (x.toNat : Int) % 5 = 3 ∨ (x.toNat : Int) % 5 = 4 := by omega
      go_upto_block 2 with (fail)
      go_cut [8, 37] (fun s8 _ wx => s8 = .bool true ∧ Hid (∃ r, Two w w1.heap.size gr w2.heap.size r wx))
      case first =>
        rcases hd5 with hd | hd | hd | hd | hd
        · have hv := numR_lt 1 r
          simp only [Nat.reducePow] at hv
          go_wp2_with fail
          refine (byte_any gr gr r (by have := HTW.out.len; omega) W0 HTW.out.rd).mono ?_
          rintro e w3 ⟨rfl, h1, o1⟩
          have HM := Lib.hid (HTW.out.mid o1 hgm hgr)
          have H1 := Lib.hid h1; have HO1 := Lib.hid o1
          clear h1 o1
          go_wp2_with fail
          refine (iwide_any w1.heap.size w2.heap.size 1 (by decide) r (by have := HTW.out.len; omega) HTW.out.ok w3 HM.out).mono ?_
          rintro e w4 ⟨rfl, h2, o2⟩
          have HN : Hid (∃ r, Two w w1.heap.size gr w2.heap.size r w4) := ⟨_, HTW.out.step hgm hgw H1.out HO1.out h2 o2 (ok_after HTW.out.ok 1) (after_len 1 r)⟩
          clear h2 o2 HM H1 HO1
          generalize numR 1 r = v at *
          go_wp2_with fail
          go_meet
          exact ⟨rfl, HN.out⟩
        · have hv := numR_lt 2 r
          simp only [Nat.reducePow] at hv
          go_wp2_with fail
          refine (num_any gr gr r (by have := HTW.out.len; omega) W0 HTW.out.rd).mono ?_
          rintro e w3 ⟨rfl, h1, o1⟩
          have HM := Lib.hid (HTW.out.mid o1 hgm hgr)
          have H1 := Lib.hid h1; have HO1 := Lib.hid o1
          clear h1 o1
          go_wp2_with fail
          refine (iwide_any w1.heap.size w2.heap.size 2 (by decide) r (by have := HTW.out.len; omega) HTW.out.ok w3 HM.out).mono ?_
          rintro e w4 ⟨rfl, h2, o2⟩
          have HN : Hid (∃ r, Two w w1.heap.size gr w2.heap.size r w4) := ⟨_, HTW.out.step hgm hgw H1.out HO1.out h2 o2 (ok_after HTW.out.ok 2) (after_len 2 r)⟩
          clear h2 o2 HM H1 HO1
          generalize numR 2 r = v at *
          go_wp2_with fail
          go_meet
          exact ⟨rfl, HN.out⟩
        · have hv := numR_lt 8 r
          simp only [Nat.reducePow] at hv
          go_wp2_with fail
          refine (wide_any gr gr r (by have := HTW.out.len; omega) W0 HTW.out.rd).mono ?_
          rintro e w3 ⟨rfl, h1, o1⟩
          have HM := Lib.hid (HTW.out.mid o1 hgm hgr)
          have H1 := Lib.hid h1; have HO1 := Lib.hid o1
          clear h1 o1
          go_wp2_with fail
          refine (iwide_any w1.heap.size w2.heap.size 8 (by decide) r (by have := HTW.out.len; omega) HTW.out.ok w3 HM.out).mono ?_
          rintro e w4 ⟨rfl, h2, o2⟩
          have HN : Hid (∃ r, Two w w1.heap.size gr w2.heap.size r w4) := ⟨_, HTW.out.step hgm hgw H1.out HO1.out h2 o2 (ok_after HTW.out.ok 8) (after_len 8 r)⟩
          clear h2 o2 HM H1 HO1
          generalize numR 8 r = v at *
          go_wp2_with fail
          go_meet
          exact ⟨rfl, HN.out⟩
        · go_wp2_with fail
          refine (rtext_any gr gr r (by have := HTW.out.len; omega) W0 HTW.out.rd).mono ?_
          rintro e w3 ⟨rfl, h1, o1⟩
          have HM := Lib.hid (HTW.out.mid o1 hgm hgr)
          have H1 := Lib.hid h1; have HO1 := Lib.hid o1
          clear h1 o1
          go_wp2_with fail
          refine (itext_any w1.heap.size w2.heap.size r (by have := HTW.out.len; omega) HTW.out.ok w3 HM.out).mono ?_
          rintro e w4 ⟨rfl, h2, o2⟩
          have HN : Hid (∃ r, Two w w1.heap.size gr w2.heap.size r w4) := ⟨_, HTW.out.step hgm hgw H1.out HO1.out h2 o2 (ok_textA HTW.out.ok) (textA_len r)⟩
          clear h2 o2 HM H1 HO1
          generalize textR r = v at *
          go_wp2_with fail
          go_meet
          exact ⟨rfl, HN.out⟩
        · go_upto_region 9 with fail
          have hm1 : (x.toNat : Int).tdiv 5 = (m : Nat) := by rw [Int.tdiv_eq_ediv_of_nonneg (by omega)]; omega
          have hm2 : IntKind.u8.wrap (m : Int) = (m : Nat) := by rw [IntKind.wrap_u8']; omega
          have hm3 : IntKind.i64.wrap (m : Int) = (m : Nat) := IntWalk.i64_in _ (by omega)
          have HT0 : Hid (Two w w1.heap.size gr w2.heap.size r W0.drew) := HTW.out.drew
          have HG3 : Hid (w2.heap.size < W0.drew.heap.size) := hgm3
          clear HTW
          go_region_held3 (fun w' => w'.cell? ⟨b, o + k, none⟩ = some (vb x))
            (first | exact c0 | exact k3 | exact k4 | exact k5)
            (first
              | (go_at_call 32
                 refine (rtexts_any gr gr (m : Int) r (by have := HT0.out.len; omega) HT0.out.ok _ HT0.out.rd).mono ?_
                 rintro e w3 ⟨v3, rfl, ho3, h1, o1⟩
                 have k3 : w3.cell? ⟨b, o + k, none⟩ = some (vb x) := by
                   rw [World.cell?_of_block (w := W0.drew) (a := ⟨b, o + k, none⟩) (o1.other b (Nat.lt_of_lt_of_le hbl HT0.out.below.size) (by omega))]; exact c0
                 have HM := Lib.hid (HT0.out.mid o1 hgm hgr)
                 have H1 := Lib.hid h1; have HO1 := Lib.hid o1
                 obtain ⟨A3, c3, rfl, hs3, hb3⟩ := own_strs ho3
                 have HS3 := Lib.hid hs3; have HB3 := Lib.hid hb3
                 clear h1 o1 ho3 hs3 hb3)
              | (go_at_call 38
                 refine (itexts_any w1.heap.size w2.heap.size (m : Int) r (by have := HT0.out.len; omega) HT0.out.ok _ HM.out).mono ?_
                 rintro e w4 ⟨v4, rfl, ho4, h2, o2⟩
                 have k4 : w4.cell? ⟨b, o + k, none⟩ = some (vb x) := by
                   rw [World.cell?_of_block (w := w3) (a := ⟨b, o + k, none⟩) (o2.other b (Nat.lt_of_lt_of_le hbl (Nat.le_trans HT0.out.below.size HO1.out.size)) (by omega))]; exact k3
                 have HN : Hid (∃ r, Two w w1.heap.size gr w2.heap.size r w4) := ⟨_, HT0.out.step hgm hgw H1.out HO1.out h2 o2 (ok_textsA HT0.out.ok m) (textsA_len m r)⟩
                 obtain ⟨A4, c4, rfl, hs4, hb4⟩ := own_strs ho4
                 have HS4 := Lib.hid hs4
                 have HS34 : Hid (StrsIs w4 A3 (textsR m r)) := HS3.out.only o2 (fun a ha => by have h := HB3.out a ha; have h3 := HG3.out; exact ⟨by omega, h.2⟩)
                 clear h2 o2 ho4 hs4 hb4)
              | (go_at_call 31
                 refine (texts_same A3 A4 c3 c4 (textsR m r) (textsR_len m r) _ HS34.out HS4.out).mono ?_
                 rintro e w5 ⟨rfl, q, rfl⟩
                 have k5 : (w4.drewN q).cell? ⟨b, o + k, none⟩ = some (vb x) := k4))
          go_wp2_with fail
          go_meet
          exact ⟨rfl, by obtain ⟨r', h'⟩ := HN.out; exact ⟨r', h'.drewN q⟩⟩
      case rest =>
        obtain ⟨rfl, HN2⟩ := hcut
        clear HTW c0 hd5
        rename World => W2
        obtain ⟨r2, h2t⟩ := HN2.out
        have HT2 := Lib.hid h2t
        obtain ⟨A2, c2, hblk, -, -, -, -⟩ := h2t.inn.ex
        have d0 := hblk.cell 0; have d1 := hblk.cell 1
        simp only [List.getElem?_cons_zero, List.getElem?_cons_succ] at d0 d1
        clear hblk h2t
        obtain ⟨n, HNn⟩ : ∃ n, Hid (r2.p.length = n) := ⟨_, rfl⟩
        rw [HNn.out] at d0
        rcases three r2 with ⟨hf, he, hwh⟩ | ⟨hf, he, hwh⟩ | ⟨hf, he, hwh⟩
        all_goals
          rw [hf] at d1
          have Q1 := Lib.hid (quietOK HT2.out.rd hf)
          have Q2 := Lib.hid (quietLeft HT2.out.rd HNn.out)
          have Q3 := Lib.hid (quietEnd HT2.out.rd he)
          have Q4 := Lib.hid (quietWhole HT2.out.inn hwh)
          clear hf he hwh
          go_wp2_with fail
          go_quiet ((first | (go_at_call 33; with_reducible exact Q1.out _) | (go_at_call 35; with_reducible exact Q2.out _) | (go_at_call 34; with_reducible exact Q3.out _) | (go_at_call 39; with_reducible exact Q4.out _)))
          go_wp2_with fail
          go_roundw
          case rel => exact ⟨k + 1, by omega, by go_num, _, HT2.out.drewN _⟩
          case measure => simp [intOf]; omega
    · go_wp2_with fail
      go_ret
      exact ⟨rfl, HTW.out.below⟩
theorem wreads_all (A B : Option Addr) (ca cb : Nat) (p how : List By) (w : World) (hm : p.length ≤ maxLen) (hm2 : how.length ≤ maxLen) (hca : p.length ≤ ca) (hNA : A = none → ca = 0) (hA : SrcIs w A p) (hB : SrcIs w B how) :
    Calls Try.prog 10 #[.slice A p.length ca, .slice B how.length cb] w fun e w' => e = .returned (.bool true) ∧ Below w.heap.size w w' := by
  by_cases h : 200 < p.length ∨ 40 < how.length
  · exact wreads_short A B p.length ca how.length cb w h hm hm2
  · exact wreads_walk A B ca cb p how (by omega) (by omega) w hca hNA hA hB
end Go.Proofs.Ytefifdejepafgaa
