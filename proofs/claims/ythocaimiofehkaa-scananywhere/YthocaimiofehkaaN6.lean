/- The contract of the reference's Make, where a path is made. -/
import Derived.Test.YthocaimiofehkaaN3b
import Derived.Test.YthocaimiofehkaaN4
import Derived.Test.YthocaimiofehkaaN5
import Derived.Test.YthocaimiofehkaaW14
import Derived.Test.YthocaimiofehkaaHW18
namespace Go.Proofs.Ythocaimiofehkaa
open Go.RowKit BaseMath WireMath NameMath

theorem rsumU_any (A : Option Addr) (cap : Nat) (p : List By) (hp : p.length ≤ 1000) (hN : A = none → cap = 0) (t : Value) (w : World) (ht : Hs.HasherIs w t) (hA : SrcIs w A p) :
    Calls Try.prog 33 #[t, .slice A p.length cap] w (NewU w (sumU p)) := by
  have := Hs.refSum_any A cap (hb p) (by rw [hb_length]; exact hp) hN t w ht (src_hb hA)
  rw [hb_length] at this
  refine this.mono fun e w' ⟨v, he, ho, hb⟩ => ?_
  subst he
  exact newU_of (Hs.own_newB ho (HashMath.sum_length _) (by omega) hb)
theorem rshortU_any (A : Option Addr) (cap : Nat) (p : List By) (hp : p.length ≤ 1000) (hN : A = none → cap = 0) (t : Value) (w : World) (ht : Hs.HasherIs w t) (hA : SrcIs w A p) :
    Calls Try.prog 36 #[t, .slice A p.length cap] w (NewU w (shortU p)) := by
  have := Hs.refShort_any A cap (hb p) (by rw [hb_length]; exact hp) hN t w ht (src_hb hA)
  rw [hb_length] at this
  refine this.mono fun e w' ⟨v, he, ho, hb⟩ => ?_
  subst he
  exact newU_of (Hs.own_newB ho (Hs.short_length _) (by omega) hb)
/-- bytes appended to a row of one's own -/
theorem wpList_app {w W0 : World} {ops : Array Oper} {rest : List Oper} {o : Oper} {a : Act} {Q : Exit → Act → World → Prop} (hgd : o.guard = none) (s x : Operand)
    (ho : o.op = .call { callee := .builtin .append, args := #[s, x], argTypes := #[26, 26] }) {xs : List By} {v : Value} (r : RowRel w 5 (xs.map vb) v W0) (hs : a.eval s = v)
    (A : Option Addr) (c : Nat) (l : List By) (hx : a.eval x = .slice A l.length c) (hN : A = none → c = 0) (hA : SrcIs W0 A l) (hbd : xs.length + l.length ≤ 1000000)
    (h : ∀ v' w', RowRel w 5 ((xs ++ l).map vb) v' w' → wpList Try.prog ops Q rest (a.put o.dst v') w') : wpList Try.prog ops Q (o :: rest) a W0 :=
  wpList_append_src hgd s x ho w.heap.size v xs.length xs hs (by simpa using r.own) A c l hx hN hA hbd r.below.size
    (fun v' w' h1 h2 => h v' w' ⟨r.below.grown h2 r.below.size (fun k hk => (r.own.lt k hk).1), by simpa using h1⟩)
set_option maxHeartbeats 4000000 in
set_option maxRecDepth 100000 in
theorem rmake_yes (t : Value) (name : List By) (A : Option Addr) (ca : Nat) (arch : List By) (B : Option Addr) (cb : Nat) (refs : List (List By)) (hn : rightB name = true) (hr : PathsOk refs) (ha : arch.length ≤ 1000) (hNA : A = none → ca = 0)
    (hl : (laidB (sumU arch) refs name).length ≤ 1000) (w : World) (ht : Hs.HasherIs w t) (hA : SrcIs w A arch) (hB : StrsIs w B refs) :
    Calls Try.prog 22 #[t, vs name, .slice A arch.length ca, .slice B refs.length cb] w fun e w' => e = .returned (.tuple #[vs (pathOf name arch refs), .int .i64 0]) ∧ Below w.heap.size w w' := by
  have HT := Lib.hid ht
  obtain ⟨gh, ch, gk, ck, rfl, -, -⟩ := ht
  have h255 : ¬ (255 : Int) < refs.length := by have := hr.1; omega
  have h255n : refs.length ≤ 255 := hr.1
  have HN := Lib.hid hn; have HR := Lib.hid hr; have HA := Lib.hid hA; have HBr := Lib.hid hB; have HNA := Lib.hid hNA
  have HL := Lib.hid hl
  have HRS := Lib.hid (rise_same hr.2.2)
  clear hn hr hA hB hl hNA
  go_enter Try.func22, Try.ntmps22
  go_wp2_with fail
  generalize hW1 : w.alloc (.cells #[.slice (some ⟨gh, 0, none⟩) 8 ch, .slice (some ⟨gk, 0, none⟩) 64 ck] 47) = w1
  have HB1 : Hid (Below w.heap.size w w1) := by show Below _ _ _; rw [← hW1]; exact (Below.refl _ _).alloc (Nat.le_refl _) _
  have HBox : Hid (Blk w1 w.heap.size 47 [.slice (some ⟨gh, 0, none⟩) 8 ch, .slice (some ⟨gk, 0, none⟩) 64 ck]) := by show Blk _ _ _ _; rw [← hW1]; exact Blk.new w 47 _
  clear hW1
  refine (rright_any name w1).mono ?_
  rintro e w2 ⟨rfl, rfl⟩
  rw [HN.out]
  go_wp2_with fail
  refine (rise_any B cb refs (by omega) w1 (HBr.out.below HB1.out HBr.out.lt)).mono ?_
  rintro e w2 ⟨vr, rfl, hrr⟩
  obtain ⟨hb2, Ar, cr, rfl, hsr, -⟩ := hrr
  rw [HRS.out] at hsr ⊢
  have HB2 : Hid (Below w.heap.size w w2) := HB1.out.trans (hb2.mono HB1.out.size)
  have HBx2 := Lib.hid (HBox.out.below hb2 HBox.out.lt)
  have HSR := Lib.hid hsr
  clear hb2 hsr HB1 HBox
  go_wp2_with fail
  refine (texts_any B Ar cb cr refs refs (by unfold maxLen; omega) (by unfold maxLen; omega) w2 (HBr.out.below HB2.out HBr.out.lt) HSR.out).mono ?_
  rintro e w3 ⟨rfl, q, rfl⟩
  rw [show decide (refs = refs) = true from decide_eq_true rfl]
  have HB3 : Hid (Below w.heap.size w (w2.drewN q)) := below_drewN HB2.out q
  have HBx3 : Hid (Blk (w2.drewN q) w.heap.size 47 [.slice (some ⟨gh, 0, none⟩) 8 ch, .slice (some ⟨gk, 0, none⟩) 64 ck]) := HBx2.out.drewN q
  generalize w2.drewN q = w3 at *
  clear HB2 HBx2 HSR HRS
  go_wp2_with fail
  go_loopw [10] (fun vi wr => ∃ k : Nat, k ≤ refs.length ∧ vi = .int .i64 k ∧ Hid (Below w3.heap.size w3 wr)) (fun vi _ => refs.length - (intOf vi).toNat)
  case atStart => exact ⟨0, Nat.zero_le _, rfl, Below.refl _ _⟩
  case round =>
    obtain ⟨k, hk, rfl, HB⟩ := hrel
    rename World => W0
    by_cases hlt : k < refs.length
    · have hbw := HB3.out.trans (HB.out.mono HB3.out.size)
      obtain ⟨b, o, rfl, hc⟩ := (HBr.out.below hbw HBr.out.lt) (by omega)
      have c1 := hc k hlt
      have HP := Lib.hid (HR.out.2.1 k hlt)
      clear hc hbw
      generalize refs[k] = x at *
      go_wp2_with fail
      refine (ris_any x W0).mono ?_
      rintro e w4 ⟨rfl, hb⟩
      rw [HP.out]
      have HB4 : Hid (Below w3.heap.size w3 w4) := HB.out.trans (hb.mono HB.out.size)
      clear hb HB c1
      go_wp2_with fail
      go_roundw
      case rel => exact ⟨k + 1, by omega, by go_num, HB4.out⟩
      case measure => simp [intOf]; omega
    · obtain rfl : k = refs.length := by omega
      have HBw := Lib.hid (HB3.out.trans (HB.out.mono HB3.out.size))
      have HBx := Lib.hid (HBx3.out.below HB.out HBx3.out.lt)
      clear HB HB3 HBx3 hlt hk
      have HSL := Lib.hid (sumU_length arch)
      have HDEF : Hid (pathOf name arch refs = text (shortU (laidB (sumU arch) refs name)) ++ 45 :: name) := rfl
      go_wp2_with (refine wpList_load_mid rfl 47 (.tmp 4) rfl w.heap.size 0 rfl [.slice (some ⟨gh, 0, none⟩) 8 ch, .slice (some ⟨gk, 0, none⟩) 64 ck] _ HBx.out.range Try.underlying47 rfl Hs.info26s ?_)
      refine (rsumU_any A ca arch ha HNA.out _ W0 (HT.out.below HBw.out) (HA.out.below HBw.out)).mono ?_
      rintro e w4 ⟨As, cs, rfl, hs, -, -, hb4⟩
      have hcv := run_text_src (cap := cs) hs
      rw [sumU_length] at hcv ⊢
      generalize sumU arch = sm at *
      have HB4 : Hid (Below w.heap.size w w4) := HBw.out.trans (hb4.mono HBw.out.size)
      have HBx4 := Lib.hid (HBx.out.below hb4 HBx.out.lt)
      have HBx4' := HBx4
      have HLN : Hid ((textB sm).length + (textsB refs).length + (textB name).length ≤ 1000) := by have := HL.out; unfold laidB at this; simp only [List.length_append] at this; exact this
      clear hs hb4 HBw HBx
      go_wp2_with fail
      refine (rtextb_any sm (by have := HSL.out; omega) w4).mono ?_
      rintro e w5 ⟨v5, rfl, hr5⟩
      have HB5 : Hid (Below w.heap.size w w5) := HB4.out.trans (hr5.below.mono HB4.out.size)
      have HBx5 := Lib.hid (HBx4.out.below hr5.below HBx4.out.lt)
      have HR5 := Lib.hid hr5
      clear hr5 hcv HBx4
      go_wp2_with fail
      refine (rtextsb_any B cb refs h255n (by have h := HLN.out; unfold textsB at h; rw [List.length_append] at h; omega) w5 (HBr.out.below HB5.out HBr.out.lt)).mono ?_
      rintro e w6 ⟨v6, rfl, hr6⟩
      obtain ⟨A6, c6, rfl, hs6, hn6, -, -⟩ := hr6.src
      have HB6 : Hid (Below w.heap.size w w6) := HB5.out.trans (hr6.below.mono HB5.out.size)
      have HBx6 := Lib.hid (HBx5.out.below hr6.below HBx5.out.lt)
      have HS6 := Lib.hid hs6; have HN6 := Lib.hid hn6
      have HR6 : Hid (RowRel w4 5 ((textB sm).map vb) v5 w6) := HR5.out.below' hr6.below
      clear hr6 hs6 hn6 HR5 HBx5 HB5
      have hb1 : (textB sm).length + (textsB refs).length ≤ 1000000 := by have := HLN.out; omega
      have hb2 : (textB sm ++ textsB refs).length + (textB name).length ≤ 1000000 := by have := HLN.out; rw [List.length_append]; omega
      go_wp2_with (refine wpList_app rfl (.tmp 42) (.tmp 44) rfl HR6.out rfl A6 c6 (textsB refs) rfl HN6.out HS6.out hb1 ?_)
      intro v7 w7 hr7
      have hb67 : Below w4.heap.size w4 w7 := hr7.below
      have HB7 : Hid (Below w.heap.size w w7) := HB4.out.trans (hb67.mono HB4.out.size)
      have HBx7 := Lib.hid (HBx4'.out.below hb67 HBx4'.out.lt)
      have HR7 : Hid (RowRel w4 5 ((textB sm ++ textsB refs).map vb) v7 w7) := by show RowRel _ _ _ _ _; simpa using hr7
      have HLD : Hid (laidB sm refs name = (textB sm ++ textsB refs) ++ textB name) := rfl
      generalize textB sm ++ textsB refs = p7 at *
      clear hr7 hb67 HR6 HS6 HN6 HB6 HBx6 hb1
      obtain ⟨A7, c7, hv7, -, -, -, -⟩ := HR7.out.src
      subst hv7
      go_wp2_with fail
      refine (rtextb_any name (by have := HLN.out; unfold textB at this; simp only [List.length_append] at this; omega) w7).mono ?_
      rintro e w8 ⟨v8, rfl, hr8⟩
      obtain ⟨A8, c8, rfl, hs8, hn8, -, -⟩ := hr8.src
      have HR8 := Lib.hid (HR7.out.below' hr8.below)
      have HS8 := Lib.hid hs8; have HN8 := Lib.hid hn8
      clear hr8 hs8 hn8 HR7 HB7 HBx7
      go_wp2_with (refine wpList_app rfl (.tmp 46) (.tmp 48) rfl HR8.out rfl A8 c8 (textB name) rfl HN8.out HS8.out hb2 ?_)
      intro v9 w9 hr9
      have hb69 : Below w4.heap.size w4 w9 := hr9.below
      have HB9 : Hid (Below w.heap.size w w9) := HB4.out.trans (hb69.mono HB4.out.size)
      have HBx9 := Lib.hid (HBx4'.out.below hb69 HBx4'.out.lt)
      have HR9 : Hid (RowRel w4 5 ((laidB sm refs name).map vb) v9 w9) := by show RowRel _ _ _ _ _; rw [HLD.out]; simpa using hr9
      clear hr9 hb69 HR8 HS8 HN8 HB4 HBx4' hb2 HLN HLD
      generalize laidB sm refs name = ld at *
      obtain ⟨A9, c9, rfl, hs9, hn9, hl9, -⟩ := HR9.out.src
      have HS9 := Lib.hid hs9; have HN9 := Lib.hid hn9
      clear hs9 hn9 HR9
      go_wp2_with (refine wpList_load_mid rfl 47 (.tmp 4) rfl w.heap.size 0 rfl [.slice (some ⟨gh, 0, none⟩) 8 ch, .slice (some ⟨gk, 0, none⟩) 64 ck] _ HBx9.out.range Try.underlying47 rfl Hs.info26s ?_)
      refine (rshortU_any A9 c9 ld HL.out HN9.out _ w9 (HT.out.below HB9.out) HS9.out).mono ?_
      rintro e w10 ⟨A10, c10, rfl, hs10, -, -, hb10⟩
      have HB10 : Hid (Below w.heap.size w w10) := HB9.out.trans (hb10.mono HB9.out.size)
      have HS10 := Lib.hid hs10
      clear hs10 hb10 HB9 HS9 HN9 HBx9
      go_wp2_with fail
      refine (reftext_any A10 c10 (shortU ld) (by rw [shortU_length]; omega) w10 HS10.out).mono ?_
      rintro e w11 ⟨rfl, hb11⟩
      have HB11 : Hid (Below w.heap.size w w11) := HB10.out.trans (hb11.mono HB10.out.size)
      have HTL : Hid ((text (shortU ld)).length = 32) := by show _ = _; rw [text_length, shortU_length]; rfl
      clear hb11 HB10 HS10
      generalize text (shortU ld) = tx at *
      have HNL : Hid (name.length ≤ 40) := by have := HN.out; unfold rightB at this; simp at this; show _ ≤ _; omega
      have htl : tx.length ≤ 32 := by have := HTL.out; omega
      have hnl : name.length ≤ 40 := HNL.out
      go_wp2_with fail
      go_ret2
      refine ⟨?_, HB11.out⟩
      rw [HDEF.out, cat_path]; rfl
end Go.Proofs.Ythocaimiofehkaa
