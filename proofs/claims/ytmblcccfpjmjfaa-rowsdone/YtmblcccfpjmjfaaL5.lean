/- The walk of RowsDone. -/
import Derived.Test.YtmblcccfpjmjfaaR10
namespace Go.Proofs.Ytmblcccfpjmjfaa
open Go.RowKit Go.Maps Go.WideShapes Go.MapKept Go.WideMaps Go.ChangeMaps BaseMath WireMath NameMath ScanMath

theorem undo_empty {base : Nat} {w : World} {tb : Nat} {D : DU} {n : Nat} (h : Tab base w tb D [] n) (m : Int) :
    Calls Try.prog 16 #[.pointer (some ⟨tb, 0, none⟩), .int .i64 m] w fun e w' => e = .returned (.tuple #[]) ∧ Tab base w' tb D [] n ∧ Step base w w' :=
  (undo_none h m (by show (0 : Int) ≤ _; omega)).mono fun e w' he => ⟨he.1, h.below he.2, Step.of_below he.2 h.base_le⟩
theorem keys_size {w : World} {b n : Nat} {D : DU} (h : w.ownsMap Try.prog 9 (plainElem (H := Unit) Try.prog 3) b n D) : (keysD D).length = Maps.size D := by
  have h1 := keys_nodup h
  unfold keysD
  rw [← sort_nodup h1, List.length_mergeSort]
  obtain ⟨es, rfl, -, -⟩ := keys_str h
  simp [strKeys, Maps.size]
set_option maxHeartbeats 4000000 in
set_option maxRecDepth 100000 in
theorem done_walk (B : Option Addr) (cb : Nat) (l : List Ac) (mark : Int) (w : World) (hm : l.length ≤ maxLen) (hB : AcsIs w B l) :
    Calls Try.prog 5 #[.slice B l.length cb, .int .i64 mark] w fun e w' => e = .returned (.bool true) ∧ Below w.heap.size w w' := by
  unfold maxLen at hm
  have HBm := Lib.hid hB; clear hB
  by_cases h40 : l.length ≤ 40
  · have h40' : ¬ (40 : Int) < l.length := by omega
    go_enter Try.func5, Try.ntmps5
    go_wp2_with fail
    refine (undone_once w w (Below.refl _ _)).mono ?_
    rintro e w1 ⟨rfl, hb1⟩
    have HB1 := Lib.hid hb1; clear hb1
    go_wp2_with fail
    refine (new_any w1).mono ?_
    rintro e w2 ⟨tb, rfl, h2, hb2⟩
    have HB2 := Lib.hid hb2
    have HT2 := Lib.hid h2
    have hbase : w.heap.size ≤ w1.heap.size := HB1.out.size
    clear h2 hb2
    go_wp2_with fail
    go_loopw [6] (fun vi wr => ∃ i : Nat, i ≤ l.length ∧ vi = .int .i64 i ∧ Hid ((∃ (D : DU) (J : List Fo), J.length = i ∧ Tab w1.heap.size wr tb D J i) ∧ Step w1.heap.size w2 wr)) (fun vi _ => l.length - (intOf vi).toNat)
    case atStart => exact ⟨0, Nat.zero_le _, rfl, ⟨_, [], rfl, HT2.out⟩, Step.refl _ _⟩
    case round =>
      obtain ⟨i, hi, rfl, HR⟩ := hrel
      rename World => W0
      have HBW : Hid (Below w.heap.size w W0) := HB1.out.trans ((HB2.out.trans HR.out.2.below).mono hbase)
      by_cases hlt : i < l.length
      · obtain ⟨⟨D, J, hJ, hT⟩, hS⟩ := HR.out
        obtain ⟨b, o, hBe, hc⟩ := HBm.out (by omega)
        have hc0 := hc i hlt 0 _ rfl
        have HCX : Hid (∀ W, Below w.heap.size w W → W.cell? ⟨b, o + i * 3, none⟩ = some (vb l[i].d) ∧ W.cell? ⟨b, o + i * 3 + 1, none⟩ = some (vs l[i].k) ∧ W.cell? ⟨b, o + i * 3 + 2, none⟩ = some (.int .i64 l[i].v)) := fun W hW => by
          have hl : b < w.heap.size := block_of_cell hc0
          have hh : ∀ q, W.cell? ⟨b, q, none⟩ = w.cell? ⟨b, q, none⟩ := fun q => hW.cell (p := ⟨b, q, none⟩) hl
          rw [hh, hh, hh]
          exact ⟨hc i hlt 0 _ rfl, hc i hlt 1 _ rfl, hc i hlt 2 _ rfl⟩
        have HS := Lib.hid hS
        have HX : Hid (∀ W, Below W0.heap.size W0 W → Calls Try.prog 12 #[.pointer (some ⟨tb, 0, none⟩), vs [nearB l[i].d], .int .i64 l[i].v] W fun e w' => e = .returned (.tuple #[]) ∧ (∃ (D' : DU) (J' : List Fo), J'.length = J.length + 1 ∧ Tab w1.heap.size w' tb D' J' (i + 1)) ∧ Step w1.heap.size W w') := fun W hW =>
          (set_len (hT.below hW) [nearB l[i].d] (by unfold maxLen; simp) l[i].v l[i].hv (by omega) (by omega)).mono fun e w' he => ⟨he.1, ⟨_, he.2.1⟩, he.2.2⟩
        have HJ := Lib.hid hJ
        have HBA : Hid (w1.heap.size ≤ W0.heap.size) := hT.base_le
        generalize l[i].d = ad at *
        generalize l[i].k = ak at *
        generalize l[i].v = av at *
        subst hBe
        clear hc hc0 hT hS hJ HR
        go_upto_region 7 with fail
        have B0 : Hid (Below W0.heap.size W0 W0.drew) := (Below.refl _ _).drew
        have K0 := Lib.hid (HCX.out W0.drew HBW.out.drew)
        go_region_held3 (fun W => W.cell? ⟨b, o + i * 3, none⟩ = some (vb ad) ∧ W.cell? ⟨b, o + i * 3 + 1, none⟩ = some (vs ak) ∧ W.cell? ⟨b, o + i * 3 + 2, none⟩ = some (.int .i64 av))
          (first | exact K0.out | exact K1.out | exact K2.out)
          (first
            | (go_at_call 11
               ((with_reducible refine (key_near ad ak av _).mono ?_)
                rintro e w3 ⟨rfl, hb3⟩
                have B3 := Lib.hid (B0.out.trans (hb3.mono B0.out.size))
                have K1 := Lib.hid (HCX.out w3 (HBW.out.trans (B3.out.mono HBW.out.size)))
                clear hb3))
            | (go_at_call 12
               ((with_reducible refine (HX.out _ B3.out).mono ?_)
                rintro e w4 ⟨rfl, ⟨D', J', hj', h4⟩, s4⟩
                have HN : Hid ((∃ (D : DU) (J : List Fo), J.length = i + 1 ∧ Tab w1.heap.size w4 tb D J (i + 1)) ∧ Step w1.heap.size w2 w4) := ⟨⟨D', J', by rw [hj', HJ.out], h4⟩, HS.out.trans ((Step.of_below B3.out HBA.out).trans s4)⟩
                have K2 := Lib.hid (HCX.out w4 (HB1.out.trans ((HB2.out.trans HN.out.2.below).mono hbase)))
                clear hj' h4 s4))
            | fail)
        clear K0 K1 K2 B0 B3 HX HCX
        go_wp2_with fail
        go_roundw
        case rel => first | exact ⟨i + 1, by omega, by go_num, HN.out⟩ | ((repeat apply Exists.intro); refine ⟨?_, rfl⟩; exact ⟨i + 1, by omega, by go_num, HN.out⟩)
        case measure => simp [intOf]; omega
      · obtain rfl : i = l.length := by omega
        obtain ⟨⟨D, J, hJ, hT⟩, hS⟩ := HR.out
        have HK := Lib.hid (keys_any hT (by omega))
        have HT := Lib.hid hT
        have HKS : Hid ((keysD D).length = Maps.size D) := by obtain ⟨mb, jv, h⟩ := hT; exact keys_size h.map
        have HSZ : Hid (Maps.size D ≤ 40) := by obtain ⟨mb, jv, h⟩ := hT; have := h.map.size_le; show _ ≤ _; omega
        clear hJ hT hS HR
        go_wp2_with fail
        refine HK.out.mono ?_
        rintro e w3 ⟨A3, c3, rfl, -, hs3, -, hb3⟩
        have HS3 := Lib.hid hs3
        have HT3 := Lib.hid (HT.out.below hb3)
        have HB3 : Hid (Below w.heap.size w w3) := HBW.out.trans (hb3.mono HBW.out.size)
        clear hs3 hb3 HK
        go_wp2_with fail
        refine (done_any HT3.out).mono ?_
        rintro e w4 ⟨rfl, h4, s4⟩
        have HT4 := Lib.hid h4; have HST4 := Lib.hid s4
        clear h4 s4
        go_wp2_with fail
        refine (mark_any HT4.out).mono ?_
        rintro e w4' ⟨rfl, rfl⟩
        rw [show (([] : List Fo).length : Int) = 0 from rfl]
        go_wp2_with fail
        refine (undo_empty HT4.out mark).mono ?_
        rintro e w5 ⟨rfl, h5, s5⟩
        have HT5 := Lib.hid h5; have HST5 := Lib.hid (HST4.out.trans s5)
        have HS5 := Lib.hid (HS3.out.step HST5.out)
        have HB5 : Hid (Below w.heap.size w w5) := HB3.out.trans (HST5.out.below.mono hbase)
        have hksz : (keysD D).length ≤ 40 := by have := HSZ.out; have := HKS.out; omega
        clear h5 s5 HT3 HT4 HST4 HST5 HS3 HB3
        go_wp2_with fail
        refine (keys_any HT5.out (by omega)).mono ?_
        rintro e w6 ⟨A6, c6, rfl, hs6, -, -, hb6⟩
        have HS6 := Lib.hid hs6
        have HS56 := Lib.hid ((HS5.out.below hb6).strs)
        have HT6 := Lib.hid (HT5.out.below hb6)
        have HB6 : Hid (Below w.heap.size w w6) := HB5.out.trans (hb6.mono HB5.out.size)
        clear hs6 hb6
        go_wp2_with fail
        refine (texts_below A6 A3 c6 c3 (keysD D) (by omega) w6 HS6.out HS56.out).mono ?_
        rintro e w7 ⟨rfl, hb7⟩
        have HT7 := Lib.hid (HT6.out.below hb7)
        have HB7 : Hid (Below w.heap.size w w7) := HB6.out.trans (hb7.mono HB6.out.size)
        clear hb7
        go_wp2_with fail
        refine (len_any HT7.out).mono ?_
        rintro e w7' ⟨rfl, rfl⟩
        rw [← HKS.out]
        go_wp2_with fail
        go_ret
        exact ⟨by simp, HB7.out⟩
  · have h40' : (40 : Int) < l.length := by omega
    go_enter Try.func5, Try.ntmps5
    go_wp2_with fail
    refine (undone_once w w (Below.refl _ _)).mono ?_
    rintro e w1 ⟨rfl, hb1⟩
    have HB1 := Lib.hid hb1; clear hb1
    go_wp2_with fail
    refine (undone_once w w1 HB1.out).mono ?_
    rintro e w2 ⟨rfl, hb2⟩
    have HB2 := Lib.hid hb2; clear hb2
    go_wp2_with fail
    go_ret
    exact ⟨rfl, HB2.out⟩
end Go.Proofs.Ytmblcccfpjmjfaa
