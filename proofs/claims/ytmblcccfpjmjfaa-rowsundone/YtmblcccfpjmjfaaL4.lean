/- The walk of RowsUndone. -/
import Derived.Test.YtmblcccfpjmjfaaQ11
namespace Go.Proofs.Ytmblcccfpjmjfaa.St
open Go.RowKit Go.Maps Go.WideShapes Go.MapKept Go.WideMaps Go.ChangeMaps BaseMath WireMath NameMath ScanMath

def wasK (D : DU) (K : List (List By)) (i : Nat) : List Value := (K.take i).map fun k => vs (numD D k)
theorem wasK_len (D : DU) (K : List (List By)) (i : Nat) (h : i ≤ K.length) : (wasK D K i).length = i := by unfold wasK; rw [List.length_map, List.length_take]; omega
theorem wasK_succ (D : DU) (K : List (List By)) (i : Nat) (h : i < K.length) : wasK D K (i + 1) = wasK D K i ++ [vs (numD D K[i])] := by unfold wasK; rw [List.take_succ_eq_append_getElem h, List.map_append]; rfl
theorem wasK_get (D : DU) (K : List (List By)) (i : Nat) (h : i < K.length) : (wasK D K K.length)[i]? = some (vs (numD D K[i])) := by unfold wasK; rw [List.take_length, List.getElem?_map, List.getElem?_eq_getElem h]; rfl
theorem acs_cells {w : World} {B : Option Addr} {l : List Ac} (h : AcsIs w B l) (i : Nat) (hi : i < l.length) : ∃ b o, B = some ⟨b, o, none⟩ ∧ ∀ W, Below w.heap.size w W → W.cell? ⟨b, o + i * 3, none⟩ = some (vb l[i].d) ∧ W.cell? ⟨b, o + i * 3 + 1, none⟩ = some (vs l[i].k) ∧ W.cell? ⟨b, o + i * 3 + 2, none⟩ = some (.int .i64 l[i].v) := by
  obtain ⟨b, o, hB, hc⟩ := h (by omega)
  refine ⟨b, o, hB, fun W hW => ?_⟩
  have hl : b < w.heap.size := block_of_cell (hc i hi 0 _ rfl)
  have hh : ∀ q, W.cell? ⟨b, q, none⟩ = w.cell? ⟨b, q, none⟩ := fun q => hW.cell (p := ⟨b, q, none⟩) hl
  rw [hh, hh, hh]
  exact ⟨hc i hi 0 _ rfl, hc i hi 1 _ rfl, hc i hi 2 _ rfl⟩
set_option maxHeartbeats 8000000 in
set_option maxRecDepth 100000 in
theorem undone_walk (B0 : Option Addr) (cb0 : Nat) (l : List Ac) (B1 : Option Addr) (cb1 : Nat) (l1 : List Ac) (w : World) (hB : AcsIs w B0 l) (hB1 : AcsIs w B1 l1) (ha : l.length ≤ 40) (hb : l1.length ≤ 40) :
    Calls Try.prog 4 #[.slice B0 l.length cb0, .slice B1 l1.length cb1] w fun e w' => e = .returned (.bool true) ∧ Below w.heap.size w w' := by
  have HBm := Lib.hid hB; have HBm1 := Lib.hid hB1; clear hB hB1
  have ha' : ¬ (40 : Int) < l.length := by omega
  have hb' : ¬ (40 : Int) < l1.length := by omega
  go_enter Try.func4, Try.ntmps4
  go_wp2_with fail
  refine (undone_once w w (Below.refl _ _)).mono ?_
  rintro e w1 ⟨rfl, hb1⟩
  have HB1 := Lib.hid hb1; clear hb1
  go_wp2_with fail
  refine (new_any w1).mono ?_
  rintro e w2 ⟨tb, rfl, h2, hb2⟩
  have HS2 := Lib.hid (Since.start h2)
  have HB2 : Hid (Below w.heap.size w w2) := HB1.out.trans (hb2.mono HB1.out.size)
  have hbase : w.heap.size ≤ w1.heap.size := HB1.out.size
  clear h2 hb2
  go_wp2_with fail
  go_loopw [6] (fun vi wr => ∃ i : Nat, i ≤ l.length ∧ vi = .int .i64 i ∧ Hid (Since (.map []) [] w1.heap.size w2 wr tb i i)) (fun vi _ => l.length - (intOf vi).toNat)
  case atStart => exact ⟨0, Nat.zero_le _, rfl, HS2.out⟩
  case round =>
    obtain ⟨i, hi, rfl, HR⟩ := hrel
    rename World => W0
    have HBW : Hid (Below w.heap.size w W0) := by obtain ⟨D, L, -, -, -, hs⟩ := HR.out; exact HB2.out.trans (hs.below.mono hbase)
    by_cases hlt : i < l.length
    · obtain ⟨b, o, hBe, hcx⟩ := acs_cells HBm.out i hlt
      have HCX := Lib.hid hcx
      have HV : Hid (l[i].k.length ≤ maxLen) := l[i].hk
      generalize l[i].d = ad at *
      generalize l[i].k = ak at *
      generalize l[i].v = av at *
      subst hBe
      clear hcx
      go_upto_region 7 with fail
      have B0 : Hid (Below W0.heap.size W0 W0.drew) := (Below.refl _ _).drew
      have K0 := Lib.hid (HCX.out W0.drew HBW.out.drew)
      have HX : Hid (∀ W s, Below W0.heap.size W0 W → List.length (α := By) s ≤ maxLen → Calls Try.prog 27 #[.pointer (some ⟨tb, 0, none⟩), vs s, vs ak] W fun e w' => e = .returned (.tuple #[]) ∧ Since (.map []) [] w1.heap.size w2 w' tb (i + 1) (i + 1)) := fun W s hW hs =>
        (HR.out.below hW).set (by simp; omega) (by omega) s hs ak HV.out
      go_region_held3 (fun W => W.cell? ⟨b, o + i * 3, none⟩ = some (vb ad) ∧ W.cell? ⟨b, o + i * 3 + 1, none⟩ = some (vs ak) ∧ W.cell? ⟨b, o + i * 3 + 2, none⟩ = some (.int .i64 av))
        (first | exact K0.out | exact K1.out | exact K2.out)
        (first
          | (go_at_call 11
             ((with_reducible refine (key_any ad ak av _ _ HV.out).mono ?_)
              rintro e w3 ⟨⟨s, hs, rfl⟩, hb3⟩
              have S3 := Lib.hid hs
              have B3 := Lib.hid (B0.out.trans (hb3.mono B0.out.size))
              have K1 := Lib.hid (HCX.out w3 (HBW.out.trans (B3.out.mono HBW.out.size)))
              clear hb3 hs))
          | (go_at_call 27
             ((with_reducible refine (HX.out _ s B3.out S3.out).mono ?_)
              rintro e w4 ⟨rfl, h4⟩
              have HN := Lib.hid h4
              have K2 : Hid (w4.cell? ⟨b, o + i * 3, none⟩ = some (vb ad) ∧ w4.cell? ⟨b, o + i * 3 + 1, none⟩ = some (vs ak) ∧ w4.cell? ⟨b, o + i * 3 + 2, none⟩ = some (.int .i64 av)) := by
                obtain ⟨D, L, -, -, -, hs⟩ := HN.out; exact HCX.out w4 (HB2.out.trans (hs.below.mono hbase))
              clear h4))
          | fail)
      clear K0 K1 K2 B0 B3 S3 HX HCX HR
      go_wp2_with fail
      go_roundw
      case rel => first | exact ⟨i + 1, by omega, by go_num, HN.out⟩ | ((repeat apply Exists.intro); refine ⟨?_, rfl⟩; exact ⟨i + 1, by omega, by go_num, HN.out⟩)
      case measure => simp [intOf]; omega
    · obtain rfl : i = l.length := by omega
      obtain ⟨D1, J1, hJ1, -, hT1, hS1⟩ := HR.out
      rw [List.nil_append] at hT1
      have HK := Lib.hid (keys_any hT1 (by omega))
      have HKL : Hid ((keysD D1).length ≤ 40) := by have := hT1.keys_len; show _ ≤ _; omega
      have HLE : Hid (∀ q ∈ keysD D1, q.length ≤ maxLen) := hT1.keys_le
      have HMEM : Hid (∀ q, q ∈ keysD D1 ↔ hasD D1 q = true) := fun q => hT1.mem q
      have HT1 := Lib.hid hT1
      have HJ1 : Hid (J1.length ≤ 40) := by show _ ≤ _; omega
      clear hT1 hS1 HR
      generalize l.length = N at *
      go_wp2_with fail
      refine HK.out.mono ?_
      rintro e w3 ⟨A3, c3, rfl, -, hs3, -, hb3⟩
      have HS3 := Lib.hid hs3
      have HT3 := Lib.hid (HT1.out.below hb3)
      have HB3 : Hid (Below w.heap.size w w3) := HBW.out.trans (hb3.mono HBW.out.size)
      clear hs3 hb3 HK HT1 hJ1 HBW
      generalize hKe : keysD D1 = K at *
      go_wp2_with fail
      go_loopw [8, 9, 10, 11] (fun v8 v9 _ _ wr => ∃ i : Nat, i ≤ K.length ∧ v9 = .int .i64 i ∧ Hid (RowRel w3 9 (wasK D1 K i) v8 wr)) (fun _ v9 _ _ _ => K.length - (intOf v9).toNat)
      case atStart => exact ⟨0, Nat.zero_le _, rfl, RowRel.none w3 9⟩
      case round =>
        obtain ⟨i, hi, rfl, HR⟩ := hrel
        rename World => W2
        have hkl40 : K.length ≤ 40 := HKL.out
        by_cases hlt : i < K.length
        · obtain ⟨b, o, rfl, hc⟩ := HS3.out.strs (by omega)
          have c1 : W2.cell? ⟨b, o + i, none⟩ = some (vs K[i]) := (HR.out.below.cell (p := ⟨b, o + i, none⟩) (block_of_cell (hc i hlt))).trans (hc i hlt)
          have HG := Lib.hid (get_any (HT3.out.below HR.out.below) K[i] (HLE.out _ (List.getElem_mem hlt)))
          have HTK : Hid (wasK D1 K (i + 1) = wasK D1 K i ++ [vs (numD D1 K[i])]) := wasK_succ D1 K i hlt
          have hll : (wasK D1 K i).length + 1 ≤ 1000000 := by rw [wasK_len D1 K i hi]; have := HKL.out; omega
          clear hc
          generalize K[i] = s at *
          go_wp2_with fail
          refine HG.out.mono ?_
          rintro e w4 ⟨rfl, rfl⟩
          clear HG
          go_wp2_with (refine wpList_push Try.underlying45 info9 rfl (by decide) rfl (.tmp 66) (.tmp 68) rfl HR.out rfl [vs (numD D1 s)] 1 rfl rfl rfl hll ?_)
          intro v5 w5 hr5
          rw [← HTK.out] at hr5
          have HN := Lib.hid hr5
          clear hr5 HTK hll HR c1
          go_wp2_with fail
          go_roundw
          case rel => first | exact ⟨i + 1, by omega, by go_num, HN.out⟩ | ((repeat apply Exists.intro); refine ⟨?_, rfl⟩; exact ⟨i + 1, by omega, by go_num, HN.out⟩)
          case measure => simp [intOf]; omega
        · obtain rfl : i = K.length := by omega
          have HRW := HR
          have HT4 := Lib.hid (HT3.out.below HRW.out.below)
          have HS4 := Lib.hid (HS3.out.below HRW.out.below)
          have HB4 : Hid (Below w.heap.size w W2) := HB3.out.trans (HRW.out.below.mono HB3.out.size)
          have HSI := Lib.hid (Since.start (HT4.out.mono (show N ≤ 40 by omega)))
          clear HR
          go_wp2_with fail
          refine (mark_any HT4.out).mono ?_
          rintro e w5 ⟨rfl, rfl⟩
          go_wp2_with fail
          go_loopw [13] (fun vi wr => ∃ i : Nat, i ≤ l1.length ∧ vi = .int .i64 i ∧ Hid (Since D1 J1 w1.heap.size W2 wr tb i (40 + i))) (fun vi _ => l1.length - (intOf vi).toNat)
          case atStart => exact ⟨0, Nat.zero_le _, rfl, HSI.out⟩
          case round =>
            obtain ⟨i, hi3, rfl, HR⟩ := hrel
            rename World => W3
            have HBW : Hid (Below w.heap.size w W3) := by obtain ⟨D, L, -, -, -, hs⟩ := HR.out; exact HB4.out.trans (hs.below.mono hbase)
            have hj1 : J1.length ≤ 40 := HJ1.out
            by_cases hlt3 : i < l1.length
            · obtain ⟨b, o, hBe, hcx⟩ := acs_cells HBm1.out i hlt3
              have HCX := Lib.hid hcx
              have HV : Hid (l1[i].k.length ≤ maxLen) := l1[i].hk
              generalize l1[i].d = ad at *
              generalize l1[i].k = ak at *
              generalize l1[i].v = av at *
              subst hBe
              clear hcx
              by_cases h2 : ((ad.toNat : Int) % 2 == 0) = true
              · obtain ⟨K6, K61, K62⟩ := HCX.out W3 HBW.out
                go_upto_region 20 with fail
                clear K6 K61 K62
                have B0 : Hid (Below W3.heap.size W3 W3.drew) := (Below.refl _ _).drew
                have K0 := Lib.hid (HCX.out W3.drew HBW.out.drew)
                have HX : Hid (∀ W s, Below W3.heap.size W3 W → List.length (α := By) s ≤ maxLen → Calls Try.prog 27 #[.pointer (some ⟨tb, 0, none⟩), vs s, vs ak] W fun e w' => e = .returned (.tuple #[]) ∧ Since D1 J1 w1.heap.size W2 w' tb (i + 1) (40 + (i + 1))) := fun W s hW hs =>
                  (HR.out.below hW).set (by omega) (by omega) s hs ak HV.out
                go_region_held3 (fun W => W.cell? ⟨b, o + i * 3, none⟩ = some (vb ad) ∧ W.cell? ⟨b, o + i * 3 + 1, none⟩ = some (vs ak) ∧ W.cell? ⟨b, o + i * 3 + 2, none⟩ = some (.int .i64 av))
                  (first | exact K0.out | exact K1.out | exact K2.out)
                  (first
                    | (go_at_call 11
                       ((with_reducible refine (key_any ad ak av _ _ HV.out).mono ?_)
                        rintro e w6 ⟨⟨s, hs, rfl⟩, hb6⟩
                        have S3 := Lib.hid hs
                        have B3 := Lib.hid (B0.out.trans (hb6.mono B0.out.size))
                        have K1 := Lib.hid (HCX.out w6 (HBW.out.trans (B3.out.mono HBW.out.size)))
                        clear hb6 hs))
                    | (go_at_call 27
                       ((with_reducible refine (HX.out _ s B3.out S3.out).mono ?_)
                        rintro e w7 ⟨rfl, h7⟩
                        have HN := Lib.hid h7
                        have K2 : Hid (w7.cell? ⟨b, o + i * 3, none⟩ = some (vb ad) ∧ w7.cell? ⟨b, o + i * 3 + 1, none⟩ = some (vs ak) ∧ w7.cell? ⟨b, o + i * 3 + 2, none⟩ = some (.int .i64 av)) := by
                          obtain ⟨D, L, -, -, -, hs⟩ := HN.out; exact HCX.out w7 (HB4.out.trans (hs.below.mono hbase))
                        clear h7))
                    | fail)
                clear K0 K1 K2 B0 B3 S3 HX HCX HR
                go_wp2_with fail
                go_roundw
                case rel => first | exact ⟨i + 1, by omega, by go_num, HN.out⟩ | ((repeat apply Exists.intro); refine ⟨?_, rfl⟩; exact ⟨i + 1, by omega, by go_num, HN.out⟩)
                case measure => simp [intOf]; omega
              · have h2' : ((ad.toNat : Int) % 2 == 0) = false := by simpa using h2
                obtain ⟨K6, K61, K62⟩ := HCX.out W3 HBW.out
                go_wp2_with fail
                refine (key_any ad ak av _ _ HV.out).mono ?_
                rintro e w6 ⟨⟨s, hs, rfl⟩, hb6⟩
                have HD := Lib.hid ((HR.out.below hb6).drop (by omega) s hs)
                clear hb6 hs K6 K61 K62 HCX HR
                go_wp2_with fail
                refine HD.out.mono ?_
                rintro e w7 ⟨⟨bb, rfl⟩, h7⟩
                have HN : Hid (Since D1 J1 w1.heap.size W2 w7 tb (i + 1) (40 + (i + 1))) := h7
                clear h7 HD
                go_wp2_with fail
                go_roundw
                case rel => first | exact ⟨i + 1, by omega, by go_num, HN.out⟩ | ((repeat apply Exists.intro); refine ⟨?_, rfl⟩; exact ⟨i + 1, by omega, by go_num, HN.out⟩)
                case measure => simp [intOf]; omega
            · obtain rfl : i = l1.length := by omega
              have HU := Lib.hid (HR.out.undo (by omega) (by omega) (by rw [hKe]; exact HMEM.out))
              rw [hKe] at HU
              generalize l1.length = M at *
              clear HR HBW
              go_wp2_with fail
              refine HU.out.mono ?_
              rintro e w6 ⟨rfl, D3, hv, hk3, ht, hs⟩
              have HVW := Lib.hid hv
              have HT6 := Lib.hid ht; have HST6 := Lib.hid hs
              have HKY := Lib.hid (keys_any ht (by omega))
              rw [hk3] at HKY
              clear hv ht hs hk3 HU
              go_wp2_with fail
              refine HKY.out.mono ?_
              rintro e w7 ⟨A7, c7, rfl, hs7, -, -, hb7⟩
              have HS7 := Lib.hid hs7
              have HT7 := Lib.hid (HT6.out.below hb7)
              have HST7 : Hid (Step w1.heap.size W2 w7) := HST6.out.trans (Step.of_below hb7 HT6.out.base_le)
              have HSO := Lib.hid ((HS4.out.step HST7.out).strs)
              clear hs7 hb7 HKY HT6 HST6
              go_wp2_with fail
              refine (texts_below A7 A3 c7 c3 K (by omega) w7 HS7.out HSO.out).mono ?_
              rintro e w8 ⟨rfl, hb8⟩
              have HT8 := Lib.hid (HT7.out.below hb8)
              have HST8 : Hid (Step w1.heap.size W2 w8) := HST7.out.trans (Step.of_below hb8 HT7.out.base_le)
              have HSO8 := Lib.hid ((HS4.out.step HST8.out).strs)
              have ho := row_step HRW.out.own HST8.out (by decide) (by decide)
              rw [wasK_len D1 K K.length (Nat.le_refl _)] at ho
              have HO := Lib.hid ho
              have HB8 : Hid (Below w.heap.size w w8) := HB4.out.trans (HST8.out.below.mono hbase)
              clear hb8 ho HT7 HST7 HSO HS7
              go_wp2_with fail
              refine (mark_any HT8.out).mono ?_
              rintro e w9 ⟨rfl, rfl⟩
              go_wp2_with fail
              go_loopw [14, 15, 16] (fun vi _ _ wr => ∃ i : Nat, i ≤ K.length ∧ vi = .int .i64 i ∧ w8 = wr) (fun vi _ _ _ => K.length - (intOf vi).toNat)
              case atStart => exact ⟨0, Nat.zero_le _, rfl, rfl⟩
              case round =>
                obtain ⟨i, hi4, rfl, rfl⟩ := hrel
                by_cases hlt4 : i < K.length
                · obtain ⟨b, o, rfl, hc⟩ := HSO8.out (by omega)
                  have c1 : w8.cell? ⟨b, o + i, none⟩ = some (vs K[i]) := hc i hlt4
                  obtain ⟨g, cap, rfl, c2, -⟩ := row_cell HO.out (wasK_get D1 K i hlt4)
                  have hg := get_any HT8.out K[i] (HLE.out _ (List.getElem_mem hlt4))
                  have hvv := congrFun HVW.out K[i]
                  unfold view at hvv
                  rw [(HMEM.out K[i]).1 (List.getElem_mem hlt4)] at hvv
                  obtain ⟨e1, e2⟩ := Prod.mk.inj hvv
                  rw [e1, e2] at hg
                  have HG := Lib.hid hg
                  clear hc hg hvv e1 e2
                  generalize numD D1 K[i] = x at *
                  generalize K[i] = s at *
                  go_wp2_with fail
                  refine HG.out.mono ?_
                  rintro e w9 ⟨rfl, rfl⟩
                  clear HG
                  go_wp2_with fail
                  go_roundw
                  case rel => first | exact ⟨i + 1, by omega, by go_num, rfl⟩ | exact ⟨i + 1, by omega, by go_num, trivial⟩ | ((repeat apply Exists.intro); refine ⟨?_, rfl⟩; exact ⟨i + 1, by omega, by go_num, rfl⟩)
                  case measure => simp [intOf]; omega
                · obtain rfl : i = K.length := by omega
                  go_wp2_with fail
                  go_ret
                  exact ⟨rfl, HB8.out⟩
set_option maxHeartbeats 2000000 in
set_option maxRecDepth 100000 in
theorem undone_many (B0 : Option Addr) (cb0 n0 : Nat) (B1 : Option Addr) (cb1 n1 : Nat) (w : World) (h : 40 < n0 ∨ 40 < n1) :
    Calls Try.prog 4 #[.slice B0 n0 cb0, .slice B1 n1 cb1] w fun e w' => e = .returned (.bool true) ∧ Below w.heap.size w w' := by
  by_cases ha : 40 < n0
  · have ha' : (40 : Int) < n0 := by omega
    go_enter Try.func4, Try.ntmps4
    go_wp2_with fail
    refine (undone_once w w (Below.refl _ _)).mono ?_
    rintro e w1 ⟨rfl, hb1⟩
    have HB1 := Lib.hid hb1; clear hb1
    go_wp2_with fail
    refine (undone_once w w1 HB1.out).mono ?_
    rintro e w2 ⟨rfl, hb2⟩
    have HB2 := Lib.hid hb2; clear hb2
    go_wp2_with fail
    go_ret
    exact ⟨rfl, HB2.out⟩
  · have ha' : ¬ (40 : Int) < n0 := by omega
    have hb' : (40 : Int) < n1 := by omega
    clear h
    go_enter Try.func4, Try.ntmps4
    go_wp2_with fail
    refine (undone_once w w (Below.refl _ _)).mono ?_
    rintro e w1 ⟨rfl, hb1⟩
    have HB1 := Lib.hid hb1; clear hb1
    go_wp2_with fail
    refine (undone_once w w1 HB1.out).mono ?_
    rintro e w2 ⟨rfl, hb2⟩
    have HB2 := Lib.hid hb2; clear hb2
    go_wp2_with fail
    go_ret
    exact ⟨rfl, HB2.out⟩
theorem undone_all_acts (B0 : Option Addr) (cb0 : Nat) (l : List Ac) (B1 : Option Addr) (cb1 : Nat) (l1 : List Ac) (w : World) (hB : AcsIs w B0 l) (hB1 : AcsIs w B1 l1) :
    Calls Try.prog 4 #[.slice B0 l.length cb0, .slice B1 l1.length cb1] w fun e w' => e = .returned (.bool true) ∧ Below w.heap.size w w' := by
  by_cases ha : l.length ≤ 40
  · by_cases hb : l1.length ≤ 40
    · exact undone_walk B0 cb0 l B1 cb1 l1 w hB hB1 ha hb
    · exact undone_many B0 cb0 _ B1 cb1 _ w (.inr (by omega))
  · exact undone_many B0 cb0 _ B1 cb1 _ w (.inl (by omega))
end Go.Proofs.Ytmblcccfpjmjfaa.St
