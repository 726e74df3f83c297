/- The walk of RowsNested. -/
import Derived.Test.YtmblcccfpjmjfaaR13
namespace Go.Proofs.Ytmblcccfpjmjfaa
open Go.RowKit Go.Maps Go.WideShapes Go.MapKept Go.WideMaps Go.ChangeMaps BaseMath WireMath NameMath ScanMath

set_option maxHeartbeats 4000000 in
set_option maxRecDepth 100000 in
theorem nested_walk (B : Option Addr) (cb : Nat) (l : List Ac) (w : World) (hm : l.length ≤ maxLen) (hB : AcsIs w B l) :
    Calls Try.prog 8 #[.slice B l.length cb] w fun e w' => e = .returned (.bool true) ∧ Below w.heap.size w w' := by
  unfold maxLen at hm
  have HBm := Lib.hid hB; clear hB
  by_cases h30 : l.length ≤ 30
  · have h30' : ¬ (30 : Int) < l.length := by omega
    go_enter Try.func8, Try.ntmps8
    go_wp2_with fail
    refine (undone_once w w (Below.refl _ _)).mono ?_
    rintro e w1 ⟨rfl, hb1⟩
    have HB1 := Lib.hid hb1; clear hb1
    go_wp2_with fail
    refine (new_any w1).mono ?_
    rintro e w2 ⟨tb, rfl, h2, hb2⟩
    have HU2 := Lib.hid (Up.start h2 hb2)
    have hbase : w.heap.size ≤ w1.heap.size := HB1.out.size
    clear h2 hb2
    go_wp2_with fail
    go_loopw [4, 5, 6] (fun vm vk vi wr => ∃ (mv kv : Value) (i : Nat), mv = vm ∧ kv = vk ∧ i ≤ l.length ∧ vi = .int .i64 i ∧ Hid (Up w1.heap.size w1 wr tb mv kv i)) (fun _ _ vi _ => l.length - (intOf vi).toNat)
    case atStart => exact ⟨_, _, 0, rfl, rfl, Nat.zero_le _, rfl, HU2.out⟩
    case round =>
      obtain ⟨mv, kv, i, rfl, rfl, hi, rfl, HR⟩ := hrel
      rename World => W0
      have HBW : Hid (Below w.heap.size w W0) := HB1.out.trans (HR.out.low.mono hbase)
      by_cases hlt : i < l.length
      · obtain ⟨D, J, ms, ks, hT, hJ, hms, hI, hR, hS⟩ := HR.out
        have HT := Lib.hid hT; have HJ := Lib.hid hJ; have HI := Lib.hid hI; have HRA := Lib.hid hR; have HS := Lib.hid hS; have HMS := Lib.hid hms
        have hkl : ks.length = i := by have := hI.len; rw [List.length_map] at this; omega
        have HKL := Lib.hid hkl
        obtain ⟨b, o, hBe, hc⟩ := HBm.out (by omega)
        have hc0 := hc i hlt 0 _ rfl
        have HCX : Hid (∀ W, Below w.heap.size w W → W.cell? ⟨b, o + i * 3, none⟩ = some (vb l[i].d) ∧ W.cell? ⟨b, o + i * 3 + 1, none⟩ = some (vs l[i].k) ∧ W.cell? ⟨b, o + i * 3 + 2, none⟩ = some (.int .i64 l[i].v)) := fun W hW => by
          have hl : b < w.heap.size := block_of_cell hc0
          have hh : ∀ q, W.cell? ⟨b, q, none⟩ = w.cell? ⟨b, q, none⟩ := fun q => hW.cell (p := ⟨b, q, none⟩) hl
          rw [hh, hh, hh]
          exact ⟨hc i hlt 0 _ rfl, hc i hlt 1 _ rfl, hc i hlt 2 _ rfl⟩
        have HV : Hid ((Lit.int .i64 l[i].v).wf = true) := l[i].hv
        generalize l[i].d = ad at *
        generalize l[i].k = ak at *
        generalize l[i].v = av at *
        subst hBe
        clear hc hc0 hT hJ hI hR hS HR hms hkl
        go_wp2_with fail
        refine (mark_any HT.out).mono ?_
        rintro e w3 ⟨rfl, rfl⟩
        go_wp2_with (refine wpList_mark rfl (.tmp 23) (.tmp 26) rfl HRA.out HT.out HS.out rfl _ rfl (by have := HMS.out; omega) ?_)
        intro v4 w4 hr4 ht4 hb4
        have HR4 := Lib.hid hr4; have HT4 := Lib.hid ht4; have HB4 := Lib.hid hb4
        clear hr4 ht4 hb4 HT HRA HS
        go_wp2_with fail
        refine (keys_any HT4.out (by omega)).mono ?_
        rintro e w5 ⟨A5, c5, rfl, -, hs5, -, hb5⟩
        have HS5 := Lib.hid hs5; have HR5 := Lib.hid (HR4.out.below hb5); have HT5 := Lib.hid (HT4.out.below hb5); have HB5 := Lib.hid (HB4.out.trans (hb5.mono HT4.out.base_le))
        clear hs5 hb5 HR4 HT4 HB4
        go_wp2_with (refine wpList_keys rfl (.tmp 28) (.tmp 31) rfl HR5.out HT5.out HB5.out rfl A5 c5 (keysD D) HS5.out rfl (by have := HKL.out; omega) ?_)
        intro v6 w6 hr6 ht6 hb6
        have HM := Lib.hid (Mid.make ht6 HJ.out HMS.out HI.out hr6 hb6)
        have HBX : Hid (Below w.heap.size w w6) := HB1.out.trans (hb6.mono hbase)
        clear hr6 ht6 hb6 HR5 HT5 HB5 HS5 HI HJ HMS HKL HBW
        by_cases h3 : ((ad.toNat : Int) % 3 == 0) = true
        · obtain ⟨K6, K61, K62⟩ := HCX.out w6 HBX.out
          go_wp2_with fail
          refine (key_near ad ak av w6).mono ?_
          rintro e w7 ⟨rfl, hb7⟩
          have HM7 := Lib.hid (HM.out.below hb7)
          clear hb7 HM K6 K61 K62
          go_wp2_with fail
          refine (HM7.out.drop (by omega) [nearB ad] (by unfold maxLen; simp)).mono ?_
          rintro e w8 ⟨⟨bb, rfl⟩, h8⟩
          have HN := Lib.hid h8
          clear h8 HM7 HCX
          go_wp2_with fail
          go_roundw
          case rel => first | exact ⟨_, _, i + 1, rfl, rfl, by omega, by go_num, HN.out⟩ | ((repeat apply Exists.intro); refine ⟨?_, rfl⟩; exact ⟨_, _, i + 1, rfl, rfl, by omega, by go_num, HN.out⟩)
          case measure => simp [intOf]; omega
        · have h3' : ((ad.toNat : Int) % 3 == 0) = false := by simpa using h3
          obtain ⟨K6, K61, K62⟩ := HCX.out w6 HBX.out
          go_upto_region 13 with fail
          clear K6 K61 K62
          have B0 : Hid (Below w6.heap.size w6 w6.drew) := (Below.refl _ _).drew
          have K0 := Lib.hid (HCX.out w6.drew HBX.out.drew)
          have HX : Hid (∀ W, Below w6.heap.size w6 W → Calls Try.prog 12 #[.pointer (some ⟨tb, 0, none⟩), vs [nearB ad], .int .i64 av] W fun e w' => e = .returned (.tuple #[]) ∧ Up w1.heap.size w1 w' tb v4 v6 (i + 1)) := fun W hW =>
            (HM.out.below hW).set (by omega) [nearB ad] (by unfold maxLen; simp) av HV.out
          go_region_held3 (fun W => W.cell? ⟨b, o + i * 3, none⟩ = some (vb ad) ∧ W.cell? ⟨b, o + i * 3 + 1, none⟩ = some (vs ak) ∧ W.cell? ⟨b, o + i * 3 + 2, none⟩ = some (.int .i64 av))
            (first | exact K0.out | exact K1.out | exact K2.out)
            (first
              | (go_at_call 11
                 ((with_reducible refine (key_near ad ak av _).mono ?_)
                  rintro e w3 ⟨rfl, hb3⟩
                  have B3 := Lib.hid (B0.out.trans (hb3.mono B0.out.size))
                  have K1 := Lib.hid (HCX.out w3 (HBX.out.trans (B3.out.mono HBX.out.size)))
                  clear hb3))
              | (go_at_call 12
                 ((with_reducible refine (HX.out _ B3.out).mono ?_)
                  rintro e w8 ⟨rfl, h8⟩
                  have HN := Lib.hid h8
                  have K2 := Lib.hid (HCX.out w8 (HB1.out.trans (HN.out.low.mono hbase)))
                  clear h8))
              | fail)
          clear K0 K1 K2 B0 B3 HX HCX HM
          go_wp2_with fail
          go_roundw
          case rel => first | exact ⟨_, _, i + 1, rfl, rfl, by omega, by go_num, HN.out⟩ | ((repeat apply Exists.intro); refine ⟨?_, rfl⟩; exact ⟨_, _, i + 1, rfl, rfl, by omega, by go_num, HN.out⟩)
          case measure => simp [intOf]; omega
      · obtain rfl : i = l.length := by omega
        have HD0 := Lib.hid (Down.start HR.out h30)
        generalize l.length = N at *
        clear HR HBW
        go_wp2_with fail
        go_loopw [7] (fun vi wr => ∃ c : Nat, c ≤ N ∧ vi = .int .i64 ((c : Int) - 1) ∧ Hid (Down w1.heap.size w1 wr tb mv kv N c)) (fun vi _ => (intOf vi + 1).toNat)
        case atStart => exact ⟨N, Nat.le_refl _, by go_num, HD0.out⟩
        case round =>
          obtain ⟨c, hc, hv, HR⟩ := hrel
          clear HD0
          by_cases hc0 : 0 < c
          · obtain ⟨k, rfl⟩ : ∃ k, c = k + 1 := ⟨c - 1, by omega⟩
            rw [show ((k + 1 : Nat) : Int) - 1 = (k : Int) by omega] at hv
            subst hv
            obtain ⟨g, cap, g2, cap2, m, A, K, ck, rfl, rfl, c1, c2, -, -, -, hcall⟩ := HR.out.cells hc h30
            have HCA := Lib.hid hcall
            clear hcall HR
            go_wp2_with fail
            refine HCA.out.mono ?_
            rintro e w3 ⟨rfl, k1, k2, hs, hg, hg2, hD, D, J, ht, hk, hj, hkl⟩
            have HD := Lib.hid hD
            have HC : Hid (∀ W, Below w3.heap.size w3 W → W.cell? ⟨g, k, none⟩ = some (.int .i64 (m : Nat)) ∧ W.cell? ⟨g2, k, none⟩ = some (.slice A (List.length (α := List By) K) ck)) := fun W hW =>
              ⟨(hW.cell (p := ⟨g, k, none⟩) hg).trans k1, (hW.cell (p := ⟨g2, k, none⟩) hg2).trans k2⟩
            have HKy : Hid (∀ W, Below w3.heap.size w3 W → Calls Try.prog 24 #[.pointer (some ⟨tb, 0, none⟩)] W fun e w' => ∃ A' c', e = .returned (.slice A' (List.length (α := List By) K) c') ∧ StrsIs w' A' K ∧ Below W.heap.size W w') := fun W hW =>
              (keys_any (ht.below hW) (by omega)).mono fun e w' he => by
                obtain ⟨A', c', h1, h2, -, -, h5⟩ := he
                rw [hk] at h1 h2
                exact ⟨A', c', h1, h2, h5⟩
            have HTx : Hid (∀ W A' c', Below w3.heap.size w3 W → StrsIs W A' K → Calls Try.prog 23 #[.slice A' (List.length (α := List By) K) c', .slice A (List.length (α := List By) K) ck] W fun e w' => e = .returned (.bool true) ∧ Below W.heap.size W w') := fun W A' c' hW hs' =>
              texts_below A' A c' ck K hkl W hs' (hs.below hW).strs
            have HMk : Hid (∀ W, Below w3.heap.size w3 W → Calls Try.prog 22 #[.pointer (some ⟨tb, 0, none⟩)] W fun e w' => e = .returned (.int .i64 (m : Nat)) ∧ W = w') := fun W hW => by
              have h := mark_any (ht.below hW)
              rw [hj] at h
              exact h
            clear HCA k1 k2 hs hg hg2 hD ht hk hj c1 c2
            have q1 : (0 : Int) ≤ (k : Int) := by omega
            have q2 : (k : Int) < (N : Int) := by omega
            have q3 : (k : Int) ≤ (N : Int) := by omega
            have q4 : k < N := by omega
            go_upto_region 18 with fail
            have B0 : Hid (Below w3.heap.size w3 w3.drew) := (Below.refl _ _).drew
            have K0 := Lib.hid (HC.out w3.drew B0.out)
            go_region_held3 (fun W => W.cell? ⟨g, k, none⟩ = some (.int .i64 (m : Nat)) ∧ W.cell? ⟨g2, k, none⟩ = some (.slice A (List.length (α := List By) K) ck))
              (first | exact K0.out | exact K1.out | exact K2.out)
              (first
                | (go_at_call 24
                   ((with_reducible refine (HKy.out _ B0.out).mono ?_)
                    rintro e w4 ⟨A4, c4, rfl, hs4, hb4⟩
                    have S4 := Lib.hid hs4
                    have B4 := Lib.hid (B0.out.trans (hb4.mono B0.out.size))
                    have K1 := Lib.hid (HC.out w4 B4.out)
                    clear hs4 hb4))
                | (go_at_call 23
                   ((with_reducible refine (HTx.out _ A4 c4 B4.out S4.out).mono ?_)
                    rintro e w5 ⟨rfl, hb5⟩
                    have B5 := Lib.hid (B4.out.trans (hb5.mono B4.out.size))
                    have K2 := Lib.hid (HC.out w5 B5.out)
                    clear hb5))
                | (go_at_call 22
                   ((with_reducible refine (HMk.out _ B5.out).mono ?_)
                    rintro e w6 ⟨rfl, rfl⟩))
                | fail)
            have HN := Lib.hid (HD.out.below B5.out)
            clear K0 K1 K2 B0 B4 B5 S4 HKy HTx HMk HC HD
            go_wp2_with fail
            go_roundw
            case rel => first | exact ⟨k, by omega, by go_num, HN.out⟩ | ((repeat apply Exists.intro); refine ⟨?_, rfl⟩; exact ⟨k, by omega, by go_num, HN.out⟩)
            case measure => first | (simp [intOf]; done) | (simp [intOf]; omega)
          · obtain rfl : c = 0 := by omega
            rw [show ((0 : Nat) : Int) - 1 = -1 by rfl] at hv
            subst hv
            go_wp2_with fail
            refine HR.out.empty.mono ?_
            rintro e w3 ⟨rfl, rfl⟩
            go_wp2_with fail
            go_ret
            exact ⟨rfl, HB1.out.trans (HR.out.low.mono hbase)⟩
  · have h30' : (30 : Int) < l.length := by omega
    go_enter Try.func8, Try.ntmps8
    go_wp2_with fail
    refine (undone_once w w (Below.refl _ _)).mono ?_
    rintro e w1 ⟨rfl, hb1⟩
    have HB1 := Lib.hid hb1; clear hb1
    go_wp2_with fail
    refine (undone_once w w1 HB1.out).mono ?_
    rintro e w2 ⟨rfl, hb2⟩
    have HB2 := Lib.hid hb2; clear hb2
    go_wp2_with fail
    go_ret
    exact ⟨rfl, HB2.out⟩
end Go.Proofs.Ytmblcccfpjmjfaa
