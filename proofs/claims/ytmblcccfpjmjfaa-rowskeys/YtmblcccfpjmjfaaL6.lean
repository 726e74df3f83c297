/- The walk of RowsKeys. -/
import Derived.Test.YtmblcccfpjmjfaaR9
namespace Go.Proofs.Ytmblcccfpjmjfaa
open Go.RowKit Go.Maps Go.WideShapes Go.MapKept Go.WideMaps Go.ChangeMaps BaseMath WireMath NameMath ScanMath

def setsD (l : List (List By)) : Nat → DU
  | 0 => .map []
  | i + 1 => (setsD l i).put (kl (l.getD i [])) (.lit (.int .i64 (i : Int)))
theorem setsD_map (l : List (List By)) : ∀ i, IsMap (setsD l i)
  | 0 => ⟨[], rfl⟩
  | i + 1 => (setsD_map l i).put _ _
theorem setsD_has (l : List (List By)) (q : List By) : ∀ i, i ≤ l.length → hasD (setsD l i) q = decide (q ∈ l.take i)
  | 0, _ => by simp [setsD, hasD, Maps.has]
  | i + 1, hi => by
    rw [setsD, hasD_put (setsD_map l i), setsD_has l q i (by omega), List.take_succ_eq_append_getElem (by omega), List.getD_eq_getElem?_getD, List.getElem?_eq_getElem (by omega), Option.getD_some, Bool.eq_iff_iff]
    simp only [Bool.or_eq_true, decide_eq_true_eq, List.mem_append, List.mem_singleton]
    exact Or.comm
theorem setsD_keys {w : World} {b n : Nat} (l : List (List By)) (h : w.ownsMap Try.prog 9 (plainElem (H := Unit) Try.prog 3) b n (setsD l l.length)) : keysD (setsD l l.length) = rise l :=
  rises_ext (rise_rises _) (rise_rises _) fun q => by
    show q ∈ rise (strKeys _) ↔ _
    rw [mem_rise, mem_rise, mem_keys h, setsD_has l q _ (Nat.le_refl _), List.take_length, decide_eq_true_eq]
set_option maxHeartbeats 2000000 in
set_option maxRecDepth 100000 in
theorem keys_walk (B : Option Addr) (cb : Nat) (l : List (List By)) (w : World) (hm : l.length ≤ maxLen) (hB : StrsIs w B l) (he : ∀ t ∈ l, t.length ≤ maxLen) :
    Calls Try.prog 6 #[.slice B l.length cb] w fun e w' => e = .returned (.bool true) ∧ Below w.heap.size w w' := by
  unfold maxLen at hm
  have HBm := Lib.hid hB; have HE := Lib.hid he; clear hB he
  by_cases h60 : l.length ≤ 60
  · have h60' : ¬ (60 : Int) < l.length := by omega
    go_enter Try.func6, Try.ntmps6
    go_wp2_with fail
    refine (undone_once w w (Below.refl _ _)).mono ?_
    rintro e w1 ⟨rfl, hb1⟩
    have HB1 := Lib.hid hb1; clear hb1
    go_wp2_with fail
    refine (new_any w1).mono ?_
    rintro e w2 ⟨tb, rfl, h2, hb2⟩
    have HB2 := Lib.hid hb2
    have HT2 := Lib.hid h2
    have hbase : w.heap.size ≤ w1.heap.size := HB1.out.size
    clear h2 hb2
    go_wp2_with fail
    go_loopw [4] (fun vi wr => ∃ i : Nat, i ≤ l.length ∧ vi = .int .i64 i ∧ Hid ((∃ J : List Fo, J.length = i ∧ Tab w1.heap.size wr tb (setsD l i) J i) ∧ Step w1.heap.size w2 wr)) (fun vi _ => l.length - (intOf vi).toNat)
    case atStart => exact ⟨0, Nat.zero_le _, rfl, ⟨[], rfl, HT2.out⟩, Step.refl _ _⟩
    case round =>
      obtain ⟨i, hi, rfl, HR⟩ := hrel
      rename World => W0
      have HBW : Hid (Below w.heap.size w W0) := HB1.out.trans ((HB2.out.trans HR.out.2.below).mono hbase)
      by_cases hlt : i < l.length
      · obtain ⟨⟨J, hJ, hT⟩, hS⟩ := HR.out
        obtain ⟨b, o, rfl, hc⟩ := HBm.out.below HBW.out HBm.out.lt (by omega)
        have c1 := hc i hlt
        have HS := Lib.hid hS
        have HX := Lib.hid (set_len hT l[i] (HE.out _ (List.getElem_mem hlt)) (i : Int) (WalkArith.wf_i64 (by omega)) (by omega) (by omega))
        have HD : Hid ((setsD l i).put (kl l[i]) (.lit (.int .i64 (i : Int))) = setsD l (i + 1)) := by show _ = _; rw [setsD, List.getD_eq_getElem?_getD, List.getElem?_eq_getElem hlt]; rfl
        have HJ := Lib.hid hJ
        rw [HD.out] at HX
        generalize l[i] = s at *
        clear hc hT hS hJ HR HD
        go_wp2_with fail
        refine HX.out.mono ?_
        rintro e w3 ⟨rfl, ⟨J', hj', h3⟩, s3⟩
        have HN : Hid ((∃ J : List Fo, J.length = i + 1 ∧ Tab w1.heap.size w3 tb (setsD l (i + 1)) J (i + 1)) ∧ Step w1.heap.size w2 w3) := ⟨⟨J', by rw [hj', HJ.out], h3⟩, HS.out.trans s3⟩
        clear h3 s3 HX c1 hj'
        go_wp2_with fail
        go_roundw
        case rel => exact ⟨i + 1, by omega, by go_num, HN.out⟩
        case measure => simp [intOf]; omega
      · obtain rfl : i = l.length := by omega
        obtain ⟨⟨J, hJ, hT⟩, hS⟩ := HR.out
        have HK := Lib.hid (keys_any hT (by omega))
        have hke : keysD (setsD l l.length) = rise l := by obtain ⟨mb, jv, h⟩ := hT; exact setsD_keys l h.map
        rw [hke] at HK
        have HSB := Lib.hid (HBm.out.below HBW.out HBm.out.lt)
        have HRL : Hid ((rise l).length ≤ 60) := by have := rise_len l; show _ ≤ _; omega
        clear hJ hT hS hke HR
        go_wp2_with fail
        refine HK.out.mono ?_
        rintro e w3 ⟨A3, c3, rfl, hs3, -, -, hb3⟩
        have HS3 := Lib.hid hs3; have HB3 := Lib.hid hb3
        clear hs3 hb3 HK
        go_wp2_with fail
        refine (rise_any B cb l (by omega) w3 (HSB.out.below HB3.out HSB.out.lt)).mono ?_
        rintro e w4 ⟨v4, rfl, hb4, A4, c4, rfl, hs4, -⟩
        have HS4 := Lib.hid hs4; have HS34 := Lib.hid (HS3.out.below hb4 HS3.out.lt)
        have HB4 : Hid (Below w.heap.size w w4) := HBW.out.trans ((HB3.out.trans (hb4.mono HB3.out.size)).mono HBW.out.size)
        clear hs4 hb4
        go_wp2_with fail
        refine (texts_below A3 A4 c3 c4 (rise l) (by have := HRL.out; omega) w4 HS34.out HS4.out).mono ?_
        rintro e w5 ⟨rfl, hb5⟩
        have HB5 : Hid (Below w.heap.size w w5) := HB4.out.trans (hb5.mono HB4.out.size)
        clear hb5
        go_wp2_with fail
        go_ret
        exact ⟨rfl, HB5.out⟩
  · have h60' : (60 : Int) < l.length := by omega
    go_enter Try.func6, Try.ntmps6
    go_wp2_with fail
    refine (undone_once w w (Below.refl _ _)).mono ?_
    rintro e w1 ⟨rfl, hb1⟩
    have HB1 := Lib.hid hb1; clear hb1
    go_wp2_with fail
    refine (undone_once w w1 HB1.out).mono ?_
    rintro e w2 ⟨rfl, hb2⟩
    have HB2 := Lib.hid hb2; clear hb2
    go_wp2_with fail
    go_ret
    exact ⟨rfl, HB2.out⟩
end Go.Proofs.Ytmblcccfpjmjfaa
