/- Rows of texts of one's own; the contract of the reference's Rise. -/
import Derived.Test.YtkmjknehbaofcaaNMath
import Derived.Test.YtkmjknehbaofcaaW4
namespace Go.Proofs.Ytkmjknehbaofcaa
open Go.RowKit BaseMath WireMath NameMath

theorem own_strs {w : World} {base : Nat} {v : Value} {n : Nat} {l : List (List By)} (h : w.ownsRow base 9 1 v n (l.map vs)) (hl : l.length = n) :
    ∃ A c, v = .slice A l.length c ∧ StrsIs w A l ∧ (A = none → c = 0) ∧ l.length ≤ c ∧ ∀ a, A = some a → base ≤ a.block ∧ a.block < w.heap.size := by
  rcases h.2 with ⟨hv, h0⟩ | ⟨g, cap, cur, hv, hg, hc, hn, _, hs, ht⟩
  · have : l = [] := List.eq_nil_of_length_eq_zero (by omega)
    subst this
    exact ⟨none, 0, hv, fun h => absurd h (by simp), fun _ => rfl, by simp, fun a ha => by cases ha⟩
  · rw [Nat.mul_one] at ht
    have hb : Blk w g 9 (l.map vs ++ cur.toList.drop n) := by rw [← ht, List.take_append_drop]; exact hc
    refine ⟨some ⟨g, 0, none⟩, cap, by rw [hv, hl], fun _ => ⟨g, 0, rfl, fun k hk => ?_⟩, (fun h => by cases h), by omega, fun a ha => ?_⟩
    · rw [Nat.zero_add, hb.cell, List.getElem?_append_left (by simpa using hk)]; simp [hk]
    · cases ha
      exact ⟨hg, hb.lt⟩
theorem RowRel.strs {w wr : World} {v : Value} {l : List (List By)} (h : RowRel w 9 (l.map vs) v wr) :
    ∃ A c, v = .slice A l.length c ∧ StrsIs wr A l ∧ (A = .none → c = 0) ∧ l.length ≤ c ∧ ∀ a, A = some a → w.heap.size ≤ a.block ∧ a.block < wr.heap.size :=
  own_strs (n := l.length) (by simpa using h.own) rfl
structure RiseRel (w : World) (T : List (List By)) (v : Value) (wr : World) : Prop where
  below : Below w.heap.size w wr
  row : ∃ A c, v = .slice A T.length c ∧ StrsIs wr A T ∧ (A = .none → c = 0)
structure InRel (W : World) (s : List By) (out : List (List By)) (k : Nat) (d : Bool) (v : Value) (wr : World) : Prop where
  row : ∃ acc : List (List By), RowRel W 9 (acc.map vs) v wr ∧ acc ++ insGo s d (out.drop k) = insS s out ∧ acc.length ≤ 2 * k
theorem InRel.start (W : World) (s : List By) (out : List (List By)) : InRel W s out 0 false (.slice none 0 0) W :=
  ⟨[], RowRel.none _ _, by rw [List.drop_zero, insGo_eq]; rfl, by simp⟩
/-- the flag tells: one more was laid -/
theorem push_acc {W wr : World} {acc : List (List By)} {x : List By} {v : Value} (h : RowRel W 9 ((acc.map vs) ++ [vs x]) v wr) : RowRel W 9 ((acc ++ [x]).map vs) v wr := by
  rw [List.map_append]; exact h
set_option maxHeartbeats 4000000 in
set_option maxRecDepth 100000 in
theorem rise_any (A : Option Addr) (c : Nat) (l : List (List By)) (hl : l.length ≤ 100000) (w : World) (hA : StrsIs w A l) :
    Calls Try.prog 33 #[.slice A l.length c] w fun e w' => ∃ v, e = .returned v ∧ RiseRel w (rise l) v w' := by
  have HA := Lib.hid hA; clear hA
  go_enter Try.func33, Try.ntmps33
  go_wp2_with fail
  go_loopw [3, 4] (fun v vi wr => ∃ i : Nat, i ≤ l.length ∧ vi = .int .i64 i ∧ Hid (RiseRel w (rise (l.take i)) v wr)) (fun _ vi _ => l.length - (intOf vi).toNat)
  case atStart => exact ⟨0, Nat.zero_le _, rfl, Below.refl _ _, none, 0, rfl, fun h => by simp [rise] at h, fun _ => rfl⟩
  case round =>
    obtain ⟨i, hi, rfl, HR⟩ := hrel
    rename World => W0
    by_cases hlt : i < l.length
    · obtain ⟨hb0, Ao, co, rfl, ho, hno⟩ := HR.out
      have HB0 := Lib.hid hb0; have HO := Lib.hid ho
      have HT := Lib.hid (rise_take l i hlt)
      have hol := rise_length l i hi
      obtain ⟨bs, os, hAs, hcs⟩ := HA.out (by omega)
      subst hAs
      have hcx := hcs i hlt
      have HCX : Hid (∀ W, Below W0.heap.size W0 W → W.cell? ⟨bs, os + i, none⟩ = some (vs l[i])) := fun W hW => by
        have hb := HB0.out.trans (hW.mono HB0.out.size)
        rw [hb.cell (p := ⟨bs, os + i, none⟩) (block_of_cell hcx)]; exact hcx
      generalize l[i] = s at *
      generalize rise (l.take i) = out at *
      clear HR hb0 ho hcs hcx
      have HI := Lib.hid (InRel.start W0 s out)
      go_wp2_with fail
      go_loopw [5, 6, 7] (fun v vd vk wr => ∃ (k : Nat) (d : Bool), k ≤ out.length ∧ vk = .int .i64 k ∧ vd = .bool d ∧ Hid (InRel W0 s out k d v wr)) (fun _ _ vk _ => out.length - (intOf vk).toNat)
      case atStart => exact ⟨0, false, Nat.zero_le _, rfl, rfl, HI.out⟩
      case round =>
        clear HI
        rename World => W1
        obtain ⟨k, d, hk, rfl, rfl, HI⟩ := hrel
        obtain ⟨acc, hrow, hacc, hal⟩ := HI.out
        have HROW := Lib.hid hrow; have HB1 := Lib.hid hrow.below
        by_cases hlk : k < out.length
        · obtain ⟨bo, oo, hAo, hco⟩ := HO.out (by omega)
          subst hAo
          have hcy := hco k hlk
          have HCY : Hid (∀ W, Below W0.heap.size W0 W → W.cell? ⟨bo, oo + k, none⟩ = some (vs out[k])) := fun W hW => by
            rw [hW.cell (p := ⟨bo, oo + k, none⟩) (block_of_cell hcy)]; exact hcy
          rw [List.drop_eq_getElem_cons hlk] at hacc
          have HS := Lib.hid (ins_step hacc)
          generalize out[k] = p at *
          clear hco hcy hrow hacc HI
          have x1 := HCX.out W1 HB1.out; have y1 := HCY.out W1 HB1.out
          have hlm : (acc.map vs).length ≤ 200001 := by rw [List.length_map]; omega
          cases d with
          | true =>
            have HS' : Hid ((acc ++ [p]) ++ insGo s true (out.drop (k + 1)) = insS s out) := by show _ = _; simpa using HS.out
            clear HS
            go_wp2_with fail
            go_quiet (fail)
            clear x1 y1
            have HROWa := Lib.hid (HROW.out.drewN nq)
            generalize W1.drewN nq = W2 at *
            clear HROW HB1
            have x2 := HCX.out W2 HROWa.out.below
            have y2 := HCY.out W2 HROWa.out.below
            go_wp2_with fail
            go_quiet (fail)
            clear x2 y2
            have HROWb := Lib.hid (HROWa.out.drewN nq)
            generalize W2.drewN nq = W3 at *
            clear HROWa
            have x3 := HCX.out W3 HROWb.out.below
            have y3 := HCY.out W3 HROWb.out.below
            go_wp2_with (refine wpList_push Try.underlying45 info9 rfl (by decide) rfl (.tmp 52) (.tmp 57) rfl HROWb.out rfl [vs p] 1 rfl rfl rfl (by omega) ?_)
            intro v' w' hr
            have HN : Hid (InRel W0 s out (k + 1) true v' w') := ⟨acc ++ [p], push_acc hr, HS'.out, by simp; omega⟩
            clear hr HS'
            go_wp2_with fail
            go_roundw
            case rel => exact ⟨k + 1, true, by omega, by go_num, rfl, HN.out⟩
            case measure => simp [intOf]; omega

          | false =>
            cases hbl : Op.bytesLess s p with
            | true =>
              have HS' : Hid (((acc ++ [s]) ++ [p]) ++ insGo s true (out.drop (k + 1)) = insS s out) := by
                have := HS.out; rw [hbl] at this; show _ = _; simpa using this
              clear HS
              go_wp2_with fail
              go_quiet (fail)
              clear x1 y1
              have HROWa := Lib.hid (HROW.out.drewN nq)
              generalize W1.drewN nq = W2 at *
              clear HROW HB1
              have x2 := HCX.out W2 HROWa.out.below
              have y2 := HCY.out W2 HROWa.out.below
              go_wp2_with (refine wpList_push Try.underlying45 info9 rfl (by decide) rfl (.tmp 33) (.tmp 38) rfl HROWa.out rfl [vs s] 1 rfl rfl rfl (by omega) ?_)
              intro v2 w2 hr2
              have HROWc : Hid (RowRel W0 9 ((acc ++ [s]).map vs) v2 w2) := push_acc hr2
              clear hr2 HROWa x2 y2 hbl
              have hlm2 : ((acc ++ [s]).map vs).length ≤ 200002 := by rw [List.length_map] at hlm ⊢; simp; omega
              have x4 := HCX.out w2 HROWc.out.below
              have y4 := HCY.out w2 HROWc.out.below
              go_wp2_with fail
              go_quiet (fail)
              clear x4 y4
              have HROWb := Lib.hid (HROWc.out.drewN nq)
              generalize w2.drewN nq = W3 at *
              clear HROWc
              have x3 := HCX.out W3 HROWb.out.below
              have y3 := HCY.out W3 HROWb.out.below
              go_wp2_with (refine wpList_push Try.underlying45 info9 rfl (by decide) rfl (.tmp 52) (.tmp 57) rfl HROWb.out rfl [vs p] 1 rfl rfl rfl (by omega) ?_)
              intro v' w' hr
              have HN : Hid (InRel W0 s out (k + 1) true v' w') := ⟨(acc ++ [s]) ++ [p], by simpa using hr, HS'.out, by simp; omega⟩
              clear hr HS'
              go_wp2_with fail
              go_roundw
              case rel => exact ⟨k + 1, true, by omega, by go_num, rfl, HN.out⟩
              case measure => simp [intOf]; omega

            | false =>
              cases heq : (s == p) with
              | true =>
                have HS' : Hid ((acc ++ [p]) ++ insGo s true (out.drop (k + 1)) = insS s out) := by
                  have := HS.out; rw [hbl, heq] at this; show _ = _; simpa using this
                clear HS
                go_wp2_with fail
                go_quiet (fail)
                clear x1 y1
                have HROWa := Lib.hid (HROW.out.drewN nq)
                generalize W1.drewN nq = W2 at *
                clear HROW HB1
                have x2 := HCX.out W2 HROWa.out.below
                have y2 := HCY.out W2 HROWa.out.below
                go_wp2_with fail
                go_quiet (fail)
                clear x2 y2
                have HROWb := Lib.hid (HROWa.out.drewN nq)
                generalize W2.drewN nq = W3 at *
                clear HROWa
                have x3 := HCX.out W3 HROWb.out.below
                have y3 := HCY.out W3 HROWb.out.below
                go_wp2_with (refine wpList_push Try.underlying45 info9 rfl (by decide) rfl (.tmp 52) (.tmp 57) rfl HROWb.out rfl [vs p] 1 rfl rfl rfl (by omega) ?_)
                intro v' w' hr
                have HN : Hid (InRel W0 s out (k + 1) true v' w') := ⟨acc ++ [p], push_acc hr, HS'.out, by simp; omega⟩
                clear hr HS'
                go_wp2_with fail
                go_roundw
                case rel => exact ⟨k + 1, true, by omega, by go_num, rfl, HN.out⟩
                case measure => simp [intOf]; omega

              | false =>
                have HS' : Hid ((acc ++ [p]) ++ insGo s false (out.drop (k + 1)) = insS s out) := by
                  have := HS.out; rw [hbl, heq] at this; show _ = _; simpa using this
                clear HS
                go_wp2_with fail
                go_quiet (fail)
                clear x1 y1
                have HROWa := Lib.hid (HROW.out.drewN nq)
                generalize W1.drewN nq = W2 at *
                clear HROW HB1
                have x2 := HCX.out W2 HROWa.out.below
                have y2 := HCY.out W2 HROWa.out.below
                go_wp2_with fail
                go_quiet (fail)
                clear x2 y2
                have HROWb := Lib.hid (HROWa.out.drewN nq)
                generalize W2.drewN nq = W3 at *
                clear HROWa
                have x3 := HCX.out W3 HROWb.out.below
                have y3 := HCY.out W3 HROWb.out.below
                go_wp2_with (refine wpList_push Try.underlying45 info9 rfl (by decide) rfl (.tmp 52) (.tmp 57) rfl HROWb.out rfl [vs p] 1 rfl rfl rfl (by omega) ?_)
                intro v' w' hr
                have HN : Hid (InRel W0 s out (k + 1) false v' w') := ⟨acc ++ [p], push_acc hr, HS'.out, by simp; omega⟩
                clear hr HS'
                go_wp2_with fail
                go_roundw
                case rel => exact ⟨k + 1, false, by omega, by go_num, rfl, HN.out⟩
                case measure => simp [intOf]; omega

        · obtain rfl : k = out.length := by omega
          rw [List.drop_length] at hacc
          have HS := Lib.hid (ins_end hacc)
          have hlm : (acc.map vs).length ≤ 200001 := by rw [List.length_map]; omega
          have HW : Hid (Below w.heap.size w W1) := HB0.out.trans (HB1.out.mono HB0.out.size)
          clear hrow hacc HI HA
          cases d with
          | true =>
            have HS' : Hid (acc = insS s out) := HS.out
            clear HS
            obtain ⟨Am, cm, rfl, hsm, hnm, -, -⟩ := HROW.out.strs
            have HF : Hid (RiseRel w (rise (l.take (i + 1))) (.slice Am acc.length cm) W1) := ⟨HW.out, Am, cm, by rw [HT.out, HS'.out], by rw [HT.out, ← HS'.out]; exact hsm, hnm⟩
            clear hsm hnm HROW HS' HT HB0 HB1 HCX
            go_wp2_with fail
            go_roundw
            case rel => exact ⟨i + 1, by omega, by go_num, HF.out⟩
            case measure => simp [intOf]; omega
          | false =>
            have HS' : Hid (acc ++ [s] = insS s out) := HS.out
            have x1 := HCX.out W1 HB1.out
            clear HS HCX HB1
            go_wp2_with (refine wpList_push Try.underlying45 info9 rfl (by decide) rfl (.tmp 61) (.tmp 66) rfl HROW.out rfl [vs s] 1 rfl rfl rfl (by omega) ?_)
            intro v' w' hr
            have HR2 : Hid (RowRel W0 9 ((acc ++ [s]).map vs) v' w') := push_acc hr
            have HW2 : Hid (Below w.heap.size w w') := HB0.out.trans (HR2.out.below.mono HB0.out.size)
            clear hr HROW x1 HW
            obtain ⟨Am, cm, rfl, hsm, hnm, -, -⟩ := HR2.out.strs
            have HF : Hid (RiseRel w (rise (l.take (i + 1))) (.slice Am (acc ++ [s]).length cm) w') := ⟨HW2.out, Am, cm, by rw [HT.out, HS'.out], by rw [HT.out, ← HS'.out]; exact hsm, hnm⟩
            clear hsm hnm HR2 HS' HT HB0
            generalize (acc ++ [s]).length = n at *
            go_wp2_with fail
            go_roundw
            case rel => exact ⟨i + 1, by omega, by go_num, HF.out⟩
            case measure => simp [intOf]; omega
    · obtain rfl : i = l.length := by omega
      have HR' := HR.out
      rw [rise_all] at HR'
      have HR2 := Lib.hid HR'
      clear HR HR'
      go_wp2_with fail
      go_ret
      exact ⟨_, rfl, HR2.out⟩
end Go.Proofs.Ytkmjknehbaofcaa
