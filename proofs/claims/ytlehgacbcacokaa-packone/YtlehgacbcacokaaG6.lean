/- The contracts of strings.IndexByte, rightName and rightNames. -/
import Derived.Test.YtlehgacbcacokaaG5
import Derived.Laws.Externs
import Derived.Laws.Runes
namespace Go.Proofs.Ytlehgacbcacokaa
open Go.RowKit TreeMath RealMath

theorem run_index (s : ByteArray) (c : Int) (w : World) : (callFunc 119 #[.string s, .int .u8 c]).run Try.prog w = .ok (.value (.int .i64 (firstIdx s c.toNat.toUInt8))) w := by
  rw [run_callFunc_extern Try.func119 (by kernel_rfl) (by kernel_rfl) (by kernel_rfl) (e := Extern.BytealgIndexByte.indexByte) (by kernel_rfl), run_indexByte_string]
  rfl
attribute [go_sem] run_index
theorem inner_any (s : ByteArray) (c : By) (w : World) :
    Calls Try.prog 115 #[.string s, vb c] w fun e w' => e = .returned (.int .i64 (firstIdx s c)) ∧ w = w' := by
  go_enter Try.func115, Try.ntmps115
  go_wp2
  go_ret
  refine ⟨ret_int ?_, rfl⟩
  simp
theorem index_any (s : ByteArray) (c : By) (w : World) :
    Calls Try.prog 114 #[.string s, vb c] w fun e w' => e = .returned (.int .i64 (firstIdx s c)) ∧ w = w' := by
  go_enter Try.func114, Try.ntmps114
  go_wp2_with fail
  refine (inner_any s c w).mono ?_
  rintro e w1 ⟨rfl, rfl⟩
  go_wp2
  go_ret
  exact ⟨rfl, rfl⟩
theorem firstIdx_neg (s : List By) (c : By) : decide (firstIdx ⟨s.toArray⟩ c < 0) = !(s.any (· == c)) := by
  have h := firstIdx_nonneg ⟨s.toArray⟩ c
  simp only at h
  rw [← h]
  by_cases e : firstIdx ⟨s.toArray⟩ c < 0
  · rw [decide_eq_true e, decide_eq_false (by omega)]; rfl
  · rw [decide_eq_false e, decide_eq_true (by omega)]; rfl
set_option maxHeartbeats 2000000 in
theorem rname_any (s : List By) (w : World) : Calls Try.prog 106 #[vs s] w fun e w' => e = .returned (.bool (nameOk s)) ∧ w = w' := by
  by_cases h1 : 1 ≤ s.length
  · by_cases h2 : s.length ≤ 40
    · have HE : Hid (nameOk s = (!(s.any (· == 0)) && !(s.any (· == 47)) && !(s == [46]) && !(s == [46, 46]))) := by
        show _ = _; unfold nameOk; rw [decide_eq_true h1, decide_eq_true h2]; rfl
      have h1' : (1 : Int) ≤ s.length := by omega
      have h2' : (s.length : Int) ≤ 40 := by omega
      go_enter Try.func106, Try.ntmps106
      go_wp2_with fail
      refine (index_any ⟨s.toArray⟩ 0 w).mono ?_
      rintro e w1 ⟨rfl, rfl⟩
      have i0 := firstIdx_neg s 0
      generalize firstIdx ⟨s.toArray⟩ 0 = n0 at *
      rw [← i0] at HE
      clear i0
      by_cases h3 : n0 < 0
      · rw [decide_eq_true h3] at HE
        go_wp2_with fail
        refine (index_any ⟨s.toArray⟩ 47 w).mono ?_
        rintro e w1 ⟨rfl, rfl⟩
        have i1 := firstIdx_neg s 47
        generalize firstIdx ⟨s.toArray⟩ 47 = n1 at *
        rw [← i1] at HE
        clear i1
        by_cases h4 : n1 < 0
        · rw [decide_eq_true h4] at HE
          by_cases h5 : (s == [46]) = true
          · rw [h5] at HE
            go_wp2_with fail
            go_ret
            exact ⟨by rw [HE.out]; rfl, rfl⟩
          · have h5' : (s == [46]) = false := by simpa using h5
            rw [h5'] at HE
            clear h5
            by_cases h6 : (s == [46, 46]) = true
            · rw [h6] at HE
              go_wp2_with fail
              go_ret
              exact ⟨by rw [HE.out]; rfl, rfl⟩
            · have h6' : (s == [46, 46]) = false := by simpa using h6
              rw [h6'] at HE
              clear h6
              go_wp2_with fail
              go_ret
              exact ⟨by rw [HE.out]; rfl, rfl⟩
        · rw [decide_eq_false h4] at HE
          go_wp2_with fail
          go_ret
          exact ⟨by rw [HE.out]; rfl, rfl⟩
      · rw [decide_eq_false h3] at HE
        go_wp2_with fail
        go_ret
        exact ⟨by rw [HE.out]; rfl, rfl⟩
    · have HE : Hid (nameOk s = false) := by show _ = _; unfold nameOk; rw [decide_eq_false h2]; simp
      have h1' : (1 : Int) ≤ s.length := by omega
      have h2' : ¬ (s.length : Int) ≤ 40 := by omega
      go_enter Try.func106, Try.ntmps106
      go_wp2_with fail
      go_ret
      exact ⟨by rw [HE.out]; rfl, rfl⟩
  · have HE : Hid (nameOk s = false) := by show _ = _; unfold nameOk; rw [decide_eq_false h1]; simp
    have h1' : ¬ (1 : Int) ≤ s.length := by omega
    go_enter Try.func106, Try.ntmps106
    go_wp2_with fail
    go_ret
    exact ⟨by rw [HE.out]; rfl, rfl⟩
set_option maxHeartbeats 2000000 in
theorem names_any (A : Option Addr) (c : Nat) (ls : List (List By)) (hl : ls.length ≤ maxLen) (w : World) (hA : StrsIs w A ls) :
    Calls Try.prog 80 #[.slice A ls.length c] w fun e w' => e = .returned (.bool (namesOk ls)) ∧ w = w' := by
  have HA := Lib.hid hA
  clear hA
  unfold maxLen at hl
  go_enter Try.func80, Try.ntmps80
  go_wp2_with fail
  go_loop [7] (fun vi => ∃ k : Nat, k ≤ ls.length ∧ vi = .int .i64 k ∧ Hid (∀ j, j < k → goodAt ls j = true)) (fun vi => ls.length - (intOf vi).toNat)
  case atStart => exact ⟨0, Nat.zero_le _, rfl, fun j h => by omega⟩
  case round =>
    obtain ⟨k, hk, rfl, HP⟩ := hrel
    by_cases hlt : k < ls.length
    · obtain ⟨a, oa, rfl, ha⟩ := HA.out (by omega)
      have c1 : w.cell? ⟨a, oa + k, none⟩ = some (vs (ls[k]'(by omega))) := ha k (by omega)
      have HNE : Hid (goodAt ls k = false → namesOk ls = false) := fun h => namesOk_false k hlt h
      have HEQ : Hid (goodAt ls k = true → ∀ j, j < k + 1 → goodAt ls j = true) := fun h j hj => by
        by_cases e : j = k
        · subst e; exact h
        · exact HP.out j (by omega)
      clear HP
      by_cases h0 : 0 < k
      · have c2 : w.cell? ⟨a, oa + (k - 1), none⟩ = some (vs (ls[k - 1]'(by omega))) := ha (k - 1) (by omega)
        rw [goodAt_pos ls k h0 hlt] at HNE HEQ
        have h0' : (0 : Int) < k := by omega
        generalize ls[k]'(by omega) = x at *
        generalize ls[k - 1]'(by omega) = y at *
        clear HA ha
        go_wp2_with fail
        refine (rname_any x w).mono ?_
        rintro e w1 ⟨rfl, rfl⟩
        generalize nameOk x = b at *
        cases b with
        | false =>
          have HF := Lib.hid (HNE.out rfl)
          clear HNE HEQ
          go_wp2_with fail
          go_ret
          exact ⟨by rw [HF.out]; rfl, rfl⟩
        | true =>
          cases hbl : Op.bytesLess y x with
          | false =>
            rw [hbl] at HNE HEQ
            have HF := Lib.hid (HNE.out rfl)
            clear HNE HEQ
            go_wp2_with fail
            go_ret
            exact ⟨by rw [HF.out]; rfl, rfl⟩
          | true =>
            rw [hbl] at HNE HEQ
            have HT := Lib.hid (HEQ.out rfl)
            clear HNE HEQ
            go_wp2_with fail
            go_round
            case rel => exact ⟨k + 1, by omega, by go_num, HT.out⟩
            case measure => simp [intOf]; omega
      · obtain rfl : k = 0 := by omega
        rw [Nat.add_zero] at c1
        rw [goodAt_zero ls hlt] at HNE HEQ
        generalize ls[0]'(by omega) = x at *
        clear HA ha
        go_wp2_with fail
        refine (rname_any x w).mono ?_
        rintro e w1 ⟨rfl, rfl⟩
        generalize nameOk x = b at *
        cases b with
        | false =>
          have HF := Lib.hid (HNE.out rfl)
          clear HNE HEQ
          go_wp2_with fail
          go_ret
          exact ⟨by rw [HF.out]; rfl, rfl⟩
        | true =>
          have HT := Lib.hid (HEQ.out rfl)
          clear HNE HEQ
          go_wp2_with fail
          go_round
          case rel => exact ⟨1, by omega, by go_num, HT.out⟩
          case measure => simp [intOf]; omega
    · have HT : Hid (namesOk ls = true) := namesOk_true (fun j hj => HP.out j (by omega))
      obtain rfl : k = ls.length := by omega
      clear HP
      go_wp2_with fail
      go_ret
      exact ⟨by rw [HT.out]; rfl, rfl⟩
end Go.Proofs.Ytlehgacbcacokaa

/- The contracts of the reference's Size and name. -/
namespace Go.Proofs.Ytlehgacbcacokaa
open Go.RowKit TreeMath RealMath

def sumN (ts : List T) (i : Nat) : Nat := ((ts.take i).map fun k => k.hd.data.length).sum
theorem sumN_succ (ts : List T) (i : Nat) (h : i < ts.length) : sumN ts (i + 1) = sumN ts i + ts[i].hd.data.length := by
  unfold sumN; rw [List.take_succ_eq_append_getElem h, List.map_append, List.sum_append]; simp
theorem sumN_all (ts : List T) : sumN ts ts.length = (ts.map fun k => k.hd.data.length).sum := by unfold sumN; rw [List.take_length]
theorem sumN_le (ts : List T) (i : Nat) : sumN ts i ≤ (ts.map fun k => k.hd.data.length).sum := by
  conv => rhs; rw [← List.take_append_drop i ts, List.map_append, List.sum_append]
  unfold sumN; omega
set_option maxHeartbeats 2000000 in
theorem rsize_any (x : Hd) (ks : List T) (top : Nat) (w : World) (htop : top ≤ w.heap.size) (hok : Ok w top (.mk x ks)) (hn : count (.mk x ks) ≤ 90000) (hz : size (.mk x ks) ≤ 1000000000) :
    Calls Try.prog 23 #[nv x ks.length] w fun e w' => e = .returned (.int .i64 (size (.mk x ks) : Nat)) ∧ Below w.heap.size w w' := by
  have HOK := Lib.hid hok
  have HN := Lib.hid hn
  have HZ : Hid (∀ i, sumN (all (.mk x ks)) i ≤ 1000000000) := fun i => Nat.le_trans (sumN_le _ i) hz
  have HZ' : Hid (sumN (all (.mk x ks)) (all (.mk x ks)).length = size (.mk x ks)) := by show _ = _; rw [sumN_all]; rfl
  have hcount : (all (.mk x ks)).length ≤ 90000 := hn
  have hpos : 0 < (all (.mk x ks)).length := count_pos (.mk x ks)
  clear hok hn hz
  go_enter Try.func23, Try.ntmps23
  go_wp2_with fail
  have hB : Below w.heap.size w (w.alloc (.cells #[vb x.kind, .slice x.na x.names.length x.nc, .slice x.ka ks.length x.kc, .slice x.da x.data.length x.dc, .bool x.run, .float .f64 x.stamp, vs x.target] 27)) := (Below.refl _ _).alloc (Nat.le_refl _) _
  refine (all_of top (.mk x ks) _ (Nat.le_trans htop hB.size) (HOK.out.keep (hB.mono htop)) HN.out).mono ?_
  rintro e w1 ⟨v, rfl, hnod, hb1⟩
  have HB1 : Hid (Below w.heap.size w w1) := hB.trans (hb1.mono hB.size)
  obtain ⟨g, c, rfl, -, -, hc, hcells, -⟩ := hnod.at hpos
  have HCE := Lib.hid hcells
  clear hB hb1 hnod hcells
  generalize all (.mk x ks) = ts at *
  go_wp2_with fail
  go_loop [3, 5] (fun vk vi => ∃ i k : Nat, i ≤ ts.length ∧ vi = .int .i64 i ∧ k ≤ 1000000000 ∧ vk = .int .i64 k ∧ Hid (k = sumN ts i)) (fun _ vi => ts.length - (intOf vi).toNat)
  case atStart => exact ⟨0, 0, Nat.zero_le _, rfl, by omega, rfl, Lib.hid (by simp [sumN])⟩
  case round =>
    obtain ⟨i, k, hi, rfl, hk9, rfl, HK⟩ := hrel
    by_cases hlt : i < ts.length
    · have hce := HCE.out i hlt
      have HS := Lib.hid (sumN_succ ts i hlt)
      have hle := HZ.out (i + 1)
      rw [HS.out, ← HK.out] at hle
      rw [← HK.out] at HS
      cases hti : ts[i] with
      | mk y ly =>
        rw [hti] at hce hle HS
        obtain ⟨a0, a1, a2, a3, a4, a5, a6⟩ := CellsAt.seven (x := y) (n := ly.length) hce
        have hle' : k + y.data.length ≤ 1000000000 := hle
        have HS' : Hid (sumN ts (i + 1) = k + y.data.length) := HS.out
        clear hti hce hle HK HS
        go_wp2_with fail
        go_round
        case rel => exact ⟨i + 1, k + y.data.length, by omega, by go_num, by omega, by go_num, HS'.out.symm⟩
        case measure => simp [intOf]; omega
    · obtain rfl : i = ts.length := by omega
      go_wp2_with fail
      go_ret
      exact ⟨ret_int (by rw [← HZ'.out, HK.out]), HB1.out⟩
theorem ba_size (s : List By) : (⟨s.toArray⟩ : ByteArray).size = s.length := by simp [ByteArray.size]
theorem ba_get {s : List By} {i : Nat} (h : i < (⟨s.toArray⟩ : ByteArray).size) : (⟨s.toArray⟩ : ByteArray)[i]'h = s[i]'(by rw [ba_size] at h; exact h) := rfl
attribute [go_sem] ba_get
set_option maxHeartbeats 2000000 in
theorem refname_any (s : List By) (hs : s.length ≤ maxLen) (w : World) : Calls Try.prog 82 #[vs s] w fun e w' => e = .returned (.bool (nameOk s)) ∧ w = w' := by
  unfold maxLen at hs
  by_cases h1 : 1 ≤ s.length
  · by_cases h2 : s.length ≤ 40
    · have h1' : ¬ (s.length : Int) < 1 := by omega
      have h2' : ¬ (40 : Int) < s.length := by omega
      have HE : Hid (nameOk s = (!(s.any (· == 0)) && !(s.any (· == 47)) && !(s == [46]) && !(s == [46, 46]))) := by
        show _ = _; unfold nameOk; rw [decide_eq_true h1, decide_eq_true h2]; rfl
      cases h3 : (s == [46]) with
      | true =>
        have HE' : Hid (nameOk s = false) := by show _ = _; rw [HE.out, h3]; simp
        clear HE
        go_enter Try.func82, Try.ntmps82
        go_wp2_with fail
        go_ret
        exact ⟨by rw [HE'.out]; rfl, rfl⟩
      | false =>
        cases h4 : (s == [46, 46]) with
        | true =>
          have HE' : Hid (nameOk s = false) := by show _ = _; rw [HE.out, h4]; simp
          clear HE
          go_enter Try.func82, Try.ntmps82
          go_wp2_with fail
          go_ret
          exact ⟨by rw [HE'.out]; rfl, rfl⟩
        | false =>
          have HE' : Hid (nameOk s = (!(s.any (· == 0)) && !(s.any (· == 47)))) := by show _ = _; rw [HE.out, h3, h4]; simp
          clear HE
          go_enter Try.func82, Try.ntmps82
          go_wp2_with fail
          go_loop [3] (fun vi => ∃ i : Nat, i ≤ s.length ∧ vi = .int .i64 i ∧ Hid (∀ j (h : j < s.length), j < i → s[j] ≠ 0 ∧ s[j] ≠ 47)) (fun vi => s.length - (intOf vi).toNat)
          case atStart => exact ⟨0, Nat.zero_le _, rfl, fun j _ h => by omega⟩
          case round =>
            obtain ⟨i, hi, rfl, HP⟩ := hrel
            by_cases hlt : i < s.length
            · have HF : Hid (s[i] = 0 ∨ s[i] = 47 → nameOk s = false) := fun h => by
                rw [HE'.out]
                rcases h with h | h
                · rw [show s.any (· == 0) = true from List.any_eq_true.2 ⟨s[i], List.getElem_mem hlt, by simp [h]⟩]; rfl
                · rw [show s.any (· == 47) = true from List.any_eq_true.2 ⟨s[i], List.getElem_mem hlt, by simp [h]⟩]; simp
              have HT : Hid (s[i] ≠ 0 ∧ s[i] ≠ 47 → ∀ j (h : j < s.length), j < i + 1 → s[j] ≠ 0 ∧ s[j] ≠ 47) := fun h j hj hji => by
                by_cases e : j = i
                · subst e; exact h
                · exact HP.out j hj (by omega)
              clear HP
              by_cases e0 : s[i] = 0
              · have e0' : ((s[i].toNat : Int) == 0) = true := by rw [e0]; rfl
                have HF' := Lib.hid (HF.out (Or.inl e0))
                clear HF HT e0
                go_wp2_with fail
                go_ret
                exact ⟨by rw [HF'.out]; rfl, rfl⟩
              · have e0' : ((s[i].toNat : Int) == 0) = false := by rw [show (0 : Int) = ((0 : By).toNat : Int) from rfl, vb_eq]; exact decide_eq_false e0
                by_cases e1 : s[i] = 47
                · have e1' : ((s[i].toNat : Int) == 47) = true := by rw [e1]; rfl
                  have HF' := Lib.hid (HF.out (Or.inr e1))
                  clear HF HT e0 e1
                  go_wp2_with fail
                  go_ret
                  exact ⟨by rw [HF'.out]; rfl, rfl⟩
                · have e1' : ((s[i].toNat : Int) == 47) = false := by rw [show (47 : Int) = ((47 : By).toNat : Int) from rfl, vb_eq]; exact decide_eq_false e1
                  have HT' := Lib.hid (HT.out ⟨e0, e1⟩)
                  clear HF HT e0 e1
                  go_wp2_with fail
                  go_round
                  case rel => exact ⟨i + 1, by omega, by go_num, HT'.out⟩
                  case measure => simp [intOf]; omega
            · have HT : Hid (nameOk s = true) := by
                show _ = _
                rw [HE'.out]
                have g0 : s.any (· == 0) = false := by
                  rw [List.any_eq_false]; intro b hb
                  obtain ⟨j, hj, rfl⟩ := List.getElem_of_mem hb
                  simp [(HP.out j hj (by omega)).1]
                have g1 : s.any (· == 47) = false := by
                  rw [List.any_eq_false]; intro b hb
                  obtain ⟨j, hj, rfl⟩ := List.getElem_of_mem hb
                  simp [(HP.out j hj (by omega)).2]
                rw [g0, g1]; rfl
              obtain rfl : i = s.length := by omega
              clear HP
              go_wp2_with fail
              go_ret
              exact ⟨by rw [HT.out]; rfl, rfl⟩
    · have HE : Hid (nameOk s = false) := by show _ = _; unfold nameOk; rw [decide_eq_false h2]; simp
      have h1' : ¬ (s.length : Int) < 1 := by omega
      have h2' : (40 : Int) < s.length := by omega
      go_enter Try.func82, Try.ntmps82
      go_wp2_with fail
      go_ret
      exact ⟨by rw [HE.out]; rfl, rfl⟩
  · have HE : Hid (nameOk s = false) := by show _ = _; unfold nameOk; rw [decide_eq_false h1]; simp
    have h1' : (s.length : Int) < 1 := by omega
    go_enter Try.func82, Try.ntmps82
    go_wp2_with fail
    go_ret
    exact ⟨by rw [HE.out]; rfl, rfl⟩
end Go.Proofs.Ytlehgacbcacokaa
