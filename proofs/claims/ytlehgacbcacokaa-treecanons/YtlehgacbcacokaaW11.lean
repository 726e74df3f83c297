/- The contracts of the reference's Size and name. -/
import Derived.Test.YtlehgacbcacokaaW10
import Derived.Test.YtlehgacbcacokaaW4
namespace Go.Proofs.Ytlehgacbcacokaa
open Go.RowKit TreeMath RealMath

def sumN (ts : List T) (i : Nat) : Nat := ((ts.take i).map fun k => k.hd.data.length).sum
theorem sumN_succ (ts : List T) (i : Nat) (h : i < ts.length) : sumN ts (i + 1) = sumN ts i + ts[i].hd.data.length := by
  unfold sumN; rw [List.take_succ_eq_append_getElem h, List.map_append, List.sum_append]; simp
theorem sumN_all (ts : List T) : sumN ts ts.length = (ts.map fun k => k.hd.data.length).sum := by unfold sumN; rw [List.take_length]
theorem sumN_le (ts : List T) (i : Nat) : sumN ts i ≤ (ts.map fun k => k.hd.data.length).sum := by
  conv => rhs; rw [← List.take_append_drop i ts, List.map_append, List.sum_append]
  unfold sumN; omega
set_option maxHeartbeats 2000000 in
theorem rsize_any (x : Hd) (ks : List T) (top : Nat) (w : World) (htop : top ≤ w.heap.size) (hok : Ok w top (.mk x ks)) (hn : count (.mk x ks) ≤ 90000) (hz : size (.mk x ks) ≤ 1000000000) :
    Calls Try.prog 23 #[nv x ks.length] w fun e w' => e = .returned (.int .i64 (size (.mk x ks) : Nat)) ∧ Below w.heap.size w w' := by
  have HOK := Lib.hid hok
  have HN := Lib.hid hn
  have HZ : Hid (∀ i, sumN (all (.mk x ks)) i ≤ 1000000000) := fun i => Nat.le_trans (sumN_le _ i) hz
  have HZ' : Hid (sumN (all (.mk x ks)) (all (.mk x ks)).length = size (.mk x ks)) := by show _ = _; rw [sumN_all]; rfl
  have hcount : (all (.mk x ks)).length ≤ 90000 := hn
  have hpos : 0 < (all (.mk x ks)).length := count_pos (.mk x ks)
  clear hok hn hz
  go_enter Try.func23, Try.ntmps23
  go_wp2_with fail
  have hB : Below w.heap.size w (w.alloc (.cells #[vb x.kind, .slice x.na x.names.length x.nc, .slice x.ka ks.length x.kc, .slice x.da x.data.length x.dc, .bool x.run, .float .f64 x.stamp, vs x.target] 27)) := (Below.refl _ _).alloc (Nat.le_refl _) _
  refine (all_of top (.mk x ks) _ (Nat.le_trans htop hB.size) (HOK.out.keep (hB.mono htop)) HN.out).mono ?_
  rintro e w1 ⟨v, rfl, hnod, hb1⟩
  have HB1 : Hid (Below w.heap.size w w1) := hB.trans (hb1.mono hB.size)
  obtain ⟨g, c, rfl, -, -, hc, hcells, -⟩ := hnod.at hpos
  have HCE := Lib.hid hcells
  clear hB hb1 hnod hcells
  generalize all (.mk x ks) = ts at *
  go_wp2_with fail
  go_loop [3, 5] (fun vk vi => ∃ i k : Nat, i ≤ ts.length ∧ vi = .int .i64 i ∧ k ≤ 1000000000 ∧ vk = .int .i64 k ∧ Hid (k = sumN ts i)) (fun _ vi => ts.length - (intOf vi).toNat)
  case atStart => exact ⟨0, 0, Nat.zero_le _, rfl, by omega, rfl, Lib.hid (by simp [sumN])⟩
  case round =>
    obtain ⟨i, k, hi, rfl, hk9, rfl, HK⟩ := hrel
    by_cases hlt : i < ts.length
    · have hce := HCE.out i hlt
      have HS := Lib.hid (sumN_succ ts i hlt)
      have hle := HZ.out (i + 1)
      rw [HS.out, ← HK.out] at hle
      rw [← HK.out] at HS
      cases hti : ts[i] with
      | mk y ly =>
        rw [hti] at hce hle HS
        obtain ⟨a0, a1, a2, a3, a4, a5, a6⟩ := CellsAt.seven (x := y) (n := ly.length) hce
        have hle' : k + y.data.length ≤ 1000000000 := hle
        have HS' : Hid (sumN ts (i + 1) = k + y.data.length) := HS.out
        clear hti hce hle HK HS
        go_wp2_with fail
        go_round
        case rel => exact ⟨i + 1, k + y.data.length, by omega, by go_num, by omega, by go_num, HS'.out.symm⟩
        case measure => simp [intOf]; omega
    · obtain rfl : i = ts.length := by omega
      go_wp2_with fail
      go_ret
      exact ⟨ret_int (by rw [← HZ'.out, HK.out]), HB1.out⟩
theorem ba_size (s : List By) : (⟨s.toArray⟩ : ByteArray).size = s.length := by simp [ByteArray.size]
theorem ba_get {s : List By} {i : Nat} (h : i < (⟨s.toArray⟩ : ByteArray).size) : (⟨s.toArray⟩ : ByteArray)[i]'h = s[i]'(by rw [ba_size] at h; exact h) := rfl
attribute [go_sem] ba_get
set_option maxHeartbeats 2000000 in
theorem refname_any (s : List By) (hs : s.length ≤ maxLen) (w : World) : Calls Try.prog 82 #[vs s] w fun e w' => e = .returned (.bool (nameOk s)) ∧ w = w' := by
  unfold maxLen at hs
  by_cases h1 : 1 ≤ s.length
  · by_cases h2 : s.length ≤ 40
    · have h1' : ¬ (s.length : Int) < 1 := by omega
      have h2' : ¬ (40 : Int) < s.length := by omega
      have HE : Hid (nameOk s = (!(s.any (· == 0)) && !(s.any (· == 47)) && !(s == [46]) && !(s == [46, 46]))) := by
        show _ = _; unfold nameOk; rw [decide_eq_true h1, decide_eq_true h2]; rfl
      cases h3 : (s == [46]) with
      | true =>
        have HE' : Hid (nameOk s = false) := by show _ = _; rw [HE.out, h3]; simp
        clear HE
        go_enter Try.func82, Try.ntmps82
        go_wp2_with fail
        go_ret
        exact ⟨by rw [HE'.out]; rfl, rfl⟩
      | false =>
        cases h4 : (s == [46, 46]) with
        | true =>
          have HE' : Hid (nameOk s = false) := by show _ = _; rw [HE.out, h4]; simp
          clear HE
          go_enter Try.func82, Try.ntmps82
          go_wp2_with fail
          go_ret
          exact ⟨by rw [HE'.out]; rfl, rfl⟩
        | false =>
          have HE' : Hid (nameOk s = (!(s.any (· == 0)) && !(s.any (· == 47)))) := by show _ = _; rw [HE.out, h3, h4]; simp
          clear HE
          go_enter Try.func82, Try.ntmps82
          go_wp2_with fail
          go_loop [3] (fun vi => ∃ i : Nat, i ≤ s.length ∧ vi = .int .i64 i ∧ Hid (∀ j (h : j < s.length), j < i → s[j] ≠ 0 ∧ s[j] ≠ 47)) (fun vi => s.length - (intOf vi).toNat)
          case atStart => exact ⟨0, Nat.zero_le _, rfl, fun j _ h => by omega⟩
          case round =>
            obtain ⟨i, hi, rfl, HP⟩ := hrel
            by_cases hlt : i < s.length
            · have HF : Hid (s[i] = 0 ∨ s[i] = 47 → nameOk s = false) := fun h => by
                rw [HE'.out]
                rcases h with h | h
                · rw [show s.any (· == 0) = true from List.any_eq_true.2 ⟨s[i], List.getElem_mem hlt, by simp [h]⟩]; rfl
                · rw [show s.any (· == 47) = true from List.any_eq_true.2 ⟨s[i], List.getElem_mem hlt, by simp [h]⟩]; simp
              have HT : Hid (s[i] ≠ 0 ∧ s[i] ≠ 47 → ∀ j (h : j < s.length), j < i + 1 → s[j] ≠ 0 ∧ s[j] ≠ 47) := fun h j hj hji => by
                by_cases e : j = i
                · subst e; exact h
                · exact HP.out j hj (by omega)
              clear HP
              by_cases e0 : s[i] = 0
              · have e0' : ((s[i].toNat : Int) == 0) = true := by rw [e0]; rfl
                have HF' := Lib.hid (HF.out (Or.inl e0))
                clear HF HT e0
                go_wp2_with fail
                go_ret
                exact ⟨by rw [HF'.out]; rfl, rfl⟩
              · have e0' : ((s[i].toNat : Int) == 0) = false := by rw [show (0 : Int) = ((0 : By).toNat : Int) from rfl, vb_eq]; exact decide_eq_false e0
                by_cases e1 : s[i] = 47
                · have e1' : ((s[i].toNat : Int) == 47) = true := by rw [e1]; rfl
                  have HF' := Lib.hid (HF.out (Or.inr e1))
                  clear HF HT e0 e1
                  go_wp2_with fail
                  go_ret
                  exact ⟨by rw [HF'.out]; rfl, rfl⟩
                · have e1' : ((s[i].toNat : Int) == 47) = false := by rw [show (47 : Int) = ((47 : By).toNat : Int) from rfl, vb_eq]; exact decide_eq_false e1
                  have HT' := Lib.hid (HT.out ⟨e0, e1⟩)
                  clear HF HT e0 e1
                  go_wp2_with fail
                  go_round
                  case rel => exact ⟨i + 1, by omega, by go_num, HT'.out⟩
                  case measure => simp [intOf]; omega
            · have HT : Hid (nameOk s = true) := by
                show _ = _
                rw [HE'.out]
                have g0 : s.any (· == 0) = false := by
                  rw [List.any_eq_false]; intro b hb
                  obtain ⟨j, hj, rfl⟩ := List.getElem_of_mem hb
                  simp [(HP.out j hj (by omega)).1]
                have g1 : s.any (· == 47) = false := by
                  rw [List.any_eq_false]; intro b hb
                  obtain ⟨j, hj, rfl⟩ := List.getElem_of_mem hb
                  simp [(HP.out j hj (by omega)).2]
                rw [g0, g1]; rfl
              obtain rfl : i = s.length := by omega
              clear HP
              go_wp2_with fail
              go_ret
              exact ⟨by rw [HT.out]; rfl, rfl⟩
    · have HE : Hid (nameOk s = false) := by show _ = _; unfold nameOk; rw [decide_eq_false h2]; simp
      have h1' : ¬ (s.length : Int) < 1 := by omega
      have h2' : (40 : Int) < s.length := by omega
      go_enter Try.func82, Try.ntmps82
      go_wp2_with fail
      go_ret
      exact ⟨by rw [HE.out]; rfl, rfl⟩
  · have HE : Hid (nameOk s = false) := by show _ = _; unfold nameOk; rw [decide_eq_false h1]; simp
    have h1' : (s.length : Int) < 1 := by omega
    go_enter Try.func82, Try.ntmps82
    go_wp2_with fail
    go_ret
    exact ⟨by rw [HE.out]; rfl, rfl⟩
end Go.Proofs.Ytlehgacbcacokaa
