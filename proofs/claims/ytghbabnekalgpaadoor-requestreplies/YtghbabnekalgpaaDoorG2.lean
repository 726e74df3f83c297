/- Are two rows of bytes, or of texts, the same? The contracts of the reference's Bytes and Texts, of bytes.Equal and slices.Equal, for any two. -/
import Derived.Test.YtghbabnekalgpaaDoorW11
import Derived.BigQuiet
namespace Go.Proofs.YtghbabnekalgpaaDoor
open Go.RowKit BaseMath WireMath

theorem take_ne {α : Type} {l m : List α} (h : l.length = m.length) (k : Nat) (hk : k < l.length) (hne : l[k] ≠ m[k]) : l ≠ m := fun e => by subst e; exact hne rfl
theorem all_eq {α : Type} {l m : List α} (h : l.length = m.length) (ha : ∀ i (h1 : i < l.length) (h2 : i < m.length), l[i] = m[i]) : l = m := List.ext_getElem h (fun i h1 h2 => ha i h1 h2)
set_option maxHeartbeats 1000000 in
set_option maxRecDepth 100000 in
theorem bytes_dec (A B : Option Addr) (ca cb : Nat) (l m : List By) (hl : l.length ≤ 100000) (hm : m.length ≤ 100000) (w : World) (hA : SrcIs w A l) (hB : SrcIs w B m) :
    Calls Tryd.prog 16 #[.slice A l.length ca, .slice B m.length cb] w fun e w' => e = .returned (.bool (decide (l = m))) ∧ ∃ q, w' = w.drewN q := by
  have HA := Lib.hid hA; have HB := Lib.hid hB
  clear hA hB
  by_cases hlen : l.length = m.length
  · have HLM := Lib.hid hlen
    rw [← hlen]
    clear hlen
    go_enter Tryd.func16, Tryd.ntmps16
    go_wp2_with fail
    go_loopw [5] (fun vi wr => ∃ k : Nat, k ≤ l.length ∧ vi = .int .i64 k ∧ Hid (∃ q, wr = w.drewN q) ∧ Hid (∀ i (h1 : i < l.length) (h2 : i < m.length), i < k → l[i] = m[i])) (fun vi _ => l.length - (intOf vi).toNat)
    case atStart => exact ⟨0, Nat.zero_le _, rfl, ⟨0, rfl⟩, fun i _ _ h => absurd h (by omega)⟩
    case round =>
      obtain ⟨k, hk, rfl, HR, HE⟩ := hrel
      rename World => W0
      by_cases hlt : k < l.length
      · have hlm : k < m.length := by rw [← HLM.out]; exact hlt
        obtain ⟨a, oa, rfl, ha⟩ := HA.out (by omega)
        obtain ⟨b, ob, rfl, hb⟩ := HB.out (by omega)
        obtain ⟨q, rfl⟩ := HR.out
        have c1 : w.cell? ⟨a, oa + k, none⟩ = some (vb l[k]) := ha k hlt
        have c2 : w.cell? ⟨b, ob + k, none⟩ = some (vb m[k]) := hb k hlm
        by_cases he : l[k] = m[k]
        · have HN : Hid (∀ i (h1 : i < l.length) (h2 : i < m.length), i < k + 1 → l[i] = m[i]) := fun i h1 h2 h => by
            by_cases e : i < k
            · exact HE.out i h1 h2 e
            · obtain rfl : i = k := by omega
              exact he
          rw [← he] at c2
          generalize l[k] = x at *
          clear ha hb HA HB HR HE he
          go_wp2_with fail
          go_quiet (fail)
          go_wp2_with fail
          go_roundw
          case rel => exact ⟨k + 1, by omega, by go_num, ⟨_, rfl⟩, HN.out⟩
          case measure => simp [intOf]; omega
        · have HF : Hid (decide (l = m) = false) := decide_eq_false (take_ne HLM.out k hlt he)
          have hx : ((l[k].toNat : Int) != (m[k].toNat : Int)) = true := by
            rw [bne_iff_ne]; intro e; exact he (UInt8.toNat_inj.1 (by omega))
          generalize l[k] = x at *
          generalize m[k] = y at *
          clear ha hb HA HB HR HE he
          go_wp2_with fail
          go_quiet (fail)
          go_wp2_with fail
          go_ret
          exact ⟨by rw [HF.out]; rfl, q + nq, by simp⟩
      · obtain rfl : k = l.length := by omega
        have HF : Hid (decide (l = m) = true) := decide_eq_true (all_eq HLM.out (fun i h1 h2 => HE.out i h1 h2 h1))
        clear HE
        go_wp2_with fail
        go_ret
        exact ⟨by rw [HF.out]; rfl, HR.out⟩
  · have HF : Hid (decide (l = m) = false) := decide_eq_false (fun e => hlen (by rw [e]))
    have hx : ((l.length : Int) != (m.length : Int)) = true := by rw [bne_iff_ne]; omega
    clear hlen
    go_enter Tryd.func16, Tryd.ntmps16
    go_wp2_with fail
    go_ret
    exact ⟨by rw [HF.out]; rfl, 0, rfl⟩
set_option maxHeartbeats 1000000 in
set_option maxRecDepth 100000 in
theorem texts_dec (A B : Option Addr) (ca cb : Nat) (l m : List (List By)) (hl : l.length ≤ 100000) (hm : m.length ≤ 100000) (w : World) (hA : StrsIs w A l) (hB : StrsIs w B m) :
    Calls Tryd.prog 53 #[.slice A l.length ca, .slice B m.length cb] w fun e w' => e = .returned (.bool (decide (l = m))) ∧ ∃ q, w' = w.drewN q := by
  have HA := Lib.hid hA; have HB := Lib.hid hB
  clear hA hB
  by_cases hlen : l.length = m.length
  · have HLM := Lib.hid hlen
    rw [← hlen]
    clear hlen
    go_enter Tryd.func53, Tryd.ntmps53
    go_wp2_with fail
    go_loopw [5] (fun vi wr => ∃ k : Nat, k ≤ l.length ∧ vi = .int .i64 k ∧ Hid (∃ q, wr = w.drewN q) ∧ Hid (∀ i (h1 : i < l.length) (h2 : i < m.length), i < k → l[i] = m[i])) (fun vi _ => l.length - (intOf vi).toNat)
    case atStart => exact ⟨0, Nat.zero_le _, rfl, ⟨0, rfl⟩, fun i _ _ h => absurd h (by omega)⟩
    case round =>
      obtain ⟨k, hk, rfl, HR, HE⟩ := hrel
      rename World => W0
      by_cases hlt : k < l.length
      · have hlm : k < m.length := by rw [← HLM.out]; exact hlt
        obtain ⟨a, oa, rfl, ha⟩ := HA.out (by omega)
        obtain ⟨b, ob, rfl, hb⟩ := HB.out (by omega)
        obtain ⟨q, rfl⟩ := HR.out
        have c1 : w.cell? ⟨a, oa + k, none⟩ = some (vs l[k]) := ha k hlt
        have c2 : w.cell? ⟨b, ob + k, none⟩ = some (vs m[k]) := hb k hlm
        by_cases he : l[k] = m[k]
        · have HN : Hid (∀ i (h1 : i < l.length) (h2 : i < m.length), i < k + 1 → l[i] = m[i]) := fun i h1 h2 h => by
            by_cases e : i < k
            · exact HE.out i h1 h2 e
            · obtain rfl : i = k := by omega
              exact he
          rw [← he] at c2
          generalize l[k] = x at *
          clear ha hb HA HB HR HE he
          go_wp2_with fail
          go_quiet (fail)
          go_wp2_with fail
          go_roundw
          case rel => exact ⟨k + 1, by omega, by go_num, ⟨_, rfl⟩, HN.out⟩
          case measure => simp [intOf]; omega
        · have HF : Hid (decide (l = m) = false) := decide_eq_false (take_ne HLM.out k hlt he)
          have hx : (l[k] != m[k]) = true := by rw [bne_iff_ne]; exact he
          have hx2 : (l[k] == m[k]) = false := by rw [beq_eq_false_iff_ne]; exact he
          generalize l[k] = x at *
          generalize m[k] = y at *
          clear ha hb HA HB HR HE he
          go_wp2_with fail
          go_quiet (fail)
          go_wp2_with fail
          go_ret
          exact ⟨by rw [HF.out]; rfl, q + nq, by simp⟩
      · obtain rfl : k = l.length := by omega
        have HF : Hid (decide (l = m) = true) := decide_eq_true (all_eq HLM.out (fun i h1 h2 => HE.out i h1 h2 h1))
        clear HE
        go_wp2_with fail
        go_ret
        exact ⟨by rw [HF.out]; rfl, HR.out⟩
  · have HF : Hid (decide (l = m) = false) := decide_eq_false (fun e => hlen (by rw [e]))
    have hx : ((l.length : Int) != (m.length : Int)) = true := by rw [bne_iff_ne]; omega
    clear hlen
    go_enter Tryd.func53, Tryd.ntmps53
    go_wp2_with fail
    go_ret
    exact ⟨by rw [HF.out]; rfl, 0, rfl⟩
set_option maxHeartbeats 1000000 in
set_option maxRecDepth 100000 in
theorem seq_dec (A B : Option Addr) (ca cb : Nat) (l m : List (List By)) (hl : l.length ≤ 100000) (hm : m.length ≤ 100000) (w : World) (hA : StrsIs w A l) (hB : StrsIs w B m) :
    Calls Tryd.prog 70 #[.slice A l.length ca, .slice B m.length cb] w fun e w' => e = .returned (.bool (decide (l = m))) ∧ ∃ q, w' = w.drewN q := by
  have HA := Lib.hid hA; have HB := Lib.hid hB
  clear hA hB
  by_cases hlen : l.length = m.length
  · have HLM := Lib.hid hlen
    rw [← hlen]
    clear hlen
    go_enter Tryd.func70, Tryd.ntmps70
    go_wp2_with fail
    go_loopw [13] (fun vi wr => ∃ k : Nat, k ≤ l.length ∧ vi = .int .i64 k ∧ Hid (∃ q, wr = w.drewN q) ∧ Hid (∀ i (h1 : i < l.length) (h2 : i < m.length), i < k → l[i] = m[i])) (fun vi _ => l.length - (intOf vi).toNat)
    case atStart => exact ⟨0, Nat.zero_le _, rfl, ⟨0, rfl⟩, fun i _ _ h => absurd h (by omega)⟩
    case round =>
      obtain ⟨k, hk, rfl, HR, HE⟩ := hrel
      rename World => W0
      by_cases hlt : k < l.length
      · have hlm : k < m.length := by rw [← HLM.out]; exact hlt
        obtain ⟨a, oa, rfl, ha⟩ := HA.out (by omega)
        obtain ⟨b, ob, rfl, hb⟩ := HB.out (by omega)
        obtain ⟨q, rfl⟩ := HR.out
        have c1 : w.cell? ⟨a, oa + k, none⟩ = some (vs l[k]) := ha k hlt
        have c2 : w.cell? ⟨b, ob + k, none⟩ = some (vs m[k]) := hb k hlm
        by_cases he : l[k] = m[k]
        · have HN : Hid (∀ i (h1 : i < l.length) (h2 : i < m.length), i < k + 1 → l[i] = m[i]) := fun i h1 h2 h => by
            by_cases e : i < k
            · exact HE.out i h1 h2 e
            · obtain rfl : i = k := by omega
              exact he
          rw [← he] at c2
          generalize l[k] = x at *
          clear ha hb HA HB HR HE he
          go_wp2_with fail
          go_quiet (fail)
          go_wp2_with fail
          go_roundw
          case rel => exact ⟨k + 1, by omega, by go_num, ⟨_, rfl⟩, HN.out⟩
          case measure => simp [intOf]; omega
        · have HF : Hid (decide (l = m) = false) := decide_eq_false (take_ne HLM.out k hlt he)
          have hx : (l[k] != m[k]) = true := by rw [bne_iff_ne]; exact he
          have hx2 : (l[k] == m[k]) = false := by rw [beq_eq_false_iff_ne]; exact he
          generalize l[k] = x at *
          generalize m[k] = y at *
          clear ha hb HA HB HR HE he
          go_wp2_with fail
          go_quiet (fail)
          go_wp2_with fail
          go_ret
          exact ⟨by rw [HF.out]; rfl, q + nq, by simp⟩
      · obtain rfl : k = l.length := by omega
        have HF : Hid (decide (l = m) = true) := decide_eq_true (all_eq HLM.out (fun i h1 h2 => HE.out i h1 h2 h1))
        clear HE
        go_wp2_with fail
        go_ret
        exact ⟨by rw [HF.out]; rfl, HR.out⟩
  · have HF : Hid (decide (l = m) = false) := decide_eq_false (fun e => hlen (by rw [e]))
    have hx : ((l.length : Int) != (m.length : Int)) = true := by rw [bne_iff_ne]; omega
    clear hlen
    go_enter Tryd.func70, Tryd.ntmps70
    go_wp2_with fail
    go_ret
    exact ⟨by rw [HF.out]; rfl, 0, rfl⟩
set_option maxHeartbeats 1000000 in
set_option maxRecDepth 100000 in
theorem beq_dec (A B : Option Addr) (ca cb : Nat) (l m : List By) (w : World) (hA : SrcIs w A l) (hB : SrcIs w B m) :
    Calls Tryd.prog 69 #[.slice A l.length ca, .slice B m.length cb] w fun e w' => e = .returned (.bool (decide (l = m))) ∧ w = w' := by
  have h1 := run_text_src (cap := ca) hA
  have h2 := run_text_src (cap := cb) hB
  clear hA hB
  by_cases he : l = m
  · subst he
    go_enter Tryd.func69, Tryd.ntmps69
    go_wp2_with fail
    go_ret
    exact ⟨rfl, rfl⟩
  · have HF : Hid (decide (l = m) = false) := decide_eq_false he
    have hx2 : (l == m) = false := by rw [beq_eq_false_iff_ne]; exact he
    clear he
    go_enter Tryd.func69, Tryd.ntmps69
    go_wp2_with fail
    go_ret
    exact ⟨by rw [HF.out]; rfl, rfl⟩
end Go.Proofs.YtghbabnekalgpaaDoor
