/- The contract of the reference's Texts. -/
import Derived.Test.YtkmjknehbaofcaaW4
namespace Go.Proofs.Ytkmjknehbaofcaa
open Go.RowKit BaseMath WireMath

theorem list_ne_at {α : Type} {l m : List α} (k : Nat) (h1 : k < l.length) (h2 : k < m.length) (h : l[k] ≠ m[k]) : l ≠ m := fun e => by subst e; exact h rfl
theorem list_eq_all {α : Type} {l m : List α} (hl : l.length = m.length) (h : ∀ k (h1 : k < l.length) (h2 : k < m.length), l[k] = m[k]) : l = m := List.ext_getElem hl h
theorem list_beq (a b : List By) : (a == b) = decide (a = b) := by
  by_cases h : a = b
  · subst h; simp
  · rw [decide_eq_false h, beq_eq_false_iff_ne]; exact h
theorem drewN_ex {w : World} {q n : Nat} : ∃ k, (w.drewN q).drewN n = w.drewN k := ⟨q + n, World.drewN_drewN _ _ _⟩
set_option maxHeartbeats 1000000 in
theorem texts_any (A B : Option Addr) (ca cb : Nat) (l m : List (List By)) (hl : l.length ≤ maxLen) (hm : m.length ≤ maxLen) (w : World) (hA : StrsIs w A l) (hB : StrsIs w B m) :
    Calls Try.prog 23 #[.slice A l.length ca, .slice B m.length cb] w fun e w' => e = .returned (.bool (decide (l = m))) ∧ ∃ q, w' = w.drewN q := by
  have HA := Lib.hid hA; have HB := Lib.hid hB
  clear hA hB
  unfold maxLen at hl hm
  by_cases hlen : l.length = m.length
  · generalize hn : l.length = n at *
    generalize hn' : m.length = n' at *
    subst hlen
    go_enter Try.func23, Try.ntmps23
    go_wp2_with fail
    go_loopw [5] (fun vi wr => ∃ k : Nat, k ≤ n ∧ vi = .int .i64 k ∧ Hid (∀ j (h1 : j < l.length) (h2 : j < m.length), j < k → l[j] = m[j]) ∧ Hid (∃ q, wr = w.drewN q)) (fun vi _ => n - (intOf vi).toNat)
    case atStart => exact ⟨0, Nat.zero_le _, rfl, fun j h1 h2 h3 => by omega, 0, rfl⟩
    case round =>
      obtain ⟨k, hk, rfl, HE, HR⟩ := hrel
      rename World => W0
      by_cases hlt : k < n
      · obtain ⟨a, oa, rfl, ha⟩ := HA.out (by omega)
        obtain ⟨b, ob, rfl, hb⟩ := HB.out (by omega)
        obtain ⟨q, rfl⟩ := HR.out
        have c1 : w.cell? ⟨a, oa + k, none⟩ = some (vs (l[k]'(by omega))) := ha k (by omega)
        have c2 : w.cell? ⟨b, ob + k, none⟩ = some (vs (m[k]'(by omega))) := hb k (by omega)
        have HNE : Hid (l[k]'(by omega) ≠ m[k]'(by omega) → decide (l = m) = false) := fun h => decide_eq_false (list_ne_at k (by omega) (by omega) h)
        have HEQ : Hid (l[k]'(by omega) = m[k]'(by omega) → ∀ j (h1 : j < l.length) (h2 : j < m.length), j < k + 1 → l[j] = m[j]) := fun h j h1 h2 h3 => by
          by_cases e : j = k
          · subst e; exact h
          · exact HE.out j h1 h2 (by omega)
        clear ha hb HA HB HR HE
        generalize l[k]'(by omega) = x at *
        generalize m[k]'(by omega) = y at *
        by_cases hxy : x = y
        · subst hxy
          have HEQ' := Lib.hid (HEQ.out rfl)
          clear HNE HEQ
          go_wp2_with fail
          go_quiet (fail)
          go_wp2_with fail
          go_roundw
          case rel => exact ⟨k + 1, by omega, by go_num, HEQ'.out, _, rfl⟩
          case measure => simp [intOf]; omega
        · have HF := Lib.hid (HNE.out hxy)
          have hb : (x == y) = false := by rw [list_beq]; exact decide_eq_false hxy
          clear HNE HEQ hxy
          go_wp2_with fail
          go_quiet (fail)
          go_wp2_with fail
          go_ret
          exact ⟨by rw [HF.out]; rfl, drewN_ex⟩
      · have HT : Hid (decide (l = m) = true) := decide_eq_true (list_eq_all (by omega) (fun j h1 h2 => HE.out j h1 h2 (by omega)))
        obtain rfl : k = n := by omega
        clear HE
        go_wp2_with fail
        go_ret
        exact ⟨by rw [HT.out]; rfl, HR.out⟩
  · have HF : Hid (decide (l = m) = false) := decide_eq_false (fun e => hlen (by rw [e]))
    have hb : ((l.length : Int) == (m.length : Int)) = false := by rw [beq_eq_false_iff_ne]; omega
    have hb' : (l.length == m.length) = false := by rw [beq_eq_false_iff_ne]; omega
    clear hlen
    go_enter Try.func23, Try.ntmps23
    go_wp2_with fail
    go_ret
    exact ⟨by rw [HF.out]; rfl, 0, rfl⟩
end Go.Proofs.Ytkmjknehbaofcaa
