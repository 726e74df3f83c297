/- Items in memory, and the contract of the law's short. -/
import Derived.Test.YtefifdejepafgaaW14
namespace Go.Proofs.Ytefifdejepafgaa
open Go.RowKit BaseMath WireMath

/-- something that is laid -/
structure It where
  kind : By
  n : Nat
  s : List By
  la : Option Addr
  lc : Nat
  ll : List (List By)
def It.vals (x : It) : List Value := [vb x.kind, .int .u64 (x.n : Nat), vs x.s, .slice x.la x.ll.length x.lc]
structure It.Ok (w : World) (x : It) : Prop where
  n : x.n ≤ 18446744073709551615
  s : x.s.length ≤ maxLen
  l : x.ll.length ≤ maxLen
  src : StrsIs w x.la x.ll
  each : ∀ t ∈ x.ll, t.length ≤ maxLen
/-- one of them, four cells at a place -/
def ItAt (w : World) (b o : Nat) (x : It) : Prop := ∀ j v, x.vals[j]? = some v → w.cell? ⟨b, o + j, none⟩ = some v
def ItemsIs (w : World) (A : Option Addr) (its : List It) : Prop := 0 < its.length → ∃ b o, A = some ⟨b, o, none⟩ ∧ ∀ i (h : i < its.length), ItAt w b (o + i * 4) its[i] ∧ its[i].Ok w
theorem ItAt.lt {w : World} {b o : Nat} {x : It} (h : ItAt w b o x) : b < w.heap.size := block_of_cell (h 0 _ rfl)
theorem It.Ok.below {w w' : World} {x : It} (h : x.Ok w) (hb : Below w.heap.size w w') : x.Ok w' := ⟨h.n, h.s, h.l, h.src.below hb h.src.lt, h.each⟩
theorem ItAt.same {w w' : World} {b o : Nat} {x : It} (h : ItAt w b o x) (hb : w'.heap[b]? = w.heap[b]?) : ItAt w' b o x := fun j v hv => by
  rw [World.cell?_of_block (w := w) (a := ⟨b, o + j, none⟩) hb]; exact h j v hv
theorem ItemsIs.below {w w' : World} {A : Option Addr} {its : List It} (h : ItemsIs w A its) (hb : Below w.heap.size w w') : ItemsIs w' A its := fun h0 => by
  obtain ⟨b, o, rfl, hc⟩ := h h0
  exact ⟨b, o, rfl, fun i hi => ⟨(hc i hi).1.same (hb.block b (hc i hi).1.lt), (hc i hi).2.below hb⟩⟩
def smallB (ll : List (List By)) : Bool := ll.all fun t => decide (t.length ≤ 60)
def shortB (x : It) : Bool := decide (x.s.length ≤ 300) && decide (x.ll.length ≤ 20) && smallB x.ll
def shortsB (its : List It) : Bool := its.all shortB && decide (its.length ≤ 30)
theorem all_false {α : Type} {p : α → Bool} {l : List α} (i : Nat) (hi : i < l.length) (h : p l[i] = false) : l.all p = false := by
  rw [List.all_eq_false]; exact ⟨l[i], List.getElem_mem hi, by rw [h]; decide⟩
theorem all_true {α : Type} {p : α → Bool} {l : List α} (h : ∀ i (hi : i < l.length), p l[i] = true) : l.all p = true := by
  rw [List.all_eq_true]; intro x hx
  obtain ⟨i, hi, rfl⟩ := List.getElem_of_mem hx
  exact h i hi
set_option maxHeartbeats 2000000 in
set_option maxRecDepth 100000 in
theorem short_any (A : Option Addr) (cap : Nat) (its : List It) (hm : its.length ≤ maxLen) (w : World) (hA : ItemsIs w A its) :
    Calls Try.prog 24 #[.slice A its.length cap] w fun e w' => e = .returned (.bool (shortsB its)) ∧ w = w' := by
  have HA := Lib.hid hA; clear hA
  unfold maxLen at hm
  go_enter Try.func24, Try.ntmps24
  go_wp2_with fail
  go_loop [3] (fun vi => ∃ i : Nat, i ≤ its.length ∧ vi = .int .i64 i ∧ Hid (∀ j, j < i → ∀ hj : j < its.length, shortB its[j] = true)) (fun vi => its.length - (intOf vi).toNat)
  case atStart => exact ⟨0, Nat.zero_le _, rfl, fun j hj => absurd hj (by omega)⟩
  case round =>
    obtain ⟨i, hi, rfl, HP⟩ := hrel
    by_cases hlt : i < its.length
    · obtain ⟨b, o, hAe, hc⟩ := HA.out (by omega)
      subst hAe
      obtain ⟨hat, hok⟩ := hc i hlt
      have c2 := hat 2 _ rfl
      have c3 := hat 3 _ rfl
      have hs := hok.s; have hl := hok.l
      have HSRC := Lib.hid hok.src; have HEACH := Lib.hid hok.each
      unfold maxLen at hs hl
      have HSF : Hid (shortB its[i] = false → shortsB its = false) := fun h => by unfold shortsB; rw [all_false i hlt h]; rfl
      have HST : Hid (shortB its[i] = true → ∀ j, j < i + 1 → ∀ hj : j < its.length, shortB its[j] = true) := fun h j hj hjl => by
        by_cases e : j = i
        · subst e; exact h
        · exact HP.out j (by omega) hjl
      clear hat hok hc HP
      generalize its[i] = x at *
      by_cases hs3 : 300 < x.s.length
      · have HF : Hid (shortsB its = false) := HSF.out (by unfold shortB; rw [decide_eq_false (by omega : ¬ x.s.length ≤ 300)]; rfl)
        have hs3' : (decide ((300 : Int) < x.s.length)) = true := decide_eq_true (by omega)
        go_wp2_with fail
        go_ret
        exact ⟨by rw [HF.out]; rfl, rfl⟩
      · have hs3' : (decide ((300 : Int) < x.s.length)) = false := decide_eq_false (by omega)
        by_cases hl2 : 20 < x.ll.length
        · have HF : Hid (shortsB its = false) := HSF.out (by unfold shortB; rw [decide_eq_false (by omega : ¬ x.ll.length ≤ 20), Bool.and_false, Bool.false_and])
          have hl2' : (decide ((20 : Int) < x.ll.length)) = true := decide_eq_true (by omega)
          go_wp2_with fail
          go_ret
          exact ⟨by rw [HF.out]; rfl, rfl⟩
        · have hl2' : (decide ((20 : Int) < x.ll.length)) = false := decide_eq_false (by omega)
          have HS1 : Hid (∀ q, smallB x.ll = q → shortB x = q) := fun q hq => by
            unfold shortB; rw [decide_eq_true (by omega : x.s.length ≤ 300), decide_eq_true (by omega : x.ll.length ≤ 20), hq]; rfl
          go_wp2_with fail
          go_loop [4] (fun vk => ∃ k : Nat, k ≤ x.ll.length ∧ vk = .int .i64 k ∧ Hid (∀ j, j < k → ∀ hj : j < x.ll.length, decide (x.ll[j].length ≤ 60) = true)) (fun vk => x.ll.length - (intOf vk).toNat)
          case atStart => exact ⟨0, Nat.zero_le _, rfl, fun j hj => absurd hj (by omega)⟩
          case round =>
            obtain ⟨k, hk, rfl, HQ⟩ := hrel
            by_cases hkl : k < x.ll.length
            · obtain ⟨b2, o2, hla, hc2⟩ := HSRC.out (by omega)
              rw [hla] at c3
              have d0 := hc2 k hkl
              have ht := HEACH.out _ (List.getElem_mem hkl)
              unfold maxLen at ht
              have HQ1 : Hid (decide (x.ll[k].length ≤ 60) = true → ∀ j, j < k + 1 → ∀ hj : j < x.ll.length, decide (x.ll[j].length ≤ 60) = true) := fun h j hj hjl => by
                by_cases e : j = k
                · subst e; exact h
                · exact HQ.out j (by omega) hjl
              have HQF : Hid (decide (x.ll[k].length ≤ 60) = false → smallB x.ll = false) := fun h => all_false k hkl h
              have HLA := Lib.hid hla
              clear hc2 HQ hla
              generalize x.ll[k] = tx at *
              by_cases h60 : 60 < tx.length
              · have h60' : (60 : Int) < tx.length := by omega
                have HF : Hid (shortsB its = false) := HSF.out (HS1.out false (HQF.out (decide_eq_false (by omega))))
                go_wp2_with fail
                go_ret
                exact ⟨by rw [HF.out]; rfl, rfl⟩
              · have h60' : ¬ (60 : Int) < tx.length := by omega
                have HN := Lib.hid (HQ1.out (decide_eq_true (by omega)))
                go_wp2_with fail
                go_round
                case rel => exact ⟨k + 1, by omega, by go_num, HN.out⟩
                case measure => simp [intOf]; omega
            · obtain rfl : k = x.ll.length := by omega
              have HN := Lib.hid (HST.out (HS1.out true (all_true (fun j hj => HQ.out j hj hj))))
              clear HQ
              go_wp2_with fail
              go_round
              case rel => exact ⟨i + 1, by omega, by go_num, HN.out⟩
              case measure => simp [intOf]; omega
    · obtain rfl : i = its.length := by omega
      have HE : Hid (shortsB its = decide ((its.length : Int) ≤ 30)) := by
        show _ = _
        unfold shortsB
        rw [all_true (fun j hj => HP.out j hj hj), Bool.true_and, Bool.eq_iff_iff]; simp; omega
      clear HP
      go_wp2_with fail
      go_ret
      exact ⟨by rw [HE.out]; rfl, rfl⟩
end Go.Proofs.Ytefifdejepafgaa
