/- The contract of the reference's primes. -/
import Derived.Test.YthocaimiofehkaaHW12
import Derived.Test.YthocaimiofehkaaBlk
import Derived.Deep.AppendLies
namespace Go.Proofs.Ythocaimiofehkaa.Hs
open Go.RowKit HashMath

theorem info43 : (Try.prog.info? 67).map (fun i => (i.zero, i.size, i.bytes)) = some (some (.int .u64 0), 1, 8) := by kernel_rfl
abbrev vq (x : Nat) : Value := .int .u64 (x : Int)
/-- a row of the call's own, as the walk reads it -/
theorem own_form {w : World} {base : Nat} {e : TypeId} {v : Value} {n : Nat} {xs : List Value} (h : w.ownsRow base e 1 v n xs) :
    ∃ A c, v = .slice A n c ∧ (0 < n → ∃ g, A = some ⟨g, 0, none⟩ ∧ base ≤ g ∧ g < w.heap.size ∧ ∀ j, j < n → w.cell? ⟨g, j, none⟩ = xs[j]?) := by
  have h0 := h
  rcases h.2 with ⟨hv, h0⟩ | ⟨g, cap, cur, hv, hg, hc, hn, _, hs, ht⟩
  · subst h0
    exact ⟨none, 0, hv, fun h => absurd h (by omega)⟩
  · subst hv
    refine ⟨some ⟨g, 0, none⟩, cap, rfl, fun _ => ⟨g, rfl, hg, ?_, fun j hj => h0.cellAt j (by omega)⟩⟩
    rcases Nat.lt_or_ge g w.heap.size with h1 | h1
    · exact h1
    · rw [Array.getElem?_eq_none h1] at hc; cases hc
structure PrimeRel (w : World) (l : List Nat) (v : Value) (wr : World) : Prop where
  below : Below w.heap.size w wr
  own : wr.ownsRow w.heap.size 67 1 v l.length (l.map vq)
def allB (X : Nat) (l : List Nat) : Bool := l.all (fun y => X % y != 0)
theorem allB_snoc (X : Nat) (l : List Nat) (i : Nat) (h : i < l.length) : allB X (l.take (i + 1)) = (allB X (l.take i) && (X % l.getD i 0 != 0)) := by
  unfold allB
  rw [List.take_succ_eq_append_getElem h, List.all_append, List.getD_eq_getElem?_getD, List.getElem?_eq_getElem h]; simp
theorem tmodN (a b : Nat) : (a : Int).tmod (b : Int) = ((a % b : Nat) : Int) := by
  rw [Int.tmod_eq_emod_of_nonneg (by omega), Int.natCast_emod]

set_option maxHeartbeats 1000000 in
set_option maxRecDepth 100000 in
theorem primes_any (w : World) :
    Calls Try.prog 48 #[.int .i64 64] w fun e w' => ∃ v, e = .returned v ∧ PrimeRel w (primesK 310) v w' := by
  obtain ⟨i0, hi, hz0, hz1, hz2⟩ := info_parts info43
  go_enter Try.func48, Try.ntmps48
  go_wp2_with fail
  go_loopw [3, 4] (fun v vx wr => ∃ k X : Nat, k ≤ 310 ∧ Hid (X = k + 2) ∧ vx = .int .u64 X ∧ Hid (PrimeRel w (primesK k) v wr)) (fun _ vx _ => 312 - (intOf vx).toNat)
  case atStart => exact ⟨0, 2, by omega, (rfl : 2 = 0 + 2), rfl, Below.refl _ _, World.ownsRow_nil _ _ _ _⟩
  case round =>
    obtain ⟨k, X, hk, HX, rfl, HR⟩ := hrel
    rename World => W0
    obtain ⟨A, c, hv, hform⟩ := own_form HR.out.own
    subst hv
    have HF := Lib.hid hform; clear hform
    by_cases hlt : k < 310
    · have hn64 : ((primesK k).length : Int) < 64 := by have := primesK_lt k hlt; omega
      have hX312 : X < 312 := by have := HX.out; omega
      have HS : Hid (primesK (k + 1) = if allB X (primesK k) then primesK k ++ [X] else primesK k) := by rw [HX.out]; rfl
      have HG := Lib.hid (primesK_ge k)
      generalize primesK k = l at *
      go_wp2_with fail
      go_loop [5, 6] (fun vb vi => ∃ i : Nat, i ≤ l.length ∧ vi = .int .i64 i ∧ vb = .bool (allB X (l.take i))) (fun _ vi => l.length - (intOf vi).toNat)
      case atStart => exact ⟨0, Nat.zero_le _, rfl, rfl⟩
      case round =>
        obtain ⟨i, hi2, rfl, rfl⟩ := hrel
        by_cases hil : i < l.length
        · obtain ⟨g, rfl, hgb, hgl, hcell⟩ := HF.out (by omega)
          have hc := hcell i hil
          rw [List.getElem?_map, List.getElem?_eq_getElem hil] at hc
          have hy2 := (HG.out l[i] (List.getElem_mem hil)).1
          have HA : Hid (allB X (l.take (i + 1)) = (allB X (l.take i) && (X % l[i] != 0))) := by
            have := allB_snoc X l i hil
            rw [List.getD_eq_getElem?_getD, List.getElem?_eq_getElem hil] at this
            exact this
          have hc' : W0.cell? ⟨g, i, none⟩ = some (vq l[i]) := hc
          clear hc hcell
          generalize l[i] = y at *
          have htm := tmodN X y
          have hem : (X : Int) % (y : Int) = ((X % y : Nat) : Int) := by rw [Int.natCast_emod]
          have hyz : ¬ (y : Int) = 0 := by omega
          generalize X % y = m at *
          generalize allB X (l.take i) = r at *
          cases r with
          | false =>
            go_wp2_with fail
            go_round
            case rel => exact ⟨i + 1, by omega, by go_num, by rw [HA.out]; rfl⟩
            case measure => simp [intOf]; omega
          | true =>
            by_cases hm0 : m = 0
            · subst hm0
              have hne : (((0 : Nat) : Int) != 0) = false := rfl
              go_wp2_with fail
              go_round
              case rel => exact ⟨i + 1, by omega, by go_num, by rw [HA.out]; rfl⟩
              case measure => simp [intOf]; omega
            · have hne : ((m : Int) != 0) = true := by simpa using hm0
              have hne2 : (m != 0) = true := by simpa using hm0
              go_wp2_with fail
              go_round
              case rel => exact ⟨i + 1, by omega, by go_num, by rw [HA.out, hne2]; rfl⟩
              case measure => simp [intOf]; omega
        · obtain rfl : i = l.length := by omega
          rw [List.take_length]
          have hown := HR.out.own
          have HSZ := Lib.hid HR.out.below.size
          have hX1 : IntKind.u64.wrap ((X : Int) + 1) = (X : Int) + 1 := by rw [IntKind.wrap_u64]; omega
          have hL := primesK_lt
          generalize allB X l = r at *
          cases r with
          | false =>
            have HE : Hid (primesK (k + 1) = l) := HS.out
            go_wp2_with fail
            go_roundw
            case rel => exact ⟨k + 1, X + 1, by omega, (by have := HX.out; omega : X + 1 = k + 1 + 2), by go_num, by rw [HE.out]; exact HR.out⟩
            case measure => simp [intOf]; omega
          | true =>
            have HE : Hid (primesK (k + 1) = l ++ [X]) := HS.out
            go_wp2_with (at_builtin; refine wpList_append_own _ rfl _ _ 71 rfl w.heap.size 67 i0 (.int .u64 0) 1 8 Try.underlying71 hi hz0 hz1 hz2 rfl (by decide) _ _ _ rfl (hown.alloc _) ⟨W0.heap.size, 0, none⟩ 1 1 [vq X] rfl rfl ?c1 ?c2 ?c3 ?c4 ?c5 ?_)
            case c2 => rfl
            case c3 => unfold maxLen; omega
            case c4 => omega
            case c5 => have := HSZ.out; simp; omega
            intro v' w2 hown' hgrow _
            have HN : Hid (PrimeRel w (primesK (k + 1)) v' w2) := by
              refine ⟨?_, ?_⟩
              · refine (HR.out.below.alloc HSZ.out _).grown hgrow (by have := HSZ.out; simp; omega) ?_
                intro g hg'
                exact (hown.lt g hg').1
              · rw [HE.out]
                simpa using hown'
            clear hown' hgrow hown HE
            go_wp2_with fail
            go_roundw
            case rel => exact ⟨k + 1, X + 1, by omega, (by have := HX.out; omega : X + 1 = k + 1 + 2), by go_num, HN.out⟩
            case measure => simp [intOf]; omega
    · obtain rfl : k = 310 := by omega
      have hn64 := primesK_310
      have HR2 := Lib.hid HR.out
      clear HF HR
      rw [hn64] at HR2 ⊢
      clear hn64
      go_wp2
      go_ret
      exact ⟨_, rfl, HR2.out⟩
end Go.Proofs.Ythocaimiofehkaa.Hs
