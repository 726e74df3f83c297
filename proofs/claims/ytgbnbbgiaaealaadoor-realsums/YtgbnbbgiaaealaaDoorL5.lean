/- The walk of the law RealSums. -/
import Derived.Test.YtgbnbbgiaaealaaDoorW7
import Derived.Deep.AppendLies
namespace Go.Proofs.YtgbnbbgiaaealaaDoor
open Go.RowKit RealMath

theorem info23 : (Tryd.prog.info? 23).map (fun i => (i.zero, i.size, i.bytes)) = some (some (.float .f64 0), 1, 8) := by kernel_rfl

/-- a slice of numbers that came in, as the walk reads it -/
def ArgIs (w : World) (A : Option Addr) (bs : List Nat) : Prop := 0 < bs.length → ∃ b off, A = some ⟨b, off, none⟩ ∧ b < w.heap.size ∧ ∀ k (h : k < bs.length), w.cell? ⟨b, off + k, none⟩ = some (.int .u64 bs[k])

theorem of_nat (n : Nat) (w : World) : Calls Tryd.prog 10 #[.int .u64 n] w fun e w' => e = .returned (.float .f64 n) ∧ w = w' := by
  have := of_any (n : Int) w
  rw [Int.toNat_natCast] at this
  exact this

set_option maxHeartbeats 1000000 in
theorem sums_long (A : Option Addr) (n cap : Nat) (w : World) (ht : Tab w) (h : 60 < n) (hm : n ≤ maxLen) :
    Calls Tryd.prog 7 #[.slice A n cap] w fun e w' => e = .returned (.bool true) ∧ Below w.heap.size w w' := by
  unfold maxLen at hm
  have h1 : (decide ((60 : Int) < n)) = true := decide_eq_true (by omega)
  go_enter Tryd.func7, Tryd.ntmps7
  go_wp2_with fail
  refine (noughts_any w ht).mono ?_
  rintro e w1 ⟨rfl, hb1⟩
  go_wp2_with fail
  refine (noughts_any w1 (ht.below hb1)).mono ?_
  rintro e w2 ⟨rfl, hb2⟩
  go_wp2
  go_ret
  exact ⟨rfl, hb1.trans (hb2.mono hb1.size)⟩

/-- what stands behind k rounds -/
def SumsRel (w1 : World) (bs : List Nat) (k s : Nat) (v : Value) (wr : World) : Prop :=
  wr.ownsRow w1.heap.size 23 1 v k ((bs.map (Value.float .f64)).take k) ∧ Below w1.heap.size w1 wr ∧ AccIs (sumO (bs.take k)) s

theorem SumsRel.step {w1 : World} {bs : List Nat} {k s r q : Nat} {v v' : Value} {wr w2 : World} (hk : k < bs.length) (h : SumsRel w1 bs k s v wr)
    (hown : w2.ownsRow w1.heap.size 23 1 v' (k + 1) ((bs.map (Value.float .f64)).take k ++ [.float .f64 bs[k]])) (hg : (wr.alloc (.cells #[.float .f64 bs[k]] 23)).grownBy w2 v.ownBlock)
    (hr : AccIs (addO (sumO (bs.take k)) bs[k]) r) : SumsRel w1 bs (k + 1) r v' (w2.drewN q) := by
  obtain ⟨ho, hb, _⟩ := h
  have hs := hb.size
  refine ⟨?_, ?_, ?_⟩
  · have e : (bs.map (Value.float .f64)).take (k + 1) = (bs.map (Value.float .f64)).take k ++ [.float .f64 bs[k]] := by
      rw [List.take_succ_eq_append_getElem (by simpa using hk), List.getElem_map]
    rw [e]
    exact hown
  · refine below_drewN ?_ q
    refine (hb.alloc hs _).grown hg (by simp; omega) ?_
    intro g hg'
    exact (ho.lt g hg').1
  · rw [List.take_succ_eq_append_getElem hk, sumO_snoc]; exact hr

set_option maxHeartbeats 1000000 in
set_option maxRecDepth 100000 in
theorem sums_walk (A : Option Addr) (cap : Nat) (bs : List Nat) (w : World) (ht : Tab w) (h60 : bs.length ≤ 60) (hA : ArgIs w A bs) :
    Calls Tryd.prog 7 #[.slice A bs.length cap] w fun e w' => e = .returned (.bool true) ∧ Below w.heap.size w w' := by
  have h1 : (decide ((60 : Int) < bs.length)) = false := decide_eq_false (by omega)
  have HA := Lib.hid hA; clear hA
  obtain ⟨i0, hi, hz0, hz1, hz2⟩ := info_parts info23
  go_enter Tryd.func7, Tryd.ntmps7
  go_wp2_with fail
  refine (noughts_any w ht).mono ?_
  rintro e w1 ⟨rfl, hb1⟩
  go_wp2_with fail
  go_loopw [3, 4, 5] (fun v vs vi wr => ∃ (k s : Nat), k ≤ bs.length ∧ vi = .int .i64 k ∧ vs = .float .f64 s ∧ Hid (SumsRel w1 bs k s v wr)) (fun _ _ vi _ => bs.length - (intOf vi).toNat)
  case atStart => exact ⟨0, 0, Nat.zero_le _, rfl, rfl, World.ownsRow_nil _ _ _ _, Below.refl _ _, acc_start⟩
  case round =>
    obtain ⟨k, s, hk, rfl, rfl, HR⟩ := hrel
    rename World => W0
    by_cases hlt : k < bs.length
    · obtain ⟨b, off, hAe, hblk, hcell⟩ := HA.out (by omega)
      have hcw : W0.cell? ⟨b, off + k, none⟩ = some (.int .u64 bs[k]) := by
        rw [HR.out.2.1.cell (p := ⟨b, off + k, none⟩) (by have := hb1.size; show b < _; omega), hb1.cell (p := ⟨b, off + k, none⟩) hblk]
        exact hcell k hlt
      have hbw : b < w1.heap.size := by have := hb1.size; omega
      have hsw := HR.out.2.1.size
      have hown := HR.out.1
      have HS := Lib.hid (fun r q v' w2 ho hg hr => SumsRel.step (r := r) (q := q) (v' := v') (w2 := w2) hlt HR.out ho hg hr)
      have HACC := Lib.hid HR.out.2.2
      clear hcell
      subst hAe
      generalize bs[k] = x at *
      go_wp2_with (first
        | (go_at_call 10; refine (of_nat _ _).mono ?_; rintro e w' ⟨rfl, rfl⟩)
        | (at_builtin; refine wpList_append_own _ rfl _ _ 35 rfl w1.heap.size 23 i0 (.float .f64 0) 1 8 Tryd.underlying35 hi hz0 hz1 hz2 rfl (by decide) _ _ _ rfl (hown.alloc _) ⟨W0.heap.size, 0, none⟩ 1 1 [.float .f64 x] rfl rfl ?c1 ?c2 ?c3 ?c4 ?c5 ?_))
      case c1 =>
        intro j u hj
        match j, hj with
        | 0, hj => simp at hj; subst hj; simp [Addr.add]
      case c2 => intro u hu; simp at hu; subst hu; rfl
      case c3 => unfold maxLen; omega
      case c4 => omega
      case c5 => simp; omega
      · intro v' w2 hown' hgrow _
        have hcw2 : w2.cell? ⟨b, off + k, none⟩ = some (.int .u64 x) := by
          refine hgrow.cell ?_ ?_
          · rw [World.cell?_alloc_lt _ _ _ (show b < W0.heap.size by omega)]; exact hcw
          · intro he
            have := (hown.lt b he.symm).1
            omega
        obtain ⟨r, q, hrun, hr, g1, g2⟩ := run_fadd 23 s x w2
        have HR2 := Lib.hid (HS.out r q v' w2 hown' hgrow (HACC.out.step g1 g2 hr))
        clear hown' hgrow hown HS HACC HR g1 g2 hr hcw hsw
        go_wp2_with (go_at_call 10; refine (of_nat _ _).mono ?_; rintro e w' ⟨rfl, rfl⟩)
        go_roundw
        case rel => exact ⟨k + 1, r, hlt, by go_num, rfl, HR2.out⟩
        case measure => simp [intOf]; omega
    · obtain rfl : k = bs.length := by omega
      obtain ⟨hown, hbw, hacc⟩ := HR.out
      rw [List.take_length] at hacc
      rw [List.take_of_length_le (by simp)] at hown
      have hs := hacc.1
      have CB := Lib.hid (refbits_any s)
      rw [hacc.canon] at CB
      have CS : Hid (∀ v, u3 = v → Calls Tryd.prog 23 #[v] W0 fun e w' => SumPost bs W0 e w') := by
        intro v hv
        subst hv
        by_cases h0 : 0 < bs.length
        · obtain ⟨g, c, hv, _, _⟩ := hown.form h0
          subst hv
          refine sum_any bs g 0 c W0 (by omega) ?_
          intro i hi
          have := hown.cellAt i (by omega)
          rw [Nat.zero_add, this]
          simp [hi]
        · obtain rfl : bs = [] := List.eq_nil_of_length_eq_zero (by omega)
          rcases hown.2 with ⟨hv, _⟩ | ⟨g, c, cur, hv, _⟩
          · subst hv
            exact (sum_nil none 0 W0).mono fun e w' ⟨he, hw⟩ => ⟨by rw [he]; rfl, 0, hw.symm⟩
          · subst hv
            exact (sum_nil _ c W0).mono fun e w' ⟨he, hw⟩ => ⟨by rw [he]; rfl, 0, hw.symm⟩
      have HB := Lib.hid hbw
      clear hown hbw hacc HR hs HA
      go_wp2_with fail
      refine (CS.out _ rfl).mono ?_
      rintro e w2 ⟨rfl, m, rfl⟩
      go_wp2_with fail
      refine (CB.out _).mono ?_
      rintro e w' ⟨rfl, rfl⟩
      go_wp2
      go_ret
      exact ⟨rfl, hb1.trans ((below_drewN HB.out m).mono hb1.size)⟩
theorem sums_all (A : Option Addr) (cap : Nat) (bs : List Nat) (w : World) (ht : Tab w) (hm : bs.length ≤ maxLen) (_ : ∀ b ∈ bs, b < 18446744073709551616) (hA : ArgIs w A bs) :
    Calls Tryd.prog 7 #[.slice A bs.length cap] w fun e w' => e = .returned (.bool true) ∧ Below w.heap.size w w' := by
  by_cases h : 60 < bs.length
  · exact sums_long A bs.length cap w ht h hm
  · exact sums_walk A cap bs w ht (by omega) hA
end Go.Proofs.YtgbnbbgiaaealaaDoor
