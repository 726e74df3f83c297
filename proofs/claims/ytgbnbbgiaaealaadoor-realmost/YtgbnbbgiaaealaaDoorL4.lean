/- The walk of the law RealMost. -/
import Derived.Test.YtgbnbbgiaaealaaDoorL5
import Derived.Test.YtgbnbbgiaaealaaDoorW9
namespace Go.Proofs.YtgbnbbgiaaealaaDoor
open Go.RowKit RealMath

set_option maxHeartbeats 1000000 in
theorem most_long (A : Option Addr) (n cap : Nat) (w : World) (ht : Tab w) (h : 60 < n) (hm : n ≤ maxLen) :
    Calls Tryd.prog 6 #[.slice A n cap] w fun e w' => e = .returned (.bool true) ∧ Below w.heap.size w w' := by
  unfold maxLen at hm
  have h1 : (decide ((60 : Int) < n)) = true := decide_eq_true (by omega)
  go_enter Tryd.func6, Tryd.ntmps6
  go_wp2_with fail
  refine (noughts_any w ht).mono ?_
  rintro e w1 ⟨rfl, hb1⟩
  go_wp2_with fail
  refine (noughts_any w1 (ht.below hb1)).mono ?_
  rintro e w2 ⟨rfl, hb2⟩
  go_wp2
  go_ret
  exact ⟨rfl, hb1.trans (hb2.mono hb1.size)⟩

/-- what stands behind k rounds of the first loop -/
def MostRel (w1 : World) (bs : List Nat) (k : Nat) (v : Value) (wr : World) : Prop :=
  wr.ownsRow w1.heap.size 23 1 v k ((bs.map (Value.float .f64)).take k) ∧ Below w1.heap.size w1 wr

theorem MostRel.step {w1 : World} {bs : List Nat} {k : Nat} {v v' : Value} {wr w2 : World} (hk : k < bs.length) (h : MostRel w1 bs k v wr)
    (hown : w2.ownsRow w1.heap.size 23 1 v' (k + 1) ((bs.map (Value.float .f64)).take k ++ [.float .f64 bs[k]])) (hg : (wr.alloc (.cells #[.float .f64 bs[k]] 23)).grownBy w2 v.ownBlock) :
    MostRel w1 bs (k + 1) v' w2 := by
  obtain ⟨ho, hb⟩ := h
  have hs := hb.size
  refine ⟨?_, ?_⟩
  · have e : (bs.map (Value.float .f64)).take (k + 1) = (bs.map (Value.float .f64)).take k ++ [.float .f64 bs[k]] := by
      rw [List.take_succ_eq_append_getElem (by simpa using hk), List.getElem_map]
    rw [e]
    exact hown
  · refine (hb.alloc hs _).grown hg (by simp; omega) ?_
    intro g hg'
    exact (ho.lt g hg').1

set_option maxHeartbeats 2000000 in
set_option maxRecDepth 100000 in
theorem most_walk (A : Option Addr) (cap : Nat) (bs : List Nat) (hbs : ∀ b ∈ bs, b < 18446744073709551616) (w : World) (ht : Tab w) (h60 : bs.length ≤ 60) (hA : ArgIs w A bs) :
    Calls Tryd.prog 6 #[.slice A bs.length cap] w fun e w' => e = .returned (.bool true) ∧ Below w.heap.size w w' := by
  have h1 : (decide ((60 : Int) < bs.length)) = false := decide_eq_false (by omega)
  have HA := Lib.hid hA; have HB := Lib.hid hbs; clear hA hbs
  obtain ⟨i0, hi, hz0, hz1, hz2⟩ := info_parts info23
  go_enter Tryd.func6, Tryd.ntmps6
  go_wp2_with fail
  refine (noughts_any w ht).mono ?_
  rintro e w1 ⟨rfl, hb1⟩
  go_wp2_with fail
  go_loopw [3, 4] (fun v vi wr => ∃ (k : Nat), k ≤ bs.length ∧ vi = .int .i64 k ∧ Hid (MostRel w1 bs k v wr)) (fun _ vi _ => bs.length - (intOf vi).toNat)
  case atStart => exact ⟨0, Nat.zero_le _, rfl, World.ownsRow_nil _ _ _ _, Below.refl _ _⟩
  case round =>
    obtain ⟨k, hk, rfl, HR⟩ := hrel
    rename World => W0
    by_cases hlt : k < bs.length
    · obtain ⟨b, off, hAe, hblk, hcell⟩ := HA.out (by omega)
      have hcw : W0.cell? ⟨b, off + k, none⟩ = some (.int .u64 bs[k]) := by
        rw [HR.out.2.cell (p := ⟨b, off + k, none⟩) (by have := hb1.size; show b < _; omega), hb1.cell (p := ⟨b, off + k, none⟩) hblk]
        exact hcell k hlt
      have hsw := HR.out.2.size
      have hown := HR.out.1
      have HS := Lib.hid (fun v' w2 ho hg => MostRel.step (v' := v') (w2 := w2) hlt HR.out ho hg)
      clear hcell
      subst hAe
      generalize bs[k] = x at *
      go_wp2_with (first
        | (go_at_call 10; refine (of_nat _ _).mono ?_; rintro e w' ⟨rfl, rfl⟩)
        | (at_builtin; refine wpList_append_own _ rfl _ _ 35 rfl w1.heap.size 23 i0 (.float .f64 0) 1 8 Tryd.underlying35 hi hz0 hz1 hz2 rfl (by decide) _ _ _ rfl (hown.alloc _) ⟨W0.heap.size, 0, none⟩ 1 1 [.float .f64 x] rfl rfl ?c1 ?c2 ?c3 ?c4 ?c5 ?_))
      case c1 =>
        intro j u hj
        match j, hj with
        | 0, hj => simp at hj; subst hj; simp [Addr.add]
      case c2 => intro u hu; simp at hu; subst hu; rfl
      case c3 => unfold maxLen; omega
      case c4 => omega
      case c5 => simp; omega
      · intro v' w2 hown' hgrow _
        have HR2 := Lib.hid (HS.out v' w2 hown' hgrow)
        clear hown' hgrow hown HS HR hcw hsw
        go_wp2
        go_roundw
        case rel => exact ⟨k + 1, hlt, by go_num, HR2.out⟩
        case measure => simp [intOf]; omega
    · obtain rfl : k = bs.length := by omega
      obtain ⟨hown, hbw⟩ := HR.out
      rw [List.take_of_length_le (by simp)] at hown
      have HB2 := Lib.hid hbw
      clear HR hbw HA
      by_cases h0 : 0 < bs.length
      · obtain ⟨g, c, hv, _, _⟩ := hown.form h0
        subst hv
        have hcells : ∀ i (h : i < bs.length), W0.cell? ⟨g, 0 + i, none⟩ = some (.float .f64 bs[i]) := by
          intro i hi
          have := hown.cellAt i (by omega)
          rw [Nat.zero_add, this]
          simp [hi]
        clear hown
        have CM := Lib.hid (most_any bs HB.out g 0 c W0 (by omega) hcells)
        have CR := Lib.hid (refmost_any bs HB.out g 0 c W0 (by omega) hcells)
        have HC := Lib.hid hcells
        have hM := canonB_lt _ (mostL_lt bs HB.out)
        have HG := Lib.hid (fun x hx => most_ge bs (x := x) hx)
        have HE := Lib.hid (foundL_end bs HB.out)
        clear hcells
        generalize canonB (mostL bs) = M at *
        have hz : ((bs.length : Int) == 0) = false := beq_eq_false_iff_ne.2 (by omega)
        have HF0 : Hid (foundL M bs 0 = false) := by show _ = _; rw [foundL_start]; exact decide_eq_false (by omega)
        go_wp2_with fail
        refine CM.out.mono ?_
        rintro e w' ⟨rfl, rfl⟩
        go_wp2_with fail
        go_loopw [6, 7] (fun vf vi wr => ∃ (k : Nat) (F : Bool), k ≤ bs.length ∧ vi = .int .i64 k ∧ vf = .bool F ∧ Hid (F = foundL M bs k) ∧ Hid (W0 = wr)) (fun _ vi _ => bs.length - (intOf vi).toNat)
        case atStart => exact ⟨0, false, Nat.zero_le _, rfl, rfl, HF0.out.symm, rfl⟩
        case round =>
          obtain ⟨k, F, hk, rfl, rfl, HF, HW⟩ := hrel
          obtain rfl := HW.out
          clear HW
          by_cases hlt : k < bs.length
          · have hcell : W0.cell? ⟨g, k, none⟩ = some (.float .f64 bs[k]) := by have := HC.out k hlt; rwa [Nat.zero_add] at this
            have hx := HB.out bs[k] (List.getElem_mem hlt)
            have hl := HG.out bs[k] (List.getElem_mem hlt)
            have HS := Lib.hid (foundL_step M bs k hlt)
            generalize bs[k] = x at *
            cases F
            · have HS2 : Hid (sameB M x = foundL M bs (k + 1)) := by show _ = _; rw [HS.out, ← HF.out]; rfl
              go_wp2_with (first
                | (go_at_call 18; refine (same_any _ _ (by assumption) (by assumption) _).mono ?_; rintro e w' ⟨rfl, rfl⟩)
                | (go_at_call 19; refine (less_any _ _ (by assumption) (by assumption) _).mono ?_; rintro e w' ⟨rfl, rfl⟩))
              go_roundw
              case rel => exact ⟨k + 1, _, hlt, by go_num, rfl, HS2.out, True.intro⟩
              case measure => simp [intOf]; omega
            · have HS2 : Hid (true = foundL M bs (k + 1)) := by show _ = _; rw [HS.out, ← HF.out]; rfl
              go_wp2_with (first
                | (go_at_call 19; refine (less_any _ _ (by assumption) (by assumption) _).mono ?_; rintro e w' ⟨rfl, rfl⟩))
              go_roundw
              case rel => exact ⟨k + 1, true, hlt, by go_num, rfl, HS2.out, True.intro⟩
              case measure => simp [intOf]; omega
          · obtain rfl : k = bs.length := by omega
            obtain rfl : F = true := by rw [HF.out]; exact HE.out
            go_wp2_with (go_at_call 22; refine CR.out.mono ?_; rintro e w' ⟨rfl, rfl⟩)
            go_ret
            exact ⟨rfl, hb1.trans (HB2.out.mono hb1.size)⟩
      · obtain rfl : bs = [] := List.eq_nil_of_length_eq_zero (by omega)
        obtain ⟨a, c, hv⟩ : ∃ a c, u3 = .slice a 0 c := by
          rcases hown.2 with ⟨hv, _⟩ | ⟨g, c, cur, hv, _⟩
          · exact ⟨none, 0, hv⟩
          · exact ⟨_, c, hv⟩
        subst hv
        clear hown
        have CM := Lib.hid (most_nil a c W0)
        have CR := Lib.hid (refmost_nil a c W0)
        generalize canonB (mostL []) = M at *
        go_wp2_with fail
        refine CM.out.mono ?_
        rintro e w' ⟨rfl, rfl⟩
        go_wp2_with fail
        go_loop [6, 7] (fun vf vi => vf = .bool true ∧ vi = .int .i64 0) (fun _ _ => 0)
        case atStart => exact ⟨rfl, rfl⟩
        case round =>
          obtain ⟨rfl, rfl⟩ := hrel
          go_wp2_with (go_at_call 22; refine CR.out.mono ?_; rintro e w' ⟨rfl, rfl⟩)
          go_ret
          exact ⟨rfl, hb1.trans (HB2.out.mono hb1.size)⟩

theorem most_all (A : Option Addr) (cap : Nat) (bs : List Nat) (w : World) (ht : Tab w) (hm : bs.length ≤ maxLen) (hb : ∀ b ∈ bs, b < 18446744073709551616) (hA : ArgIs w A bs) :
    Calls Tryd.prog 6 #[.slice A bs.length cap] w fun e w' => e = .returned (.bool true) ∧ Below w.heap.size w w' := by
  by_cases h : 60 < bs.length
  · exact most_long A bs.length cap w ht h hm
  · exact most_walk A cap bs hb w ht (by omega) hA
end Go.Proofs.YtgbnbbgiaaealaaDoor
