/- The contract of great. -/
import Derived.Test.YtkehfploodobmaaW12
import Derived.Deep.CutBlock
namespace Go.Proofs.Ytkehfploodobmaa
open Go.RowKit TreeMath RealMath

def tooMuch (x : Hd) : Bool := decide (3000 < x.data.length) || decide (3000 < x.target.length) || decide (200 < x.names.length)
mutual
def greatF : T → Int → Int
  | .mk x ks, l => if (decide (l - 1 < 0) || tooMuch x) = true then -1 else greatL ks (l - 1)
def greatL : List T → Int → Int
  | [], l => l
  | k :: r, l => if 0 ≤ l then greatL r (greatF k l) else l
end
theorem greatL_neg {l : Int} (h : l < 0) : ∀ ks : List T, greatL ks l = l
  | [] => by rw [greatL]
  | k :: r => by rw [greatL, if_neg (by omega)]
mutual
theorem greatF_le : ∀ (t : T) (l : Int), 0 ≤ l → -1 ≤ greatF t l ∧ greatF t l ≤ l
  | .mk x ks, l, h => by
    rw [greatF]
    split
    · omega
    · rename_i hc
      simp only [Bool.or_eq_true, not_or, decide_eq_true_eq] at hc
      have := greatL_le ks (l - 1) (by omega)
      omega
theorem greatL_le : ∀ (ks : List T) (l : Int), -1 ≤ l → -1 ≤ greatL ks l ∧ greatL ks l ≤ l
  | [], l, h => by rw [greatL]; omega
  | k :: r, l, h => by
    rw [greatL]
    split
    · have h1 := greatF_le k l (by omega)
      have h2 := greatL_le r (greatF k l) (by omega)
      omega
    · omega
end
mutual
theorem greatF_ok : ∀ (t : T) (l : Int), 0 ≤ greatF t l → (count t : Int) + greatF t l ≤ l ∧ ∀ k ∈ all t, tooMuch k.hd = false
  | .mk x ks, l, h => by
    rw [greatF] at h ⊢
    split at h
    · omega
    · rename_i hc
      rw [if_neg hc]
      simp only [Bool.or_eq_true, not_or, Bool.not_eq_true] at hc
      have h1 := greatL_ok ks (l - 1) h
      rw [count_mk, all]
      refine ⟨by omega, fun k hk => ?_⟩
      rcases List.mem_cons.1 hk with e | e
      · subst e; exact hc.2
      · exact h1.2 k e
theorem greatL_ok : ∀ (ks : List T) (l : Int), 0 ≤ greatL ks l → ((allL ks).length : Int) + greatL ks l ≤ l ∧ ∀ k ∈ allL ks, tooMuch k.hd = false
  | [], l, h => by rw [greatL, allL]; simp
  | k :: r, l, h => by
    rw [greatL] at h ⊢
    split at h
    · rename_i hl
      rw [if_pos hl]
      have h2 := greatL_ok r _ h
      by_cases hk : 0 ≤ greatF k l
      · have h1 := greatF_ok k l hk
        rw [allL, List.length_append]
        refine ⟨by have := h1.1; unfold count at this; omega, fun j hj => ?_⟩
        rcases List.mem_append.1 hj with e | e
        · exact h1.2 j e
        · exact h2.2 j e
      · rw [greatL_neg (by omega)] at h; omega
    · omega
end
def GreatOf (top : Nat) (t : T) : Prop := ∀ (l : Int) (w : World), top ≤ w.heap.size → Ok w top t → 0 ≤ l → l ≤ 300 → Calls Try.prog 10 #[val t, .int .i64 l] w fun e w' => e = .returned (.int .i64 (greatF t l)) ∧ Below w.heap.size w w'
set_option maxHeartbeats 4000000 in
theorem great_of (top : Nat) : ∀ t, GreatOf top t := by
  refine T.ind fun x ks IH => ?_
  intro l w htop hok h0 h3
  show Calls Try.prog 10 #[nv x ks.length, .int .i64 l] w _
  have hlen := hok.len
  have hnl := hok.hd.nlen; have hdl := hok.hd.dlen; have htl := hok.hd.tlen
  unfold maxLen at hlen hnl hdl htl
  have HIH := Lib.hid IH; have HOK := Lib.hid hok
  have HG : Hid (greatF (.mk x ks) l = if (decide (l - 1 < 0) || tooMuch x) = true then -1 else greatL ks (l - 1)) := by show _ = _; rw [greatF]
  clear IH hok
  have HB : Hid (∀ box, Below w.heap.size w (w.alloc box)) := fun box => (Below.refl _ _).alloc (Nat.le_refl _) _
  cases hc : (decide (l - 1 < 0) || tooMuch x) with
  | true =>
    rw [hc] at HG
    by_cases h1 : l - 1 < 0
    · have h1' : decide (l - 1 < 0) = true := decide_eq_true h1
      clear hc
      go_enter Try.func10, Try.ntmps10
      go_wp2_with fail
      go_ret
      exact ⟨ret_int (by rw [HG.out]; rfl), HB.out _⟩
    · have h1' : decide (l - 1 < 0) = false := decide_eq_false h1
      rw [h1', Bool.false_or] at hc
      unfold tooMuch at hc
      by_cases g1 : 3000 < x.data.length
      · have g1' : decide ((3000 : Int) < x.data.length) = true := decide_eq_true (by omega)
        clear hc
        go_enter Try.func10, Try.ntmps10
        go_wp2_with fail
        go_ret
        exact ⟨ret_int (by rw [HG.out]; rfl), HB.out _⟩
      · have g1' : decide ((3000 : Int) < x.data.length) = false := decide_eq_false (by omega)
        rw [decide_eq_false g1, Bool.false_or] at hc
        by_cases g2 : 3000 < x.target.length
        · have g2' : decide ((3000 : Int) < x.target.length) = true := decide_eq_true (by omega)
          clear hc
          go_enter Try.func10, Try.ntmps10
          go_wp2_with fail
          go_ret
          exact ⟨ret_int (by rw [HG.out]; rfl), HB.out _⟩
        · have g2' : decide ((3000 : Int) < x.target.length) = false := decide_eq_false (by omega)
          rw [decide_eq_false g2, Bool.false_or] at hc
          have g3 := of_decide_eq_true hc
          have g3' : decide ((200 : Int) < x.names.length) = true := decide_eq_true (by omega)
          clear hc
          go_enter Try.func10, Try.ntmps10
          go_wp2_with fail
          go_ret
          exact ⟨ret_int (by rw [HG.out]; rfl), HB.out _⟩
  | false =>
    rw [hc] at HG
    have HG' : Hid (greatF (.mk x ks) l = greatL ks (l - 1)) := by show _ = _; rw [HG.out]; rfl
    clear HG
    unfold tooMuch at hc
    simp only [Bool.or_eq_false_iff, decide_eq_false_iff_not] at hc
    obtain ⟨h1, ⟨g1, g2⟩, g3⟩ := hc
    have h1' : decide (l - 1 < 0) = false := decide_eq_false h1
    have g1' : decide ((3000 : Int) < x.data.length) = false := decide_eq_false (by omega)
    have g2' : decide ((3000 : Int) < x.target.length) = false := decide_eq_false (by omega)
    have g3' : decide ((200 : Int) < x.names.length) = false := decide_eq_false (by omega)
    go_enter Try.func10, Try.ntmps10
    go_wp2_with fail
    have hbox := Blk.new w 27 #[vb x.kind, .slice x.na x.names.length x.nc, .slice x.ka ks.length x.kc, .slice x.da x.data.length x.dc, .bool x.run, .float .f64 x.stamp, vs x.target]
    have hB1 : Below w.heap.size w (w.alloc (.cells #[vb x.kind, .slice x.na x.names.length x.nc, .slice x.ka ks.length x.kc, .slice x.da x.data.length x.dc, .bool x.run, .float .f64 x.stamp, vs x.target] 27)) := HB.out _
    have hs1 : (w.alloc (.cells #[vb x.kind, .slice x.na x.names.length x.nc, .slice x.ka ks.length x.kc, .slice x.da x.data.length x.dc, .bool x.run, .float .f64 x.stamp, vs x.target] 27)).heap.size = w.heap.size + 1 := by simp
    generalize w.alloc (.cells #[vb x.kind, .slice x.na x.names.length x.nc, .slice x.ka ks.length x.kc, .slice x.da x.data.length x.dc, .bool x.run, .float .f64 x.stamp, vs x.target] 27) = W1 at *
    have HBOX := Lib.hid hbox; have HB1 := Lib.hid hB1; have HS1 := Lib.hid hs1
    clear hbox hB1 HB hs1 g1' g2' g3' h1'
    go_loopw [1, 5] (fun vl vi wr => ∃ (i : Nat) (m : Int), i ≤ ks.length ∧ vi = .int .i64 i ∧ -1 ≤ m ∧ m ≤ 300 ∧ vl = .int .i64 m ∧ Hid (greatL (ks.drop i) m = greatL ks (l - 1)) ∧ Hid (Below (w.heap.size + 1) W1 wr)) (fun _ vi _ => ks.length - (intOf vi).toNat)
    case atStart => exact ⟨0, l - 1, Nat.zero_le _, rfl, by omega, by omega, rfl, Lib.hid (by simp), Below.refl _ _⟩
    case round =>
      obtain ⟨i, m, hi, rfl, hm1, hm3, rfl, HD0, HP⟩ := hrel
      rename World => W0
      have hb2 := (HBOX.out.below HP.out (by omega)).cell 2
      simp only [List.getElem?_cons_zero, List.getElem?_cons_succ] at hb2
      by_cases hlt : i < ks.length
      · have hlt' : decide ((i : Int) < ks.length) = true := decide_eq_true (by omega)
        by_cases hm0 : 0 ≤ m
        · have hm0' : decide ((0 : Int) ≤ m) = true := decide_eq_true hm0
          have hbt : Below top w W0 := (HB1.out.mono htop).trans (HP.out.mono (by omega))
          obtain ⟨a, oa, y, ly, hAe, hat, hy, hca⟩ := HOK.out.at.cells i hlt
          have hc := hca.same (hbt.block a hat)
          obtain ⟨a0, a1, a2, a3, a4, a5, a6⟩ := hc.seven
          have hsz : w.heap.size + 1 ≤ W0.heap.size := by have := HP.out.size; have := HS1.out; omega
          have HC : Hid (Calls Try.prog 10 #[nv y ly.length, .int .i64 m] W0 fun e w' => e = .returned (.int .i64 (greatF ks[i] m)) ∧ Below W0.heap.size W0 w') := by
            have := HIH.out ks[i] (List.getElem_mem _) m W0 (by omega) ((HOK.out.kid (List.getElem_mem hlt)).keep hbt) hm0 hm3
            rw [hy] at this ⊢; exact this
          have hgl := greatF_le ks[i] m hm0
          have HTK : Hid (greatL (ks.drop (i + 1)) (greatF ks[i] m) = greatL ks (l - 1)) := by
            show _ = _
            rw [← HD0.out, List.drop_eq_getElem_cons hlt, greatL, if_pos hm0]
          have HBE := Lib.hid HP.out
          clear hbt hc hca HP hat HD0
          rw [hAe] at hb2
          clear hAe
          generalize greatF ks[i] m = gm at *
          clear hy
          go_wp2_with fail
          refine HC.out.mono ?_
          rintro e w2 ⟨rfl, hb2'⟩
          have HBE2 : Hid (Below (w.heap.size + 1) W1 w2) := HBE.out.trans (hb2'.mono hsz)
          clear hb2' HC HBE
          go_wp2_with fail
          go_roundw
          case rel => exact ⟨i + 1, gm, by omega, by go_num, by omega, by omega, rfl, HTK.out, HBE2.out⟩
          case measure => simp [intOf]; omega
        · have hm0' : decide ((0 : Int) ≤ m) = false := decide_eq_false hm0
          have HE : Hid (greatL ks (l - 1) = m) := by show _ = _; rw [← HD0.out, greatL_neg (by omega)]
          have HBE : Hid (Below w.heap.size w W0) := HB1.out.trans (HP.out.mono (by omega))
          clear HP HD0
          go_wp2_with fail
          go_ret
          exact ⟨ret_int (by rw [HG'.out, HE.out]), HBE.out⟩
      · have hlt' : decide ((i : Int) < ks.length) = false := decide_eq_false (by omega)
        have HE : Hid (greatL ks (l - 1) = m) := by show _ = _; rw [← HD0.out, List.drop_of_length_le (by omega), greatL]
        have HBE : Hid (Below w.heap.size w W0) := HB1.out.trans (HP.out.mono (by omega))
        clear HP HD0
        go_wp2_with fail
        go_ret
        exact ⟨ret_int (by rw [HG'.out, HE.out]), HBE.out⟩
end Go.Proofs.Ytkehfploodobmaa
