/- The contract of great. -/
import Derived.Test.YtlehgacbcacokaaG9
import Derived.Deep.CutBlock
import Derived.Test.YtlehgacbcacokaaG1
namespace Go.Proofs.Ytlehgacbcacokaa
open Go.RowKit TreeMath RealMath

def tooMuch (x : Hd) : Bool := decide (3000 < x.data.length) || decide (3000 < x.target.length) || decide (200 < x.names.length)
mutual
def greatF : T → Int → Int
  | .mk x ks, l => if (decide (l - 1 < 0) || tooMuch x) = true then -1 else greatL ks (l - 1)
def greatL : List T → Int → Int
  | [], l => l
  | k :: r, l => if 0 ≤ l then greatL r (greatF k l) else l
end
theorem greatL_neg {l : Int} (h : l < 0) : ∀ ks : List T, greatL ks l = l
  | [] => by rw [greatL]
  | k :: r => by rw [greatL, if_neg (by omega)]
mutual
theorem greatF_le : ∀ (t : T) (l : Int), 0 ≤ l → -1 ≤ greatF t l ∧ greatF t l ≤ l
  | .mk x ks, l, h => by
    rw [greatF]
    split
    · omega
    · rename_i hc
      simp only [Bool.or_eq_true, not_or, decide_eq_true_eq] at hc
      have := greatL_le ks (l - 1) (by omega)
      omega
theorem greatL_le : ∀ (ks : List T) (l : Int), -1 ≤ l → -1 ≤ greatL ks l ∧ greatL ks l ≤ l
  | [], l, h => by rw [greatL]; omega
  | k :: r, l, h => by
    rw [greatL]
    split
    · have h1 := greatF_le k l (by omega)
      have h2 := greatL_le r (greatF k l) (by omega)
      omega
    · omega
end
mutual
theorem greatF_ok : ∀ (t : T) (l : Int), 0 ≤ greatF t l → (count t : Int) + greatF t l ≤ l ∧ ∀ k ∈ all t, tooMuch k.hd = false
  | .mk x ks, l, h => by
    rw [greatF] at h ⊢
    split at h
    · omega
    · rename_i hc
      rw [if_neg hc]
      simp only [Bool.or_eq_true, not_or, Bool.not_eq_true] at hc
      have h1 := greatL_ok ks (l - 1) h
      rw [count_mk, all]
      refine ⟨by omega, fun k hk => ?_⟩
      rcases List.mem_cons.1 hk with e | e
      · subst e; exact hc.2
      · exact h1.2 k e
theorem greatL_ok : ∀ (ks : List T) (l : Int), 0 ≤ greatL ks l → ((allL ks).length : Int) + greatL ks l ≤ l ∧ ∀ k ∈ allL ks, tooMuch k.hd = false
  | [], l, h => by rw [greatL, allL]; simp
  | k :: r, l, h => by
    rw [greatL] at h ⊢
    split at h
    · rename_i hl
      rw [if_pos hl]
      have h2 := greatL_ok r _ h
      by_cases hk : 0 ≤ greatF k l
      · have h1 := greatF_ok k l hk
        rw [allL, List.length_append]
        refine ⟨by have := h1.1; unfold count at this; omega, fun j hj => ?_⟩
        rcases List.mem_append.1 hj with e | e
        · exact h1.2 j e
        · exact h2.2 j e
      · rw [greatL_neg (by omega)] at h; omega
    · omega
end
def GreatOf (top : Nat) (t : T) : Prop := ∀ (l : Int) (w : World), top ≤ w.heap.size → Ok w top t → 0 ≤ l → l ≤ 300 → Calls Try.prog 15 #[val t, .int .i64 l] w fun e w' => e = .returned (.int .i64 (greatF t l)) ∧ Below w.heap.size w w'
set_option maxHeartbeats 4000000 in
theorem great_of (top : Nat) : ∀ t, GreatOf top t := by
  refine T.ind fun x ks IH => ?_
  intro l w htop hok h0 h3
  show Calls Try.prog 15 #[nv x ks.length, .int .i64 l] w _
  have hlen := hok.len
  have hnl := hok.hd.nlen; have hdl := hok.hd.dlen; have htl := hok.hd.tlen
  unfold maxLen at hlen hnl hdl htl
  have HIH := Lib.hid IH; have HOK := Lib.hid hok
  have HG : Hid (greatF (.mk x ks) l = if (decide (l - 1 < 0) || tooMuch x) = true then -1 else greatL ks (l - 1)) := by show _ = _; rw [greatF]
  clear IH hok
  have HB : Hid (∀ box, Below w.heap.size w (w.alloc box)) := fun box => (Below.refl _ _).alloc (Nat.le_refl _) _
  cases hc : (decide (l - 1 < 0) || tooMuch x) with
  | true =>
    rw [hc] at HG
    by_cases h1 : l - 1 < 0
    · have h1' : decide (l - 1 < 0) = true := decide_eq_true h1
      clear hc
      go_enter Try.func15, Try.ntmps15
      go_wp2_with fail
      go_ret
      exact ⟨ret_int (by rw [HG.out]; rfl), HB.out _⟩
    · have h1' : decide (l - 1 < 0) = false := decide_eq_false h1
      rw [h1', Bool.false_or] at hc
      unfold tooMuch at hc
      by_cases g1 : 3000 < x.data.length
      · have g1' : decide ((3000 : Int) < x.data.length) = true := decide_eq_true (by omega)
        clear hc
        go_enter Try.func15, Try.ntmps15
        go_wp2_with fail
        go_ret
        exact ⟨ret_int (by rw [HG.out]; rfl), HB.out _⟩
      · have g1' : decide ((3000 : Int) < x.data.length) = false := decide_eq_false (by omega)
        rw [decide_eq_false g1, Bool.false_or] at hc
        by_cases g2 : 3000 < x.target.length
        · have g2' : decide ((3000 : Int) < x.target.length) = true := decide_eq_true (by omega)
          clear hc
          go_enter Try.func15, Try.ntmps15
          go_wp2_with fail
          go_ret
          exact ⟨ret_int (by rw [HG.out]; rfl), HB.out _⟩
        · have g2' : decide ((3000 : Int) < x.target.length) = false := decide_eq_false (by omega)
          rw [decide_eq_false g2, Bool.false_or] at hc
          have g3 := of_decide_eq_true hc
          have g3' : decide ((200 : Int) < x.names.length) = true := decide_eq_true (by omega)
          clear hc
          go_enter Try.func15, Try.ntmps15
          go_wp2_with fail
          go_ret
          exact ⟨ret_int (by rw [HG.out]; rfl), HB.out _⟩
  | false =>
    rw [hc] at HG
    have HG' : Hid (greatF (.mk x ks) l = greatL ks (l - 1)) := by show _ = _; rw [HG.out]; rfl
    clear HG
    unfold tooMuch at hc
    simp only [Bool.or_eq_false_iff, decide_eq_false_iff_not] at hc
    obtain ⟨h1, ⟨g1, g2⟩, g3⟩ := hc
    have h1' : decide (l - 1 < 0) = false := decide_eq_false h1
    have g1' : decide ((3000 : Int) < x.data.length) = false := decide_eq_false (by omega)
    have g2' : decide ((3000 : Int) < x.target.length) = false := decide_eq_false (by omega)
    have g3' : decide ((200 : Int) < x.names.length) = false := decide_eq_false (by omega)
    go_enter Try.func15, Try.ntmps15
    go_wp2_with fail
    have hbox := Blk.new w 27 #[vb x.kind, .slice x.na x.names.length x.nc, .slice x.ka ks.length x.kc, .slice x.da x.data.length x.dc, .bool x.run, .float .f64 x.stamp, vs x.target]
    have hB1 : Below w.heap.size w (w.alloc (.cells #[vb x.kind, .slice x.na x.names.length x.nc, .slice x.ka ks.length x.kc, .slice x.da x.data.length x.dc, .bool x.run, .float .f64 x.stamp, vs x.target] 27)) := HB.out _
    have hs1 : (w.alloc (.cells #[vb x.kind, .slice x.na x.names.length x.nc, .slice x.ka ks.length x.kc, .slice x.da x.data.length x.dc, .bool x.run, .float .f64 x.stamp, vs x.target] 27)).heap.size = w.heap.size + 1 := by simp
    generalize w.alloc (.cells #[vb x.kind, .slice x.na x.names.length x.nc, .slice x.ka ks.length x.kc, .slice x.da x.data.length x.dc, .bool x.run, .float .f64 x.stamp, vs x.target] 27) = W1 at *
    have HBOX := Lib.hid hbox; have HB1 := Lib.hid hB1; have HS1 := Lib.hid hs1
    clear hbox hB1 HB hs1 g1' g2' g3' h1'
    go_loopw [1, 5] (fun vl vi wr => ∃ (i : Nat) (m : Int), i ≤ ks.length ∧ vi = .int .i64 i ∧ -1 ≤ m ∧ m ≤ 300 ∧ vl = .int .i64 m ∧ Hid (greatL (ks.drop i) m = greatL ks (l - 1)) ∧ Hid (Below (w.heap.size + 1) W1 wr)) (fun _ vi _ => ks.length - (intOf vi).toNat)
    case atStart => exact ⟨0, l - 1, Nat.zero_le _, rfl, by omega, by omega, rfl, Lib.hid (by simp), Below.refl _ _⟩
    case round =>
      obtain ⟨i, m, hi, rfl, hm1, hm3, rfl, HD0, HP⟩ := hrel
      rename World => W0
      have hb2 := (HBOX.out.below HP.out (by omega)).cell 2
      simp only [List.getElem?_cons_zero, List.getElem?_cons_succ] at hb2
      by_cases hlt : i < ks.length
      · have hlt' : decide ((i : Int) < ks.length) = true := decide_eq_true (by omega)
        by_cases hm0 : 0 ≤ m
        · have hm0' : decide ((0 : Int) ≤ m) = true := decide_eq_true hm0
          have hbt : Below top w W0 := (HB1.out.mono htop).trans (HP.out.mono (by omega))
          obtain ⟨a, oa, y, ly, hAe, hat, hy, hca⟩ := HOK.out.at.cells i hlt
          have hc := hca.same (hbt.block a hat)
          obtain ⟨a0, a1, a2, a3, a4, a5, a6⟩ := hc.seven
          have hsz : w.heap.size + 1 ≤ W0.heap.size := by have := HP.out.size; have := HS1.out; omega
          have HC : Hid (Calls Try.prog 15 #[nv y ly.length, .int .i64 m] W0 fun e w' => e = .returned (.int .i64 (greatF ks[i] m)) ∧ Below W0.heap.size W0 w') := by
            have := HIH.out ks[i] (List.getElem_mem _) m W0 (by omega) ((HOK.out.kid (List.getElem_mem hlt)).keep hbt) hm0 hm3
            rw [hy] at this ⊢; exact this
          have hgl := greatF_le ks[i] m hm0
          have HTK : Hid (greatL (ks.drop (i + 1)) (greatF ks[i] m) = greatL ks (l - 1)) := by
            show _ = _
            rw [← HD0.out, List.drop_eq_getElem_cons hlt, greatL, if_pos hm0]
          have HBE := Lib.hid HP.out
          clear hbt hc hca HP hat HD0
          rw [hAe] at hb2
          clear hAe
          generalize greatF ks[i] m = gm at *
          clear hy
          go_wp2_with fail
          refine HC.out.mono ?_
          rintro e w2 ⟨rfl, hb2'⟩
          have HBE2 : Hid (Below (w.heap.size + 1) W1 w2) := HBE.out.trans (hb2'.mono hsz)
          clear hb2' HC HBE
          go_wp2_with fail
          go_roundw
          case rel => exact ⟨i + 1, gm, by omega, by go_num, by omega, by omega, rfl, HTK.out, HBE2.out⟩
          case measure => simp [intOf]; omega
        · have hm0' : decide ((0 : Int) ≤ m) = false := decide_eq_false hm0
          have HE : Hid (greatL ks (l - 1) = m) := by show _ = _; rw [← HD0.out, greatL_neg (by omega)]
          have HBE : Hid (Below w.heap.size w W0) := HB1.out.trans (HP.out.mono (by omega))
          clear HP HD0
          go_wp2_with fail
          go_ret
          exact ⟨ret_int (by rw [HG'.out, HE.out]), HBE.out⟩
      · have hlt' : decide ((i : Int) < ks.length) = false := decide_eq_false (by omega)
        have HE : Hid (greatL ks (l - 1) = m) := by show _ = _; rw [← HD0.out, List.drop_of_length_le (by omega), greatL]
        have HBE : Hid (Below w.heap.size w W0) := HB1.out.trans (HP.out.mono (by omega))
        clear HP HD0
        go_wp2_with fail
        go_ret
        exact ⟨ret_int (by rw [HG'.out, HE.out]), HBE.out⟩
end Go.Proofs.Ytlehgacbcacokaa

/- Plain facts on numbers and texts laid as bytes, and on their reading. No program is named. -/
namespace WireMath
open BaseMath

def numB (n : Int) : List By := [UInt8.ofNat (n / 256 % 256).toNat, UInt8.ofNat (n % 256).toNat]
def wideB (x : Nat) : List By := (List.range 8).map fun i => UInt8.ofNat (x / 2 ^ (56 - 8 * i))
def textB (s : List By) : List By := numB s.length ++ s
def textsB (l : List (List By)) : List By := [UInt8.ofNat l.length] ++ l.flatMap textB

/-- what a reader has: the rest, and has it failed -/
structure Rd where
  p : List By
  f : Bool
def Rd.ok (r : Rd) : Prop := r.f = true → r.p = []
def taken (n : Nat) (r : Rd) : List By := if r.p.length < n then [] else r.p.take n
def after (n : Nat) (r : Rd) : Rd := if r.p.length < n then ⟨[], true⟩ else ⟨r.p.drop n, r.f⟩
def fails : Rd := ⟨[], true⟩
def numR (n : Nat) (r : Rd) : Nat := val 256 (nat (taken n r))
def textR (r : Rd) : List By := taken (numR 2 r) (after 2 r)
def textA (r : Rd) : Rd := after (numR 2 r) (after 2 r)
/-- k texts, as long as none fails -/
def textsGo : Nat → List (List By) → Rd → List (List By) × Rd
  | 0, acc, r => (acc, r)
  | k + 1, acc, r => if r.f then (acc, r) else textsGo k (acc ++ [textR r]) (textA r)
def texts0 (most : Int) (r : Rd) : Rd := if most < (numR 1 r : Int) then fails else after 1 r
def textsAll (most : Int) (r : Rd) : List (List By) × Rd := textsGo (numR 1 r) [] (texts0 most r)
def textsR (most : Int) (r : Rd) : List (List By) := if (textsAll most r).2.f then [] else (textsAll most r).1
def textsA (most : Int) (r : Rd) : Rd := (textsAll most r).2

theorem taken_length (n : Nat) (r : Rd) : (taken n r).length ≤ n := by unfold taken; split <;> simp; omega
theorem taken_few (n : Nat) (r : Rd) (h : r.p.length < n) : taken n r = [] ∧ after n r = fails := by simp [taken, after, fails, h]
theorem taken_all (n : Nat) (r : Rd) (h : n ≤ r.p.length) : taken n r = r.p.take n ∧ after n r = ⟨r.p.drop n, r.f⟩ := by
  simp [taken, after, show ¬ r.p.length < n by omega]
theorem ok_after {r : Rd} (h : r.ok) (n : Nat) : (after n r).ok := by
  unfold after; split
  · intro _; rfl
  · intro hf; simp at hf; simp [h hf]
theorem ok_fails : fails.ok := fun _ => rfl
theorem ok_textA {r : Rd} (h : r.ok) : (textA r).ok := ok_after (ok_after h 2) _
theorem ok_textsGo : ∀ (k : Nat) (acc : List (List By)) (r : Rd), r.ok → (textsGo k acc r).2.ok
  | 0, _, _, h => h
  | k + 1, acc, r, h => by
    unfold textsGo; split
    · exact h
    · exact ok_textsGo k _ _ (ok_textA h)
theorem ok_textsA {r : Rd} (h : r.ok) (most : Int) : (textsA most r).ok := by
  unfold textsA textsAll
  refine ok_textsGo _ _ _ ?_
  unfold texts0; split
  · exact ok_fails
  · exact ok_after h 1
theorem numR_lt (n : Nat) (r : Rd) : numR n r < 256 ^ n := by
  unfold numR
  refine Nat.lt_of_lt_of_le (val_lt 256 _ (nat_lt _)) (Nat.pow_le_pow_right (by decide) ?_)
  rw [nat_length]; exact taken_length n r
theorem textsGo_failed (k : Nat) (acc : List (List By)) (r : Rd) (h : r.f = true) : textsGo k acc r = (acc, r) := by
  cases k with
  | zero => rfl
  | succ k => unfold textsGo; rw [if_pos h]
/-- one round of the loop -/
theorem textsGo_step (n k : Nat) (acc : List (List By)) (r : Rd) (hk : k < n) (h : r.f = false) : textsGo (n - k) acc r = textsGo (n - (k + 1)) (acc ++ [textR r]) (textA r) := by
  rw [show n - k = (n - (k + 1)) + 1 by omega]
  conv => lhs; unfold textsGo
  simp [h]
end WireMath
