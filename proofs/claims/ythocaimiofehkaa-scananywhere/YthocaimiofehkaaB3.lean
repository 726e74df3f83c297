/- The contracts of the reference's bit and Text. -/
import Derived.Test.YthocaimiofehkaaB2
namespace Go.Proofs.Ythocaimiofehkaa
open Go.RowKit BaseMath

theorem bit_end (z : Nat) (h : z < 256) : (wrap64 (z : Int)).tmod 2 = ((z % 2 : Nat) : Int) := by
  have : wrap64 (z : Int) = z := by unfold wrap64; omega
  rw [this, Int.tmod_eq_emod_of_nonneg (by omega)]; omega
set_option maxHeartbeats 1000000 in
set_option maxRecDepth 100000 in
theorem bit_any (A : Option Addr) (cap : Nat) (p : List By) (hp : p.length ≤ 1000000) (i : Nat) (hi : i ≤ 10000000) (w : World) (hA : SrcIs w A p) :
    Calls Try.prog 47 #[.slice A p.length cap, .int .i64 i] w fun e w' => e = .returned (.int .i64 (bit p i : Nat)) ∧ w = w' := by
  obtain ⟨a, r, rfl, hr⟩ : ∃ a r, i = 8 * a + r ∧ r < 8 := ⟨i / 8, i % 8, by omega, by omega⟩
  have h1 : ((8 * a + r : Nat) : Int) / 8 = (a : Nat) := by omega
  have h2 : ((8 * a + r : Nat) : Int) % 8 = (r : Nat) := by omega
  have HB := Lib.hid (bit_at p a r hr)
  obtain ⟨i, HI⟩ : ∃ i, Hid (i = 8 * a + r) := ⟨_, rfl⟩
  rw [← HI.out] at h1 h2 HB ⊢
  rw [← HI.out] at hi
  by_cases ha : a < p.length
  · obtain ⟨b, o, rfl, hb⟩ := hA (by omega)
    have hn : ¬ ((p.length : Int) ≤ a) := by omega
    have c1 := hb.getD a ha
    have hx : (p.getD a 0).toNat < 256 := (p.getD a 0).toNat_lt
    unfold pb at HB
    generalize p.getD a 0 = x at *
    clear hb hA HI
    go_enter Try.func47, Try.ntmps47
    go_wp2
    go_ret
    refine ⟨ret_int ?_, rfl⟩
    rw [HB.out, pow_div]
    exact bit_end _ (Nat.lt_of_le_of_lt (Nat.div_le_self _ _) hx)
  · have hn : ((p.length : Int) ≤ a) := by omega
    rw [pb_behind p a (by omega), Nat.zero_div] at HB
    clear hA HI
    go_enter Try.func47, Try.ntmps47
    go_wp2
    go_ret
    exact ⟨ret_int (by rw [HB.out]; rfl), rfl⟩
/-- the first k of the five bits behind t -/
def nk (p : List By) (t : Nat) : Nat → Nat
  | 0 => 0
  | k + 1 => 2 * nk p t k + bit p (t + k)
theorem nk_lt (p : List By) (t k : Nat) (h : k ≤ 5) : nk p t k < 32 := by
  have h0 : nk p t 0 = 0 := rfl
  have b0 := bit_lt p t; have b1 := bit_lt p (t + 1); have b2 := bit_lt p (t + 2); have b3 := bit_lt p (t + 3); have b4 := bit_lt p (t + 4)
  have e : k = 0 ∨ k = 1 ∨ k = 2 ∨ k = 3 ∨ k = 4 ∨ k = 5 := by omega
  rcases e with rfl | rfl | rfl | rfl | rfl | rfl <;> simp only [nk, Nat.add_zero] <;> omega
theorem nk_five (p : List By) (j : Nat) : nk p (5 * j) 5 = five p j := by
  rw [five_bits]; simp only [nk, Nat.add_zero]; omega
/-- the first j letters -/
def textN (p : List By) (j : Nat) : List By := (List.range j).map fun i => letter (five p i)
theorem textN_succ (p : List By) (j : Nat) : (textN p (j + 1)).map vb = (textN p j).map vb ++ [vb (letter (five p j))] := by
  unfold textN; rw [List.range_succ]; simp
theorem textN_length (p : List By) (j : Nat) : ((textN p j).map vb).length = j := by simp [textN]
theorem textN_last (p : List By) (j : Nat) (h : 8 * p.length ≤ 5 * j) (h2 : j ≤ len p.length) : textN p j = text p := by
  have := len_fit p.length
  obtain rfl : j = len p.length := by omega
  simp [textN, text, digs]
set_option maxHeartbeats 1000000 in
set_option maxRecDepth 100000 in
theorem reftext_any (A : Option Addr) (cap : Nat) (p : List By) (hp : p.length ≤ 100000) (w : World) (hA : SrcIs w A p) :
    Calls Try.prog 35 #[.slice A p.length cap] w fun e w' => e = .returned (.string ⟨(text p).toArray⟩) ∧ Below w.heap.size w w' := by
  have HA := Lib.hid hA; clear hA
  have hl := len_fit p.length
  go_enter Try.func35, Try.ntmps35
  go_wp2_with fail
  go_loopw [3, 4] (fun v vi wr => ∃ j : Nat, j ≤ len p.length ∧ vi = .int .i64 (5 * j : Nat) ∧ Hid (RowRel w 5 ((textN p j).map vb) v wr)) (fun _ vi _ => 5 * len p.length - (intOf vi).toNat)
  case atStart => exact ⟨0, Nat.zero_le _, rfl, RowRel.none w 5⟩
  case round =>
    obtain ⟨j, hj, rfl, HR⟩ := hrel
    rename World => W0
    rename Value => v
    obtain ⟨i, hi⟩ : ∃ i, i = 5 * j := ⟨_, rfl⟩
    rw [← hi]
    have HI := Lib.hid hi
    by_cases hlt : i < 8 * p.length
    · have hj2 : i + 5 ≤ 5 * len p.length := by omega
      clear hi
      have hlt' : ((i : Int) < 8 * p.length) := by omega
      have HA1 := Lib.hid (HA.out.below HR.out.below)
      go_wp2_with fail
      go_loop [5, 6] (fun vn vk => ∃ k : Nat, k ≤ 5 ∧ vk = .int .i64 k ∧ vn = .int .i64 (nk p i k : Nat)) (fun _ vk => 5 - (intOf vk).toNat)
      case atStart => exact ⟨0, by omega, rfl, rfl⟩
      case round =>
        obtain ⟨k, hk, rfl, rfl⟩ := hrel
        have hnk := nk_lt p i k hk
        by_cases hk5 : k < 5
        · have HN : Hid (nk p i (k + 1) = 2 * nk p i k + bit p (i + k)) := rfl
          generalize nk p i k = n at *
          have hbl := bit_lt p (i + k)
          go_wp2_with fail
          rw [show (i : Int) + k = ((i + k : Nat) : Int) by omega]
          refine (bit_any A cap p (by omega) (i + k) (by omega) W0 HA1.out).mono ?_
          rintro e w2 ⟨rfl, rfl⟩
          generalize bit p (i + k) = bb at *
          go_wp2_with fail
          go_round
          case rel => exact ⟨k + 1, by omega, by go_num, by rw [HN.out]; go_num⟩
          case measure => simp [intOf]; omega
        · obtain rfl : k = 5 := by omega
          have hfl := five_lt p j
          have e5 : nk p i 5 = five p j := by rw [HI.out]; exact nk_five p j
          rw [e5]
          clear e5
          have HS := Lib.hid (textN_succ p j)
          have HLn := Lib.hid (textN_length p j)
          generalize five p j = d at *
          go_wp2_with (refine wpList_push Try.underlying26 info5 rfl (by decide) rfl (.tmp 26) (.tmp 29) rfl HR.out rfl _ 1 rfl rfl rfl (by rw [HLn.out]; omega) ?_)
          intro v1 w1 hr1
          rw [letter_get d hfl, ← HS.out] at hr1
          have HR1 := Lib.hid hr1
          clear hr1
          go_wp2_with fail
          go_roundw
          case rel => exact ⟨j + 1, by have := HI.out; omega, by rw [HI.out]; go_num, HR1.out⟩
          case measure => simp [intOf]; omega
    · have hlt' : ¬ ((i : Int) < 8 * p.length) := by omega
      have HT := Lib.hid (textN_last p j (by omega) hj)
      clear hi
      obtain ⟨A1, c1, rfl, hs1, _⟩ := HR.out.src
      rw [HT.out] at hs1 ⊢
      have HB := Lib.hid HR.out.below
      clear HR
      have hcv := run_text_src (cap := c1) hs1
      clear hs1
      go_wp2_with fail
      go_ret
      exact ⟨rfl, HB.out⟩
end Go.Proofs.Ythocaimiofehkaa
