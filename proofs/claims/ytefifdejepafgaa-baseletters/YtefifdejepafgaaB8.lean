/- The walk of BaseLetters. -/
import Derived.Test.YtefifdejepafgaaB7
import Derived.Deep.DeepCutAuto
namespace Go.Proofs.Ytefifdejepafgaa
open Go.RowKit BaseMath

def zeros16 (q : Nat) (c : By) : List By := (List.replicate 16 48).set q c
theorem zeros16_length (q : Nat) (c : By) : (zeros16 q c).length = 16 := by simp [zeros16]
theorem zeros16_good (q : Nat) (hq : q < 16) (c : By) : good (zeros16 q c) = decide (idx c < 32) := by
  by_cases h : idx c < 32
  · have hk : known (zeros16 q c) = true := by
      simp only [known, List.all_eq_true, decide_eq_true_eq]
      intro x hx
      rcases List.mem_or_eq_of_mem_set hx with h1 | h1
      · have := (List.mem_replicate.1 h1).2; subst this; decide
      · subst h1; exact h
    have hi := dec_is hk
    have h1 := hi.len; have h2 := hi.bits; have h3 := hi.lt
    rw [List.length_map, zeros16_length] at h1
    have h0 : (run ((zeros16 q c).map idx)).bits = 0 := by omega
    rw [h0] at h3
    rw [decide_eq_true h]
    simp only [good, Bool.and_eq_true, decide_eq_true_eq]
    exact ⟨⟨hk, by rw [zeros16_length]; decide⟩, by omega⟩
  · rw [decide_eq_false h]
    refine bad_of_letter q (by rw [zeros16_length]; exact hq) ?_
    unfold zeros16; rw [List.getElem_set_self]; exact h
/-- has a letter stood there? -/
def kn (c : By) (k : Nat) : Bool := (List.range k).any fun j => letter j == c
theorem kn_succ (c : By) (k : Nat) : kn c (k + 1) = (kn c k || letter k == c) := by simp [kn, List.range_succ]
theorem kn_all (c : By) : kn c 32 = decide (idx c < 32) := by
  rw [Bool.eq_iff_iff]
  simp only [kn, List.any_eq_true, List.mem_range, beq_iff_eq, decide_eq_true_eq]
  constructor
  · rintro ⟨j, hj, rfl⟩; exact letter_known j hj
  · intro h; exact ⟨_, h, letter_idx c h⟩
/-- the last one of some blocks is turned -/
theorem turn_last (a : Array Obj) (x : Obj) (f : Obj → Obj) : (a.push x).modify a.size f = a.push (f x) := by
  refine Array.ext_getElem? fun i => ?_
  rw [Array.getElem?_modify, Array.getElem?_push, Array.getElem?_push]
  by_cases h : i = a.size
  · subst h; simp
  · rw [if_neg (fun e => h e.symm), if_neg h, if_neg h]
/-- a literal text as bytes: a new row that bears the mark behind its end -/
theorem run_stringish (w : World) (C : Array Value) (l c : Nat) :
    (convert 22 22 (.slice (some ⟨w.heap.size, 0, none⟩) l c)).run Try.prog (w.alloc (.cells C 5)) = .ok (.slice (some ⟨w.heap.size, 0, none⟩) l c) (w.alloc (.cells C 5 (C.size, C.size + 1))) := by
  have hsh : (w.alloc (.cells C 5)).shape? w.heap.size = some (5, C.size) := by unfold World.shape?; rw [heap_alloc_last]
  have hfr : ∀ n, (w.alloc (.cells C 5)).freeze ⟨w.heap.size, n, none⟩ 1 = w.alloc (.cells C 5 (n, n + 1)) := fun n => by
    exact congrArg (fun h => ({ w.alloc (.cells C 5) with heap := h } : World)) (turn_last w.heap (.cells C 5) _)
  simp [convert, run_underlying Try.underlying22, run_underlying Try.underlying5, markStringish, hsh]
  exact hfr _
/-- a row of 16 letters, as it may be read -/
structure Lit16 (w : World) (g : Nat) (l : List By) : Prop where
  at' : BytesAt w g 0 l
  free : ∀ j, j < 16 → w.frozen? ⟨g, j, none⟩ = false
theorem lit16 (w : World) : Lit16 (w.alloc (.cells ((zeros16 16 0).map vb).toArray 5 (16, 17))) w.heap.size (zeros16 16 0) := by
  refine ⟨fun k hk => ?_, fun j hj => ?_⟩
  · rw [Nat.zero_add, World.cell?_alloc_mark]; simp [hk]
  · rw [World.frozen?_alloc_mark]; simp; omega
theorem zeros16_set (q : Nat) (c : By) : (zeros16 16 0).set q c = zeros16 q c := by simp [zeros16]
theorem Lit16.bytes {w : World} {g : Nat} {q : Nat} (h : Lit16 w g (zeros16 16 0)) (c : By) : BytesAt (w.setCell ⟨g, q, none⟩ (vb c)) g 0 (zeros16 q c) := by
  intro k hk
  rw [zeros16_length] at hk
  have hk' : k < (zeros16 16 0).length := by rw [zeros16_length]; exact hk
  have h0 := h.at' k hk'
  rw [Nat.zero_add] at h0 ⊢
  by_cases e : q = k
  · subst e
    rw [World.cell?_setCell_same _ _ _ h0]; simp [zeros16]
  · rw [World.cell?_setCell_other _ _ _ _ (by intro h; cases h; exact e rfl), h0]
    simp [zeros16, e]
theorem bytes_flag (s : List By) (hs : s.length ≤ 100000) (er : Int) (her : er = if good s then 0 else 2) (w : World) :
    Calls Try.prog 17 #[.string ⟨s.toArray⟩] w fun e w' => (∃ v, e = .returned (.tuple #[v, .int .i64 er])) ∧ Below w.heap.size w w' :=
  (bytes_any s hs w).mono fun e w' hp => by
    rcases hp with ⟨h, v, rfl, hr⟩ | ⟨h, rfl, hr⟩
    · rw [h] at her; subst her; exact ⟨⟨v, rfl⟩, hr.below⟩
    · rw [h] at her; subst her; exact ⟨⟨_, rfl⟩, hr⟩
set_option maxHeartbeats 1000000 in
theorem letters_walk (c at' : By) (w : World) :
    Calls Try.prog 5 #[vb c, vb at'] w fun e w' => e = .returned (.bool true) ∧ Below w.heap.size w w' := by
  obtain ⟨q, hq⟩ : ∃ q, q = at'.toNat % 16 := ⟨_, rfl⟩
  have hq1 : (at'.toNat : Int) % 16 = (q : Nat) := by omega
  have hq2 : q < 16 := by omega
  have hat : at'.toNat < 256 := at'.toNat_lt
  clear hq
  have HG := Lib.hid (zeros16_good q hq2 c)
  have HKA := Lib.hid (kn_all c)
  go_enter Try.func5, Try.ntmps5
  go_wp2_with fail
  refine (two_any w).mono ?_
  rintro e w1 ⟨rfl, hb1⟩
  have HB1 := Lib.hid hb1; clear hb1
  have hcv := run_stringish w1 ((zeros16 16 0).map vb).toArray 16 16
  have hcv : (convert 22 22 (.slice (some ⟨w1.heap.size, 0, none⟩) 16 16)).run Try.prog (w1.alloc (.cells #[.int .u8 48, .int .u8 48, .int .u8 48, .int .u8 48, .int .u8 48, .int .u8 48, .int .u8 48, .int .u8 48, .int .u8 48, .int .u8 48, .int .u8 48, .int .u8 48, .int .u8 48, .int .u8 48, .int .u8 48, .int .u8 48] 5)) = .ok (.slice (some ⟨w1.heap.size, 0, none⟩) 16 16) (w1.alloc (.cells ((zeros16 16 0).map vb).toArray 5 (16, 17))) := hcv
  generalize hW1 : w1.alloc (.cells ((zeros16 16 0).map vb).toArray 5 (16, 17)) = W1 at *
  have HL : Hid (Lit16 W1 w1.heap.size (zeros16 16 0)) := by show Lit16 _ _ _; rw [← hW1]; exact lit16 w1
  have HBW : Hid (Below w.heap.size w W1) := by show Below _ _ _; rw [← hW1]; exact HB1.out.alloc HB1.out.size _
  have hsz := HB1.out.size
  clear hW1
  go_upto_region 4 with fail
  clear hcv
  have hlen : q < (zeros16 16 0).length := by rw [zeros16_length]; exact hq2
  have c0 := HL.out.at' q hlen
  rw [Nat.zero_add] at c0
  have f0 := HL.out.free q hq2
  have hcv := run_text (cap := 16) (HL.out.bytes c) (zeros16_length q c)
  generalize (zeros16 16 0)[q] = old at *
  have HBS : Hid (Below w.heap.size w (W1.setCell ⟨w1.heap.size, q, none⟩ (vb c))) := HBW.out.setCell hsz _
  obtain ⟨er, HE⟩ : ∃ er : Int, Hid (er = if good (zeros16 q c) then 0 else 2) := ⟨_, rfl⟩
  go_wp2_with fail
  refine (bytes_flag (zeros16 q c) (by rw [zeros16_length]; decide) er HE.out _).mono ?_
  rintro e w2 ⟨⟨v, rfl⟩, hb2⟩
  have HB2 : Hid (Below w.heap.size w w2) := HBS.out.trans (hb2.mono HBS.out.size)
  rw [HG.out] at HE
  clear hb2 HBS HL HBW c0 f0 hcv hlen HB1 HG
  go_wp2_with fail
  go_loop [8, 9] (fun vk vi => ∃ k : Nat, k ≤ 32 ∧ vi = .int .i64 k ∧ vk = .bool (kn c k)) (fun _ vi => 32 - (intOf vi).toNat)
  case atStart => exact ⟨0, by omega, rfl, rfl⟩
  case round =>
    obtain ⟨k, hk, rfl, rfl⟩ := hrel
    by_cases hlt : k < 32
    · have hle := letter_get k hlt
      have HS := Lib.hid (kn_succ c k)
      cases hkn : kn c k with
      | true =>
        rw [hkn, Bool.true_or] at HS
        clear hkn
        go_wp2_with fail
        go_round
        case rel => exact ⟨k + 1, by omega, by go_num, by rw [HS.out]⟩
        case measure => simp [intOf]; omega
      | false =>
        rw [hkn, Bool.false_or] at HS
        clear hkn
        have ht : (((letter k).toNat : Int) == (c.toNat : Int)) = (letter k == c) := by
          rw [Bool.eq_iff_iff]; simp only [beq_iff_eq]
          constructor
          · intro h; exact UInt8.toNat_inj.1 (by omega)
          · intro h; rw [h]
        generalize hx : (letter k == c) = x at *
        have HX := Lib.hid hx; clear hx
        go_wp2_with fail
        go_round
        case rel => exact ⟨k + 1, by omega, by go_num, by rw [HS.out]⟩
        case measure => simp [intOf]; omega
    · obtain rfl : k = 32 := by omega
      rw [HKA.out]
      by_cases hd : idx c < 32
      · have he : er = 0 := by rw [HE.out, decide_eq_true hd]; rfl
        rw [decide_eq_true hd]
        subst he
        clear HE hd HKA
        go_wp2_with fail
        go_ret
        exact ⟨rfl, HB2.out⟩
      · have he : er = 2 := by rw [HE.out, decide_eq_false hd]; rfl
        rw [decide_eq_false hd]
        subst he
        clear HE hd HKA
        go_wp2_with fail
        go_ret
        exact ⟨rfl, HB2.out⟩
end Go.Proofs.Ytefifdejepafgaa
