/- The contracts of strings.IndexByte at the letters, and of base.Bytes. -/
import Derived.Test.YthocaimiofehkaaB3
import Derived.Laws.Externs
namespace Go.Proofs.Ythocaimiofehkaa
open Go.RowKit BaseMath

/-- a letter's place, or -1 -/
def place (c : By) : Int := if idx c < 32 then (idx c : Int) else -1
theorem first_place (c : By) : firstIdx (ByteArray.mk #[48, 49, 50, 51, 52, 53, 54, 55, 56, 57, 97, 98, 99, 100, 102, 103, 104, 105, 106, 107, 108, 109, 110, 112, 113, 114, 115, 118, 119, 120, 121, 122]) c = place c := by
  have h : ∀ n, n < 256 → firstIdx (ByteArray.mk letters.toArray) (UInt8.ofNat n) = place (UInt8.ofNat n) := by decide +kernel
  have := h c.toNat c.toNat_lt
  rw [UInt8.ofNat_toNat] at this
  exact this
theorem run_index (s : ByteArray) (c : Int) (w : World) : (callFunc 79 #[.string s, .int .u8 c]).run Try.prog w = .ok (.value (.int .i64 (firstIdx s c.toNat.toUInt8))) w := by
  rw [run_callFunc_extern Try.func79 (by kernel_rfl) (by kernel_rfl) (by kernel_rfl) (e := Extern.BytealgIndexByte.indexByte) (by kernel_rfl), run_indexByte_string]
  rfl
attribute [go_sem] run_index
theorem inner_any (s : ByteArray) (c : By) (w : World) :
    Calls Try.prog 67 #[.string s, vb c] w fun e w' => e = .returned (.int .i64 (firstIdx s c)) ∧ w = w' := by
  go_enter Try.func67, Try.ntmps67
  go_wp2
  go_ret
  refine ⟨ret_int ?_, rfl⟩
  simp
theorem index_any (s : ByteArray) (c : By) (w : World) :
    Calls Try.prog 51 #[.string s, vb c] w fun e w' => e = .returned (.int .i64 (firstIdx s c)) ∧ w = w' := by
  go_enter Try.func51, Try.ntmps51
  go_wp2_with fail
  refine (inner_any s c w).mono ?_
  rintro e w1 ⟨rfl, rfl⟩
  go_wp2
  go_ret
  exact ⟨rfl, rfl⟩
theorem len_iff (L : Nat) : len (5 * L / 8) = L ↔ 5 * L % 8 ≤ 4 := by
  constructor
  · intro h; have := len_fit (5 * L / 8); rw [h] at this; omega
  · intro h; exact len_back _ (5 * L % 8) L (by omega) h
/-- what Bytes comes to -/
def BytesPost (s : List By) (w : World) (e : Ending) (w' : World) : Prop :=
  (good s = true ∧ ∃ v, e = .returned (.tuple #[v, .int .i64 0]) ∧ RowRel w 5 ((dec s).map vb) v w') ∨ (good s = false ∧ e = .returned (.tuple #[.slice none 0 0, .int .i64 2]) ∧ Below w.heap.size w w')
theorem bad_of_len {s : List By} (h : len (5 * s.length / 8) ≠ s.length) : good s = false := by
  have : ¬ 5 * s.length % 8 ≤ 4 := fun h2 => h ((len_iff _).2 h2)
  unfold good; simp [this]
theorem bad_of_letter {s : List By} (k : Nat) (hk : k < s.length) (h : ¬ idx s[k] < 32) : good s = false := by
  have : known s = false := by
    unfold known; rw [List.all_eq_false]
    exact ⟨s[k], List.getElem_mem hk, by simpa using h⟩
  unfold good; simp [this]
theorem bad_of_held {s : List By} (h : (run (s.map idx)).held ≠ 0) : good s = false := by
  unfold good; simp [h]
theorem take_snoc (s : List By) (k : Nat) (h : k < s.length) : (s.take (k + 1)).map idx = (s.take k).map idx ++ [idx s[k]] := by
  rw [List.take_succ_eq_append_getElem h, List.map_append]; rfl
theorem or_five (h d : Nat) (hh : h < 128) (hd : d < 32) : bits .or .i64 ((h : Int) * 32) (d : Int) = ((h * 32 + d : Nat) : Int) := by
  rw [show (h : Int) * 32 = ((h * 32 : Nat) : Int) by omega, i64_or_nat _ _ (by omega) (by omega), nat_join 5 (h * 32) d (by omega) hd]
theorem and_mask (H k : Nat) (hH : H < 4096) (hk : k ≤ 7) : bits .and .i64 (H : Int) ((2 ^ k - 1 : Nat) : Int) = ((H % 2 ^ k : Nat) : Int) := by
  have : 2 ^ k ≤ 2 ^ 7 := Nat.pow_le_pow_right (by decide) hk
  rw [i64_and_nat _ _ (by omega) (by omega), Nat.and_two_pow_sub_one_eq_mod]
theorem ofnat_vb (n : Nat) (h : n < 256) : vb (UInt8.ofNat n) = .int .u8 (n : Int) := by
  unfold vb; rw [UInt8.toNat_ofNat_of_lt' h]
theorem cast_div_0 (H : Nat) : ((H / 1 : Nat) : Int) = (H : Int) := by omega
theorem cast_div_1 (H : Nat) : ((H / 2 : Nat) : Int) = (H : Int) / 2 := by omega
theorem cast_div_2 (H : Nat) : ((H / 4 : Nat) : Int) = (H : Int) / 4 := by omega
theorem cast_div_3 (H : Nat) : ((H / 8 : Nat) : Int) = (H : Int) / 8 := by omega
theorem cast_div_4 (H : Nat) : ((H / 16 : Nat) : Int) = (H : Int) / 16 := by omega
theorem wrap_u8_of {n : Int} : IntKind.u8.wrap n = n % 256 := IntKind.wrap_u8' n
/-- what stands ahead of a round -/
structure DecRel (w : World) (s : List By) (k : Nat) (v : Value) (h b : Nat) (wr : World) : Prop where
  row : RowRel w 5 ((run ((s.take k).map idx)).p.map vb) v wr
  held : (run ((s.take k).map idx)).held = h
  bits : (run ((s.take k).map idx)).bits = b
  known : ∀ d ∈ (s.take k).map idx, d < 32
theorem DecRel.is {w : World} {s : List By} {k : Nat} {v : Value} {h b : Nat} {wr : World} (r : DecRel w s k v h b wr) : Is ((s.take k).map idx) (run ((s.take k).map idx)).p h b := by
  have := run_is _ r.known
  rw [r.held, r.bits] at this
  exact this
theorem DecRel.next {w : World} {s : List By} {k : Nat} {v : Value} {h b : Nat} {wr : World} (r : DecRel w s k v h b wr) (hk : k < s.length) (hd : idx s[k] < 32) (hb : b + 5 < 8) : DecRel w s (k + 1) v (h * 32 + idx s[k]) (b + 5) wr := by
  have e : run ((s.take (k + 1)).map idx) = ⟨(run ((s.take k).map idx)).p, h * 32 + idx s[k], b + 5⟩ := by
    rw [take_snoc s k hk, run_snoc]; unfold BaseMath.step; rw [r.held, r.bits, if_pos hb]
  refine ⟨by rw [e]; exact r.row, by rw [e], by rw [e], ?_⟩
  intro d hdm; rw [take_snoc s k hk] at hdm
  rcases List.mem_append.1 hdm with h1 | h1
  · exact r.known d h1
  · simp at h1; subst h1; exact hd
theorem DecRel.push {w : World} {s : List By} {k : Nat} {v v' : Value} {h b : Nat} {wr wr' : World} (r : DecRel w s k v h b wr) (hk : k < s.length) (hd : idx s[k] < 32) (hb : ¬ b + 5 < 8)
    (hr : RowRel w 5 ((run ((s.take k).map idx)).p.map vb ++ [vb (UInt8.ofNat ((h * 32 + idx s[k]) / 2 ^ (b - 3)))]) v' wr') : DecRel w s (k + 1) v' ((h * 32 + idx s[k]) % 2 ^ (b - 3)) (b - 3) wr' := by
  have e : run ((s.take (k + 1)).map idx) = ⟨(run ((s.take k).map idx)).p ++ [UInt8.ofNat ((h * 32 + idx s[k]) / 2 ^ (b - 3))], (h * 32 + idx s[k]) % 2 ^ (b - 3), b - 3⟩ := by
    rw [take_snoc s k hk, run_snoc]; unfold BaseMath.step; rw [r.held, r.bits, if_neg hb]
  refine ⟨by rw [e, List.map_append]; exact hr, by rw [e], by rw [e], ?_⟩
  intro d hdm; rw [take_snoc s k hk] at hdm
  rcases List.mem_append.1 hdm with h1 | h1
  · exact r.known d h1
  · simp at h1; subst h1; exact hd
set_option maxHeartbeats 1000000 in
set_option maxRecDepth 100000 in
theorem bytes_any (s : List By) (hs : s.length ≤ 100000) (w : World) :
    Calls Try.prog 38 #[.string ⟨s.toArray⟩] w (BytesPost s w) := by
  obtain ⟨m, hm⟩ : ∃ m, m = 5 * s.length / 8 := ⟨_, rfl⟩
  have h1 : (s.length * 5 : Int) / 8 = (m : Nat) := by omega
  have hmL : m ≤ s.length := by omega
  by_cases hlen : len m = s.length
  · have hq : (((s.length : Nat) : Int) != (s.length : Int)) = false := by simp
    have hmk : ∀ w, (Instr.makeSlice 26 (.int .i64 0) (.int .i64 (m : Nat))).run Try.prog w = .ok (.slice (some ⟨w.heap.size, 0, none⟩) 0 m) (w.alloc (.cells (List.replicate m (.int .u8 0)).toArray 5)) := fun w => run_mk 0 m (by omega) (by omega) w
    have HR : Hid (DecRel w s 0 (.slice (some ⟨w.heap.size, 0, none⟩) 0 m) 0 0 (w.alloc (.cells (List.replicate m (.int .u8 0)).toArray 5))) := by
      refine ⟨⟨(Below.refl _ _).alloc (Nat.le_refl _) _, rfl, .inr ⟨w.heap.size, m, _, rfl, Nat.le_refl _, Blk.new w 5 _, Nat.zero_le _, by unfold maxLen; omega, by simp, by simp; rfl⟩⟩, rfl, rfl, by simp⟩
    obtain ⟨z0, HZ⟩ : ∃ z, Hid (z = (List.replicate m (Value.int .u8 0)).toArray) := ⟨_, rfl⟩
    rw [← HZ.out] at HR hmk
    have HM := Lib.hid hm; have HLEN := Lib.hid hlen; clear hm hlen HZ
    go_enter Try.func38, Try.ntmps38
    go_wp2_with fail
    refine (len_any m (by omega) w).mono ?_
    rintro e w1 ⟨rfl, rfl⟩
    rw [HLEN.out]
    go_wp2_with fail
    go_loopw [5, 6, 7, 23] (fun v vh vb' vi wr => ∃ k h b : Nat, k ≤ s.length ∧ vi = .int .i64 k ∧ vh = .int .i64 h ∧ vb' = .int .i64 b ∧ Hid (DecRel w s k v h b wr)) (fun _ _ _ vi _ => s.length - (intOf vi).toNat)
    case atStart => exact ⟨0, 0, 0, Nat.zero_le _, rfl, rfl, rfl, HR.out⟩
    case round =>
      clear HR hmk hq h1
      obtain ⟨k, h, b, hk, rfl, rfl, rfl, HR⟩ := hrel
      rename World => W0
      by_cases hlt : k < s.length
      · by_cases hd : idx s[k] < 32
        · have hpl : place s[k] = (idx s[k] : Nat) := by unfold place; rw [if_pos hd]
          have his := HR.out.is
          have hb8 := his.bits
          have hhb : h < 2 ^ b := his.lt
          have hh : h < 128 := Nat.lt_of_lt_of_le hhb (Nat.pow_le_pow_right (by decide) (by omega : b ≤ 7))
          have hor := or_five h (idx s[k]) hh hd
          have hlt5 := step_lt h b (idx s[k]) hhb hd
          by_cases hb5 : b + 5 < 8
          · have HN := Lib.hid (HR.out.next hlt hd hb5)
            have hb5' : ¬ ((8 : Int) ≤ b + 5) := by omega
            have HPL := Lib.hid hpl
            have HPLACE : Hid (firstIdx (ByteArray.mk #[48, 49, 50, 51, 52, 53, 54, 55, 56, 57, 97, 98, 99, 100, 102, 103, 104, 105, 106, 107, 108, 109, 110, 112, 113, 114, 115, 118, 119, 120, 121, 122]) (ByteArray.mk s.toArray)[k] = (idx s[k] : Nat)) := by
              show firstIdx _ s[k] = _; rw [first_place, hpl]
            clear his hhb hlt5 hpl HPL HR
            generalize idx s[k] = d at *
            obtain ⟨H, HH⟩ : ∃ H, Hid (H = h * 32 + d) := ⟨_, rfl⟩
            rw [← HH.out] at hor HN
            go_wp2_with fail
            refine (index_any _ (ByteArray.mk s.toArray)[k] W0).mono ?_
            rintro e w2 ⟨rfl, rfl⟩
            rw [HPLACE.out]
            go_wp2_with fail
            go_roundw
            case rel => exact ⟨k + 1, H, b + 5, by omega, by go_num, rfl, by go_num, HN.out⟩
            case measure => simp [intOf]; omega
          · have hb3 : b = 3 ∨ b = 4 ∨ b = 5 ∨ b = 6 ∨ b = 7 := by omega
            have HPLACE : Hid (firstIdx (ByteArray.mk #[48, 49, 50, 51, 52, 53, 54, 55, 56, 57, 97, 98, 99, 100, 102, 103, 104, 105, 106, 107, 108, 109, 110, 112, 113, 114, 115, 118, 119, 120, 121, 122]) (ByteArray.mk s.toArray)[k] = (idx s[k] : Nat)) := by
              show firstIdx _ s[k] = _; rw [first_place, hpl]
            have HPUSH := Lib.hid (fun v' wr' => HR.out.push (v' := v') (wr' := wr') hlt hd hb5)
            have HROW := Lib.hid HR.out.row
            have HLn : Hid ((run ((s.take k).map idx)).p.length ≤ 100000) := by
              show _ ≤ _
              have := his.len; simp at this ⊢; omega
            clear his hpl hb5 HR
            generalize idx s[k] = d at *
            generalize (run ((s.take k).map idx)).p = P at *
            obtain ⟨H, HH⟩ : ∃ H, Hid (H = h * 32 + d) := ⟨_, rfl⟩
            rw [← HH.out] at hor HPUSH hlt5
            have hH : H < 4096 := Nat.lt_of_lt_of_le hlt5 (Nat.pow_le_pow_right (by decide) (by omega : b + 5 ≤ 12))
            rcases hb3 with rfl | rfl | rfl | rfl | rfl
            · have hand : bits .and .i64 (H : Int) 0 = ((H % 1 : Nat) : Int) := and_mask H 0 hH (by decide)
              have HE : Hid (vb (UInt8.ofNat (H / 2 ^ (3 - 3))) = .int .u8 ((H / 1 : Nat) : Int)) := ofnat_vb _ (by omega)
              have HQ : Hid (H % 2 ^ (3 - 3) = H % 1) := rfl
              have hlt6 : H < 256 := hlt5
              clear hlt5 hhb
              rw [HE.out, HQ.out] at HPUSH
              go_wp2_with fail
              refine (index_any _ (ByteArray.mk s.toArray)[k] W0).mono ?_
              rintro e w2 ⟨rfl, rfl⟩
              rw [HPLACE.out]
              go_wp2_with (refine wpList_push Try.underlying26 info5 rfl (by decide) rfl (.tmp 42) (.tmp 47) rfl HROW.out rfl _ 1 rfl rfl rfl (by have := HLn.out; rw [List.length_map]; omega) ?_)
              intro v1 w1 hr1
              have HN := Lib.hid (HPUSH.out v1 w1 (by first | exact hr1 | (rw [cast_div_0]; exact hr1) | (rw [cast_div_0, ← wrap_u8_of]; exact hr1)))
              clear hr1
              go_wp2_with fail
              go_roundw
              case rel => exact ⟨k + 1, H % 1, 3 - 3, by omega, by go_num, by go_num, by go_num, HN.out⟩
              case measure => simp [intOf]; omega
            · have hand : bits .and .i64 (H : Int) 1 = ((H % 2 : Nat) : Int) := and_mask H 1 hH (by decide)
              have HE : Hid (vb (UInt8.ofNat (H / 2 ^ (4 - 3))) = .int .u8 ((H / 2 : Nat) : Int)) := ofnat_vb _ (by omega)
              have HQ : Hid (H % 2 ^ (4 - 3) = H % 2) := rfl
              have hlt6 : H < 512 := hlt5
              clear hlt5 hhb
              rw [HE.out, HQ.out] at HPUSH
              go_wp2_with fail
              refine (index_any _ (ByteArray.mk s.toArray)[k] W0).mono ?_
              rintro e w2 ⟨rfl, rfl⟩
              rw [HPLACE.out]
              go_wp2_with (refine wpList_push Try.underlying26 info5 rfl (by decide) rfl (.tmp 42) (.tmp 47) rfl HROW.out rfl _ 1 rfl rfl rfl (by have := HLn.out; rw [List.length_map]; omega) ?_)
              intro v1 w1 hr1
              have HN := Lib.hid (HPUSH.out v1 w1 (by first | exact hr1 | (rw [cast_div_1]; exact hr1) | (rw [cast_div_1, ← wrap_u8_of]; exact hr1)))
              clear hr1
              go_wp2_with fail
              go_roundw
              case rel => exact ⟨k + 1, H % 2, 4 - 3, by omega, by go_num, by go_num, by go_num, HN.out⟩
              case measure => simp [intOf]; omega
            · have hand : bits .and .i64 (H : Int) 3 = ((H % 4 : Nat) : Int) := and_mask H 2 hH (by decide)
              have HE : Hid (vb (UInt8.ofNat (H / 2 ^ (5 - 3))) = .int .u8 ((H / 4 : Nat) : Int)) := ofnat_vb _ (by omega)
              have HQ : Hid (H % 2 ^ (5 - 3) = H % 4) := rfl
              have hlt6 : H < 1024 := hlt5
              clear hlt5 hhb
              rw [HE.out, HQ.out] at HPUSH
              go_wp2_with fail
              refine (index_any _ (ByteArray.mk s.toArray)[k] W0).mono ?_
              rintro e w2 ⟨rfl, rfl⟩
              rw [HPLACE.out]
              go_wp2_with (refine wpList_push Try.underlying26 info5 rfl (by decide) rfl (.tmp 42) (.tmp 47) rfl HROW.out rfl _ 1 rfl rfl rfl (by have := HLn.out; rw [List.length_map]; omega) ?_)
              intro v1 w1 hr1
              have HN := Lib.hid (HPUSH.out v1 w1 (by first | exact hr1 | (rw [cast_div_2]; exact hr1) | (rw [cast_div_2, ← wrap_u8_of]; exact hr1)))
              clear hr1
              go_wp2_with fail
              go_roundw
              case rel => exact ⟨k + 1, H % 4, 5 - 3, by omega, by go_num, by go_num, by go_num, HN.out⟩
              case measure => simp [intOf]; omega
            · have hand : bits .and .i64 (H : Int) 7 = ((H % 8 : Nat) : Int) := and_mask H 3 hH (by decide)
              have HE : Hid (vb (UInt8.ofNat (H / 2 ^ (6 - 3))) = .int .u8 ((H / 8 : Nat) : Int)) := ofnat_vb _ (by omega)
              have HQ : Hid (H % 2 ^ (6 - 3) = H % 8) := rfl
              have hlt6 : H < 2048 := hlt5
              clear hlt5 hhb
              rw [HE.out, HQ.out] at HPUSH
              go_wp2_with fail
              refine (index_any _ (ByteArray.mk s.toArray)[k] W0).mono ?_
              rintro e w2 ⟨rfl, rfl⟩
              rw [HPLACE.out]
              go_wp2_with (refine wpList_push Try.underlying26 info5 rfl (by decide) rfl (.tmp 42) (.tmp 47) rfl HROW.out rfl _ 1 rfl rfl rfl (by have := HLn.out; rw [List.length_map]; omega) ?_)
              intro v1 w1 hr1
              have HN := Lib.hid (HPUSH.out v1 w1 (by first | exact hr1 | (rw [cast_div_3]; exact hr1) | (rw [cast_div_3, ← wrap_u8_of]; exact hr1)))
              clear hr1
              go_wp2_with fail
              go_roundw
              case rel => exact ⟨k + 1, H % 8, 6 - 3, by omega, by go_num, by go_num, by go_num, HN.out⟩
              case measure => simp [intOf]; omega
            · have hand : bits .and .i64 (H : Int) 15 = ((H % 16 : Nat) : Int) := and_mask H 4 hH (by decide)
              have HE : Hid (vb (UInt8.ofNat (H / 2 ^ (7 - 3))) = .int .u8 ((H / 16 : Nat) : Int)) := ofnat_vb _ (by omega)
              have HQ : Hid (H % 2 ^ (7 - 3) = H % 16) := rfl
              have hlt6 : H < 4096 := hlt5
              clear hlt5 hhb
              rw [HE.out, HQ.out] at HPUSH
              go_wp2_with fail
              refine (index_any _ (ByteArray.mk s.toArray)[k] W0).mono ?_
              rintro e w2 ⟨rfl, rfl⟩
              rw [HPLACE.out]
              go_wp2_with (refine wpList_push Try.underlying26 info5 rfl (by decide) rfl (.tmp 42) (.tmp 47) rfl HROW.out rfl _ 1 rfl rfl rfl (by have := HLn.out; rw [List.length_map]; omega) ?_)
              intro v1 w1 hr1
              have HN := Lib.hid (HPUSH.out v1 w1 (by first | exact hr1 | (rw [cast_div_4]; exact hr1) | (rw [cast_div_4, ← wrap_u8_of]; exact hr1)))
              clear hr1
              go_wp2_with fail
              go_roundw
              case rel => exact ⟨k + 1, H % 16, 7 - 3, by omega, by go_num, by go_num, by go_num, HN.out⟩
              case measure => simp [intOf]; omega
        · have HBad := Lib.hid (bad_of_letter k hlt hd)
          have HPLACE : Hid (firstIdx (ByteArray.mk #[48, 49, 50, 51, 52, 53, 54, 55, 56, 57, 97, 98, 99, 100, 102, 103, 104, 105, 106, 107, 108, 109, 110, 112, 113, 114, 115, 118, 119, 120, 121, 122]) (ByteArray.mk s.toArray)[k] = -1) := by
            show firstIdx _ s[k] = _; rw [first_place]; unfold place; rw [if_neg hd]
          have HB := Lib.hid HR.out.row.below
          clear hd HR
          go_wp2_with fail
          refine (index_any _ (ByteArray.mk s.toArray)[k] W0).mono ?_
          rintro e w2 ⟨rfl, rfl⟩
          rw [HPLACE.out]
          go_wp2_with fail
          go_ret2
          exact .inr ⟨HBad.out, rfl, HB.out⟩
      · obtain rfl : k = s.length := by omega
        have HROW := Lib.hid HR.out.row
        have HKN : Hid (known s = true) := by
          show known s = true
          have := HR.out.known
          rw [List.take_length] at this
          simp only [known, List.all_eq_true, decide_eq_true_eq]
          exact fun c hc => this _ (List.mem_map_of_mem hc)
        have HH := Lib.hid HR.out.held
        rw [List.take_length] at HROW HH
        clear HR
        by_cases h0 : h = 0
        · subst h0
          have HGood : Hid (good s = true) := by
            show good s = true
            simp only [good, Bool.and_eq_true, decide_eq_true_eq]
            exact ⟨⟨HKN.out, (len_iff _).1 (by rw [← HM.out]; exact HLEN.out)⟩, HH.out⟩
          clear HH HKN
          go_wp2_with fail
          go_ret2
          exact .inl ⟨HGood.out, _, rfl, HROW.out⟩
        · have HBad := Lib.hid (bad_of_held (s := s) (by rw [HH.out]; exact h0))
          have h0' : ((h : Int) != 0) = true := by simp; omega
          clear HH HKN
          go_wp2_with fail
          go_ret2
          exact .inr ⟨HBad.out, rfl, HROW.out.below⟩
  · have HBad := Lib.hid (bad_of_len (s := s) (by rw [← hm]; exact hlen))
    have hl := len_fit m
    have hq : (((len m : Nat) : Int) != (s.length : Int)) = true := by simp; omega
    generalize hX : len m = X at *
    have HX := Lib.hid hX
    clear hm hlen hX
    go_enter Try.func38, Try.ntmps38
    go_wp2_with fail
    refine (len_any m (by omega) w).mono ?_
    rintro e w1 ⟨rfl, rfl⟩
    rw [HX.out]
    go_wp2_with fail
    go_ret2
    exact .inr ⟨HBad.out, rfl, Below.refl _ _⟩
end Go.Proofs.Ythocaimiofehkaa
