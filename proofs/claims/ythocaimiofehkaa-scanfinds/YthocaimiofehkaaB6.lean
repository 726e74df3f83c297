/- The contract of the reference's Bytes. -/
import Derived.Test.YthocaimiofehkaaB5
import Derived.Test.YthocaimiofehkaaBMath2
namespace Go.Proofs.Ythocaimiofehkaa
open Go.RowKit BaseMath

def vi (n : Nat) : Value := .int .i64 (n : Int)
structure BitRel (w : World) (s : List By) (k : Nat) (j : Nat) (d : Nat) (v : Value) (wr : World) : Prop where
  row : RowRel w 3 ((bitsOf ((s.take k).map idx) ++ (bits5 d).take j).map vi) v wr
  known : ∀ d ∈ (s.take k).map idx, d < 32
theorem BitRel.close {w : World} {s : List By} {k : Nat} {v : Value} {wr : World} (hk : k < s.length) (h : BitRel w s k 5 (idx s[k]) v wr) (hd : idx s[k] < 32) : BitRel w s (k + 1) 0 0 v wr := by
  refine ⟨?_, ?_⟩
  · have := h.row
    rw [take_snoc s k hk, bitsOf_snoc]
    simpa [bits5] using this
  · intro d hdm; rw [take_snoc s k hk] at hdm
    rcases List.mem_append.1 hdm with h1 | h1
    · exact h.known d h1
    · simp at h1; subst h1; exact hd
theorem BitRel.len {w : World} {s : List By} {k j d : Nat} {v : Value} {wr : World} (_ : BitRel w s k j d v wr) (hk : k ≤ s.length) (hj : j ≤ 5) : ((bitsOf ((s.take k).map idx) ++ (bits5 d).take j).map vi).length = 5 * k + j := by
  simp only [List.length_map, List.length_append, bitsOf_length, List.length_take]
  simp [bits5]; omega
theorem BitRel.more {w : World} {s : List By} {k j d : Nat} {v : Value} {wr wr' : World} {v' : Value} (h : BitRel w s k j d v wr) (hj : j < 5) (x : Value) (hx : x = vi ((bits5 d)[j]'(by simp [bits5]; omega)))
    (hr : RowRel w 3 ((bitsOf ((s.take k).map idx) ++ (bits5 d).take j).map vi ++ [x]) v' wr') : BitRel w s k (j + 1) d v' wr' := by
  refine ⟨?_, h.known⟩
  rw [List.take_succ_eq_append_getElem (by simp [bits5]; omega), ← List.append_assoc, List.map_append, List.map_singleton, ← hx]
  exact hr
theorem known_all {s : List By} (h : ∀ d ∈ s.map idx, d < 32) : known s = true := by
  simp only [known, List.all_eq_true, decide_eq_true_eq]
  exact fun c hc => h _ (List.mem_map_of_mem hc)
theorem RowRel.base {w w1 wr : World} {e : TypeId} {l : List Value} {v : Value} (h : RowRel w1 e l v wr) (hb : Below w.heap.size w w1) : RowRel w e l v wr := by
  refine ⟨hb.trans (h.below.mono hb.size), h.own.1, ?_⟩
  rcases h.own.2 with h1 | ⟨g, cap, cur, h1, h2, h3⟩
  · exact .inl h1
  · exact .inr ⟨g, cap, cur, h1, Nat.le_trans hb.size h2, h3⟩
/-- what follows of the rest -/
theorem rest_bad {s : List By} (hk : known s = true) (m : Nat) (h1 : 8 * m ≤ 5 * s.length) (h2 : 5 * s.length < 8 * m + 8) (i : Nat) (hi : 8 * m + i < (bitsOf (s.map idx)).length) (h0 : (bitsOf (s.map idx))[8 * m + i] ≠ 0) : good s = false := by
  cases hg : good s with
  | false => rfl
  | true =>
    have := ((good_iff s hk m h1 h2).2.1 hg).2 i (by simp; omega)
    rw [List.getElem_drop] at this
    exact absurd this h0
theorem rest_long {s : List By} (hk : known s = true) (m : Nat) (h1 : 8 * m ≤ 5 * s.length) (h2 : 5 * s.length < 8 * m + 8) (h4 : 4 < 5 * s.length - 8 * m) : good s = false := by
  cases hg : good s with
  | false => rfl
  | true => have := ((good_iff s hk m h1 h2).2.1 hg).1; omega
theorem rest_good {s : List By} (hk : known s = true) (m : Nat) (h1 : 8 * m ≤ 5 * s.length) (h2 : 5 * s.length < 8 * m + 8) (h4 : 5 * s.length - 8 * m ≤ 4) (h0 : ∀ i (hi : 8 * m + i < (bitsOf (s.map idx)).length), (bitsOf (s.map idx))[8 * m + i] = 0) : good s = true := by
  refine (good_iff s hk m h1 h2).2.2 ⟨h4, fun i hi => ?_⟩
  rw [List.getElem_drop]; exact h0 i (by simp at hi; omega)
set_option maxHeartbeats 1000000 in
set_option maxRecDepth 100000 in
theorem refbytes_any (s : List By) (hs : s.length ≤ 100000) (w : World) :
    Calls Try.prog 41 #[.string ⟨s.toArray⟩] w (BytesPost s w) := by
  go_enter Try.func41, Try.ntmps41
  go_wp2_with fail
  go_loopw [4, 5] (fun v vk wr => ∃ k : Nat, k ≤ s.length ∧ vk = .int .i64 k ∧ Hid (BitRel w s k 0 0 v wr) ∧ Hid (k = 0 → v = .slice none 0 0)) (fun _ vk _ => s.length - (intOf vk).toNat)
  case atStart => exact ⟨0, Nat.zero_le _, rfl, ⟨RowRel.none w 3, by simp⟩, fun _ => rfl⟩
  case round =>
    obtain ⟨k, hk, rfl, HR, HNIL⟩ := hrel
    rename World => W0
    by_cases hlt : k < s.length
    · clear HNIL
      by_cases hd : idx s[k] < 32
      · have HPLACE : Hid (place (ByteArray.mk s.toArray)[k] = (idx s[k] : Nat)) := by
          show place s[k] = _; unfold place; rw [if_pos hd]
        have HCL := Lib.hid (fun v wr h => BitRel.close (w := w) (v := v) (wr := wr) hlt h hd)
        have HR0 : Hid (BitRel w s k 0 (idx s[k]) _ W0) := ⟨by have := HR.out.row; simpa using this, HR.out.known⟩
        clear HR
        generalize idx s[k] = d at *
        go_wp2_with fail
        refine (value_any (ByteArray.mk s.toArray)[k] W0).mono ?_
        rintro e w2 ⟨rfl, rfl⟩
        rw [HPLACE.out]
        go_wp2_with fail
        go_loopw [4, 7] (fun v vk wr => ∃ j : Nat, j ≤ 5 ∧ vk = .int .i64 (4 - j) ∧ Hid (BitRel w s k j d v wr)) (fun _ vk _ => (intOf vk + 1).toNat)
        case atStart => exact ⟨0, by omega, rfl, HR0.out⟩
        case round =>
          clear HR0
          obtain ⟨j, hj, rfl, HR⟩ := hrel
          rename World => W1
          have HLn := Lib.hid (HR.out.len hk hj)
          by_cases hj5 : j < 5
          · have HM := Lib.hid (fun x v' wr' hx hr => HR.out.more (v' := v') (wr' := wr') hj5 x hx hr)
            have HROW := Lib.hid HR.out.row
            generalize ((bitsOf ((s.take k).map idx) ++ (bits5 d).take j).map vi) = row at *
            have e : j = 0 ∨ j = 1 ∨ j = 2 ∨ j = 3 ∨ j = 4 := by omega
            rcases e with rfl | rfl | rfl | rfl | rfl
            all_goals
              go_wp2_with (refine wpList_push Try.underlying30 info3 rfl (by decide) rfl (.tmp 30) (.tmp 35) rfl HROW.out rfl _ 1 rfl rfl rfl (by have := HLn.out; omega) ?_)
              intro v1 w1 hr1
              have HN := Lib.hid (HM.out _ v1 w1 (by simp [vi, bits5]) hr1)
              clear hr1 HM HROW HR HLn
              go_wp2_with fail
              go_roundw
              case rel => exact ⟨_, by omega, by first | rfl | go_num, HN.out⟩
              case measure => simp [intOf]
          · obtain rfl : j = 5 := by omega
            have HN := Lib.hid (HCL.out _ _ HR.out)
            clear HR HLn
            go_wp2_with fail
            go_roundw
            case rel => exact ⟨k + 1, by omega, by go_num, HN.out, fun h => absurd h (by omega)⟩
            case measure => simp [intOf]; omega
      · have HPLACE : Hid (place (ByteArray.mk s.toArray)[k] = -1) := by
          show place s[k] = _; unfold place; rw [if_neg hd]
        have HBad := Lib.hid (bad_of_letter k hlt hd)
        have HB := Lib.hid HR.out.row.below
        clear HR hd
        go_wp2_with fail
        refine (value_any (ByteArray.mk s.toArray)[k] W0).mono ?_
        rintro e w2 ⟨rfl, rfl⟩
        rw [HPLACE.out]
        go_wp2_with fail
        go_ret2
        exact .inr ⟨HBad.out, rfl, HB.out⟩
    · obtain rfl : k = s.length := by omega
      have HKN : Hid (known s = true) := by
        have := HR.out.known; rw [List.take_length] at this; exact known_all this
      have HROW := Lib.hid HR.out.row
      rw [List.take_length, List.take_zero, List.append_nil] at HROW
      have HBL := Lib.hid (bitsOf_length (s.map idx))
      have HB2 := Lib.hid (bitsOf_lt (s.map idx))
      have HB0 := Lib.hid HR.out.row.below
      clear HR
      by_cases h0 : s.length = 0
      · have hv := HNIL.out h0
        subst hv
        have HGood : Hid (good s = true) := rest_good HKN.out 0 (by omega) (by omega) (by omega) (fun i hi => by rw [HBL.out] at hi; simp at hi; omega)
        have HDec : Hid (dec s = []) := by have := (good_iff s HKN.out 0 (by omega) (by omega)).1; exact this
        clear HROW HNIL HBL HB2 HKN
        clear h0 hlt hk
        go_wp2_with fail
        go_loop [8, 9] (fun v vk => v = .slice none 0 0 ∧ vk = .int .i64 0) (fun _ _ => 0)
        case atStart => exact ⟨rfl, rfl⟩
        case round =>
          obtain ⟨rfl, rfl⟩ := hrel
          go_wp2_with fail
          go_loop [13] (fun vk => vk = .int .i64 0) (fun _ => 0)
          case atStart => rfl
          case round =>
            obtain rfl := hrel
            go_wp2_with fail
            go_ret2
            exact .inl ⟨HGood.out, _, rfl, by rw [HDec.out]; exact ⟨HB0.out, World.ownsRow_nil _ _ _ _⟩⟩
      · obtain ⟨g, c, hv, hg1, hg2, hra, hc⟩ := HROW.out.at (by rw [List.length_map, HBL.out, List.length_map]; omega)
        subst hv
        clear HNIL HROW
        rw [List.length_map] at hc ⊢
        obtain ⟨B, HB⟩ : ∃ B, Hid (B = bitsOf (s.map idx)) := ⟨_, rfl⟩
        rw [← HB.out] at HBL HB2 hra hc ⊢
        obtain ⟨n, HN⟩ : ∃ n, Hid (B.length = n) := ⟨_, rfl⟩
        rw [HN.out] at hc ⊢
        have hn : n = 5 * s.length := by rw [← HN.out, HBL.out, List.length_map]
        have HRA := Lib.hid hra
        have hn1 : n ≤ 5 * s.length := by omega
        have hn2 : 5 * s.length ≤ n := by omega
        clear hra hn HBL
        go_wp2_with fail
        go_loopw [8, 9] (fun v vk wr => ∃ t j : Nat, Hid (t = 8 * j) ∧ t ≤ n ∧ vk = .int .i64 t ∧ Hid (RowRel W0 5 ((bytesN B j).map vb) v wr)) (fun _ vk _ => n - (intOf vk).toNat)
        case atStart => exact ⟨0, 0, rfl, Nat.zero_le _, rfl, RowRel.none W0 5⟩
        case round =>
          obtain ⟨t, j, HT, ht, rfl, HR⟩ := hrel
          rename World => W1
          have HLn := Lib.hid (bytesN_length B j)
          have htj : j ≤ t := by have := HT.out; omega
          have hcell : ∀ i (hi : i < B.length), W1.cell? ⟨g, i, none⟩ = some (vi B[i]) := by
            intro i hi
            rw [HR.out.below.cell (p := ⟨g, i, none⟩) hg2]
            have := HRA.out i (vi B[i]) (by rw [List.getElem?_map, List.getElem?_eq_getElem hi]; rfl)
            rwa [Nat.zero_add] at this
          have HC := Lib.hid hcell; clear hcell
          by_cases hlt : t + 8 ≤ n
          · have hlt' : ((t : Int) + 8 ≤ n) := by omega
            go_wp2_with fail
            go_loop [10, 11] (fun vn vk => ∃ k : Nat, k ≤ 8 ∧ vk = .int .i64 k ∧ vn = .int .i64 (nb B t k : Nat)) (fun _ vk => 8 - (intOf vk).toNat)
            case atStart => exact ⟨0, by omega, rfl, by rw [nb_zero]; rfl⟩
            case round =>
              obtain ⟨k, hk8, rfl, rfl⟩ := hrel
              have hnb := nb_lt B HB2.out t k hk8
              by_cases hk : k < 8
              · have hi : t + k < B.length := by rw [HN.out]; omega
                have HS := Lib.hid (nb_succ B t k hi)
                have c0 : W1.cell? ⟨g, t + k, none⟩ = some (.int .i64 (B[t + k] : Nat)) := HC.out _ hi
                have hx : B[t + k] < 2 := HB2.out _ (List.getElem_mem hi)
                generalize nb B t k = x at *
                generalize B[t + k] = y at *
                have hik : t + k < n := by omega
                clear hi
                go_wp2_with fail
                go_round
                case rel => exact ⟨k + 1, by omega, by go_num, by rw [HS.out]; go_num⟩
                case measure => simp [intOf]; omega
              · obtain rfl : k = 8 := by omega
                have HS : Hid ((bytesN B (j + 1)).map vb = (bytesN B j).map vb ++ [.int .u8 (nb B t 8 : Nat)]) := by
                  show _ = _
                  rw [bytesN_succ, List.map_append, List.map_singleton, ← HT.out, ofnat_vb _ hnb]
                generalize nb B t 8 = x at *
                go_wp2_with (refine wpList_push Try.underlying26 info5 rfl (by decide) rfl (.tmp 57) (.tmp 60) rfl HR.out rfl _ 1 rfl rfl rfl (by rw [List.length_map, HLn.out]; omega) ?_)
                intro v1 w1 hr1
                have HN1 : Hid (RowRel W0 5 ((bytesN B (j + 1)).map vb) v1 w1) := by
                  show RowRel _ _ _ _ _; rw [HS.out]; exact hr1
                clear hr1
                go_wp2_with fail
                go_roundw
                case rel => exact ⟨t + 8, j + 1, by have := HT.out; show _ = _; omega, by omega, by go_num, HN1.out⟩
                case measure => simp [intOf]; omega
          · have hlt' : ¬ ((t : Int) + 8 ≤ n) := by omega
            have ht5 : 8 * j ≤ 5 * s.length := by have := HT.out; omega
            have ht6 : 5 * s.length < 8 * j + 8 := by have := HT.out; omega
            have HDec := Lib.hid (good_iff s HKN.out j ht5 ht6).1
            have HBAD : Hid (∀ i (hi : t + i < B.length), B[t + i] ≠ 0 → good s = false) := by
              intro i hi h0
              have h1 := HB.out
              have h2 := HT.out
              subst h1 h2
              exact rest_bad HKN.out j ht5 ht6 i hi h0
            have HLONG : Hid (4 < n - t → good s = false) := fun h => rest_long HKN.out j ht5 ht6 (by have := HT.out; omega)
            have HGOOD : Hid (n - t ≤ 4 → (∀ i (hi : t + i < B.length), B[t + i] = 0) → good s = true) := by
              intro h h0
              have h1 := HB.out
              have h2 := HT.out
              subst h1 h2
              exact rest_good HKN.out j ht5 ht6 (by omega) h0
            rw [← HB.out] at HDec
            have HR1 := Lib.hid (HR.out.base HB0.out)
            rw [← HDec.out] at HR1
            obtain ⟨A1, c1, hv1, _, _, hc1, _⟩ := HR.out.src
            rw [HLn.out] at hv1 hc1
            subst hv1
            have h8 : (j : Int) * 8 = (t : Nat) := by have := HT.out; omega
            clear HR HKN HB HDec HT HLn HRA ht5 ht6 HB2
            obtain ⟨q, HQ⟩ : ∃ q, Hid (n - t = q) := ⟨_, rfl⟩
            rw [HQ.out] at HLONG HGOOD
            have hq8 : q < 8 := by have := HQ.out; omega
            by_cases hcap : c = t
            · subst hcap
              have hnc : n = c := by omega
              have hq0 : q = 0 := by have := HQ.out; omega
              subst hnc hq0
              clear hlt hlt'
              have hlt' : ¬ ((n : Int) + 8 ≤ n) := by omega
              have HF := Lib.hid (HGOOD.out (by omega) (fun i hi => by rw [HN.out] at hi; omega))
              clear HLONG HGOOD HBAD HQ
              go_wp2_with fail
              go_loop [13] (fun vk => vk = .int .i64 0) (fun _ => 0)
              case atStart => rfl
              case round =>
                obtain rfl := hrel
                go_wp2_with fail
                go_ret2
                exact .inl ⟨HF.out, _, rfl, HR1.out⟩
            · have hcap' : t < c := by omega
              go_wp2_with fail
              rw [HQ.out]
              go_loop [13] (fun vk => ∃ k : Nat, k ≤ q ∧ vk = .int .i64 k ∧ Hid (∀ i, i < k → ∀ hi : t + i < B.length, B[t + i] = 0)) (fun vk => q - (intOf vk).toNat)
              case atStart => exact ⟨0, Nat.zero_le _, rfl, fun i hi => absurd hi (by omega)⟩
              case round =>
                obtain ⟨k, hk, rfl, HZ⟩ := hrel
                by_cases hkq : k < q
                · have hi : t + k < B.length := by rw [HN.out]; have := HQ.out; omega
                  have c0 : W1.cell? ⟨g, t + k, none⟩ = some (.int .i64 (B[t + k] : Nat)) := HC.out _ hi
                  by_cases h00 : B[t + k] = 0
                  · have HZ1 : Hid (∀ i, i < k + 1 → ∀ hi : t + i < B.length, B[t + i] = 0) := by
                      intro i hik hi
                      by_cases hx : i = k
                      · subst hx; exact h00
                      · exact HZ.out i (by omega) hi
                    rw [h00] at c0
                    clear h00 hi HZ
                    go_wp2_with fail
                    go_round
                    case rel => exact ⟨k + 1, by omega, by go_num, HZ1.out⟩
                    case measure => simp [intOf]; omega
                  · have HF := Lib.hid (HBAD.out k hi h00)
                    have hne : (((B[t + k] : Nat) : Int) != 0) = true := by simp; exact h00
                    generalize B[t + k] = y at *
                    clear h00 hi HZ
                    go_wp2_with fail
                    go_ret2
                    exact .inr ⟨HF.out, rfl, HR1.out.below⟩
                · obtain rfl : k = q := by omega
                  by_cases h4 : 4 < k
                  · have HF := Lib.hid (HLONG.out h4)
                    have h4' : (4 : Int) < k := by omega
                    clear HZ
                    go_wp2_with fail
                    go_ret2
                    exact .inr ⟨HF.out, rfl, HR1.out.below⟩
                  · have HF := Lib.hid (HGOOD.out (by omega) (fun i hi => HZ.out i (by rw [HN.out] at hi; have := HQ.out; omega) hi))
                    have h4' : ¬ (4 : Int) < k := by omega
                    clear HZ
                    go_wp2_with fail
                    go_ret2
                    exact .inl ⟨HF.out, _, rfl, HR1.out⟩
end Go.Proofs.Ythocaimiofehkaa
