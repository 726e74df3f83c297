/- The contracts of the reference's Wide and Texts. -/
import Derived.Test.YtghbabnekalgpaaDoorW8
namespace Go.Proofs.YtghbabnekalgpaaDoor
open Go.RowKit BaseMath WireMath

set_option maxRecDepth 100000 in
theorem RowRel.below' {w wr w1 : World} {e : TypeId} {l : List Value} {v : Value} (h : RowRel w e l v wr) (hb : Below wr.heap.size wr w1) : RowRel w e l v w1 :=
  ⟨h.below.trans (hb.mono h.below.size), ownsRow_keep h.own (fun k hk => hb.block k (h.own.lt k hk).2)⟩
def wideN8 (x k : Nat) : List By := (List.range k).map fun i => UInt8.ofNat (x / 2 ^ (56 - 8 * i))
set_option maxRecDepth 100000 in
theorem wideN8_succ (x k : Nat) : (wideN8 x (k + 1)).map vb = (wideN8 x k).map vb ++ [vb (UInt8.ofNat (x / 2 ^ (56 - 8 * k)))] := by simp [wideN8, List.range_succ]
set_option maxRecDepth 100000 in
theorem wideN8_length (x k : Nat) : ((wideN8 x k).map vb).length = k := by simp [wideN8]
set_option maxRecDepth 100000 in
theorem vb_mod (x : Nat) : vb (UInt8.ofNat x) = .int .u8 ((x : Int) % 256) := by rw [vb_ofNat, Int.natCast_emod]; rfl
set_option maxRecDepth 100000 in
set_option maxHeartbeats 1000000 in
theorem rwide_any (x : Nat) (hx : x ≤ 18446744073709551615) (w : World) :
    Calls Tryd.prog 66 #[.int .u64 x] w fun e w' => ∃ v, e = .returned v ∧ RowRel w 5 ((wideB x).map vb) v w' := by
  go_enter Tryd.func66, Tryd.ntmps66
  go_wp2_with fail
  go_loopw [3, 4] (fun v vi wr => ∃ k : Nat, k ≤ 8 ∧ vi = .int .i64 k ∧ Hid (RowRel w 5 ((wideN8 x k).map vb) v wr)) (fun _ vi _ => 8 - (intOf vi).toNat)
  case atStart => exact ⟨0, by omega, rfl, RowRel.none w 5⟩
  case round =>
    obtain ⟨k, hk, rfl, HR⟩ := hrel
    rename World => W0
    have HL := Lib.hid (wideN8_length x k)
    have HS := Lib.hid (wideN8_succ x k)
    by_cases hlt : k < 8
    · have e : k = 0 ∨ k = 1 ∨ k = 2 ∨ k = 3 ∨ k = 4 ∨ k = 5 ∨ k = 6 ∨ k = 7 := by omega
      rcases e with rfl | rfl | rfl | rfl | rfl | rfl | rfl | rfl
      all_goals
        simp only [Nat.reduceMul, Nat.reduceSub, Nat.reducePow, Nat.reduceAdd, Nat.div_one] at HS
        first
          | rw [vb_top x hx] at HS
          | rw [vb_div x 281474976710656 281474976710656 rfl] at HS
          | rw [vb_div x 1099511627776 1099511627776 rfl] at HS
          | rw [vb_div x 4294967296 4294967296 rfl] at HS
          | rw [vb_div x 16777216 16777216 rfl] at HS
          | rw [vb_div x 65536 65536 rfl] at HS
          | rw [vb_div x 256 256 rfl] at HS
          | rw [vb_mod x] at HS
        go_wp2_with (refine wpList_push Tryd.underlying37 info5 rfl (by decide) rfl (.tmp 9) (.tmp 16) rfl HR.out rfl _ 1 rfl rfl rfl (by rw [HL.out]; omega) ?_)
        intro v1 w1 hr1
        rw [← HS.out] at hr1
        have HN := Lib.hid hr1
        clear hr1 HR
        go_wp2_with fail
        go_roundw
        case rel => exact ⟨_, by omega, by first | rfl | go_num, HN.out⟩
        case measure => simp [intOf]
    · obtain rfl : k = 8 := by omega
      go_wp2_with fail
      go_ret
      exact ⟨_, rfl, HR.out⟩
set_option maxRecDepth 100000 in
theorem flat_len (ls : List (List By)) (k : Nat) : (flatN ls k).length ≤ (ls.flatMap textB).length := by
  have e : ls.flatMap textB = flatN ls k ++ (ls.drop k).flatMap textB := by unfold flatN; rw [← List.flatMap_append, List.take_append_drop]
  rw [e, List.length_append]; omega
set_option maxRecDepth 100000 in
set_option maxHeartbeats 1000000 in
theorem rtextsb_any (A : Option Addr) (c : Nat) (ls : List (List By)) (hls : ls.length ≤ 255) (hbd : (ls.flatMap textB).length ≤ 500000) (w : World) (hA : StrsIs w A ls) :
    Calls Tryd.prog 45 #[.slice A ls.length c] w fun e w' => ∃ v, e = .returned v ∧ RowRel w 5 ((textsB ls).map vb) v w' := by
  have HA := Lib.hid hA; clear hA
  have HV : Hid (vb (UInt8.ofNat ls.length) = .int .u8 (ls.length : Nat)) := by show _ = _; rw [vb_ofNat, Nat.mod_eq_of_lt (by omega)]
  have HR0 := Lib.hid (new_row w [UInt8.ofNat ls.length] 1 rfl (by decide))
  rw [List.map_cons, List.map_nil, HV.out] at HR0
  have HR1 : Hid (RowRel w 5 (([UInt8.ofNat ls.length] ++ flatN ls 0).map vb) (.slice (some ⟨w.heap.size, 0, .none⟩) 1 1) (w.alloc (.cells #[.int .u8 (ls.length : Nat)] 5))) := by
    show RowRel _ _ _ _ _
    have : ([UInt8.ofNat ls.length] ++ flatN ls 0).map vb = [.int .u8 (ls.length : Nat)] := by simp only [flatN, List.take_zero, List.flatMap_nil, List.append_nil, List.map_cons, List.map_nil]; rw [HV.out]
    rw [this]; exact HR0.out
  clear HR0
  go_enter Tryd.func45, Tryd.ntmps45
  go_wp2_with fail
  go_loopw [3, 4] (fun v vi wr => ∃ k : Nat, k ≤ ls.length ∧ vi = .int .i64 k ∧ Hid (RowRel w 5 (([UInt8.ofNat ls.length] ++ flatN ls k).map vb) v wr)) (fun _ vi _ => ls.length - (intOf vi).toNat)
  case atStart => exact ⟨0, Nat.zero_le _, rfl, HR1.out⟩
  case round =>
    clear HR1
    obtain ⟨k, hk, rfl, HR⟩ := hrel
    rename World => W0
    have hfl := flat_len ls k
    by_cases hlt : k < ls.length
    · obtain ⟨b, o, hAe, hc⟩ := (HA.out.below HR.out.below HA.out.lt) (by omega)
      subst hAe
      have c0 := hc k hlt
      have hle := flatN_le ls k hlt
      have HF := Lib.hid (flatN_succ ls k hlt)
      generalize ls[k] = s at *
      clear hc
      go_wp2_with fail
      refine (rtextb_any s (by omega) W0).mono ?_
      rintro e w2 ⟨v2, rfl, hr2⟩
      have HR2 := Lib.hid (HR.out.below' hr2.below)
      obtain ⟨A2, c2, rfl, hs2, hn2, -, -⟩ := hr2.src
      have HS2 := Lib.hid hs2; have HN2 := Lib.hid hn2
      have HTL : Hid ((textB s).length = 2 + s.length) := by show _ = _; simp [textB, numB]; omega
      have hsz := HR2.out.below.size
      clear hr2 hs2 hn2 HR
      have hown := HR2.out.own
      rw [List.length_map] at hown
      have HOW := Lib.hid hown; clear hown
      go_wp2_with (refine wpList_append_x rfl (.tmp 15) (.tmp 20) rfl w.heap.size _ ([UInt8.ofNat ls.length] ++ flatN ls k) rfl HOW.out A2 c2 (textB s) rfl HN2.out HS2.out (by rw [HTL.out, List.length_append]; simp; omega) hsz ?_)
      intro v3 w3 ho hg hkk
      have HR3 : Hid (RowRel w 5 (([UInt8.ofNat ls.length] ++ flatN ls (k + 1)).map vb) v3 w3) := by
        refine ⟨HR2.out.below.grown hg hsz (fun k hk => (HOW.out.lt k hk).1), ?_⟩
        rw [HF.out, ← List.append_assoc]
        rw [List.length_map]
        simpa using ho
      clear ho hg hkk HR2 HOW
      go_wp2_with fail
      go_roundw
      case rel => exact ⟨k + 1, by omega, by go_num, HR3.out⟩
      case measure => simp [intOf]; omega
    · obtain rfl : k = ls.length := by omega
      go_wp2_with fail
      go_ret
      refine ⟨_, rfl, ?_⟩
      have := HR.out
      rw [flatN_all] at this
      exact this
end Go.Proofs.YtghbabnekalgpaaDoor
