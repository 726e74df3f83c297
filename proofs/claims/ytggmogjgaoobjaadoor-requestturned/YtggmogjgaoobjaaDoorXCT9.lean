/- The contracts of the reference's Wide and Texts. -/
import Derived.Test.YtggmogjgaoobjaaDoorXCT4
import Derived.Test.YtggmogjgaoobjaaDoorXCT2
import Derived.Test.YtggmogjgaoobjaaDoorXCT8
import Derived.Test.YtggmogjgaoobjaaDoorChecked
import Derived.Test.YtggmogjgaoobjaaDoorXCT1
import Derived.WalkKit
import Derived.WalkSpells
import Derived.WalkLawsBesides
import Derived.Lib.Hide
import Derived.Laws.AppendOwnNone
import Derived.Maps.AppendAt
import Derived.Laws.MakeOwn
import Derived.Laws.IdiomStrings
import Derived.Laws.ShiftsVar
import Derived.Laws.ShiftsVarLaws
import Derived.Deep.QuietTactic
import Derived.BigQuiet
import Derived.IntWalk
namespace Go.Proofs.YtggmogjgaoobjaaDoor
open Go.RowKit BaseMath WireMath

set_option maxRecDepth 100000 in
theorem RowRel.below' {w wr w1 : World} {e : TypeId} {l : List Value} {v : Value} (h : RowRel w e l v wr) (hb : Below wr.heap.size wr w1) : RowRel w e l v w1 :=
  ⟨h.below.trans (hb.mono h.below.size), ownsRow_keep h.own (fun k hk => hb.block k (h.own.lt k hk).2)⟩
def wideN8 (x k : Nat) : List By := (List.range k).map fun i => UInt8.ofNat (x / 2 ^ (56 - 8 * i))
set_option maxRecDepth 100000 in
theorem wideN8_succ (x k : Nat) : (wideN8 x (k + 1)).map vb = (wideN8 x k).map vb ++ [vb (UInt8.ofNat (x / 2 ^ (56 - 8 * k)))] := by simp [wideN8, List.range_succ]
set_option maxRecDepth 100000 in
theorem wideN8_length (x k : Nat) : ((wideN8 x k).map vb).length = k := by simp [wideN8]
set_option maxRecDepth 100000 in
theorem vb_mod (x : Nat) : vb (UInt8.ofNat x) = .int .u8 ((x : Int) % 256) := by rw [vb_ofNat, Int.natCast_emod]; rfl
set_option maxRecDepth 100000 in
set_option maxHeartbeats 1000000 in
theorem rwide_any (x : Nat) (hx : x ≤ 18446744073709551615) (w : World) :
    Calls Tryd.prog 66 #[.int .u64 x] w fun e w' => ∃ v, e = .returned v ∧ RowRel w 5 ((wideB x).map vb) v w' := by
  go_enter Tryd.func66, Tryd.ntmps66
  go_wp2_with fail
  go_loopw [3, 4] (fun v vi wr => ∃ k : Nat, k ≤ 8 ∧ vi = .int .i64 k ∧ Hid (RowRel w 5 ((wideN8 x k).map vb) v wr)) (fun _ vi _ => 8 - (intOf vi).toNat)
  case atStart => exact ⟨0, by omega, rfl, RowRel.none w 5⟩
  case round =>
    obtain ⟨k, hk, rfl, HR⟩ := hrel
    rename World => W0
    have HL := Lib.hid (wideN8_length x k)
    have HS := Lib.hid (wideN8_succ x k)
    by_cases hlt : k < 8
    · have e : k = 0 ∨ k = 1 ∨ k = 2 ∨ k = 3 ∨ k = 4 ∨ k = 5 ∨ k = 6 ∨ k = 7 := by omega
      rcases e with rfl | rfl | rfl | rfl | rfl | rfl | rfl | rfl
      all_goals
        simp only [Nat.reduceMul, Nat.reduceSub, Nat.reducePow, Nat.reduceAdd, Nat.div_one] at HS
        first
          | rw [vb_top x hx] at HS
          | rw [vb_div x 281474976710656 281474976710656 rfl] at HS
          | rw [vb_div x 1099511627776 1099511627776 rfl] at HS
          | rw [vb_div x 4294967296 4294967296 rfl] at HS
          | rw [vb_div x 16777216 16777216 rfl] at HS
          | rw [vb_div x 65536 65536 rfl] at HS
          | rw [vb_div x 256 256 rfl] at HS
          | rw [vb_mod x] at HS
        go_wp2_with (refine wpList_push Tryd.underlying37 info5 rfl (by decide) rfl (.tmp 9) (.tmp 16) rfl HR.out rfl _ 1 rfl rfl rfl (by rw [HL.out]; omega) ?_)
        intro v1 w1 hr1
        rw [← HS.out] at hr1
        have HN := Lib.hid hr1
        clear hr1 HR
        go_wp2_with fail
        go_roundw
        case rel => exact ⟨_, by omega, by first | rfl | go_num, HN.out⟩
        case measure => simp [intOf]
    · obtain rfl : k = 8 := by omega
      go_wp2_with fail
      go_ret
      exact ⟨_, rfl, HR.out⟩
set_option maxRecDepth 100000 in
theorem flat_len (ls : List (List By)) (k : Nat) : (flatN ls k).length ≤ (ls.flatMap textB).length := by
  have e : ls.flatMap textB = flatN ls k ++ (ls.drop k).flatMap textB := by unfold flatN; rw [← List.flatMap_append, List.take_append_drop]
  rw [e, List.length_append]; omega
set_option maxRecDepth 100000 in
set_option maxHeartbeats 1000000 in
theorem rtextsb_any (A : Option Addr) (c : Nat) (ls : List (List By)) (hls : ls.length ≤ 255) (hbd : (ls.flatMap textB).length ≤ 500000) (w : World) (hA : StrsIs w A ls) :
    Calls Tryd.prog 45 #[.slice A ls.length c] w fun e w' => ∃ v, e = .returned v ∧ RowRel w 5 ((textsB ls).map vb) v w' := by
  have HA := Lib.hid hA; clear hA
  have HV : Hid (vb (UInt8.ofNat ls.length) = .int .u8 (ls.length : Nat)) := by show _ = _; rw [vb_ofNat, Nat.mod_eq_of_lt (by omega)]
  have HR0 := Lib.hid (new_row w [UInt8.ofNat ls.length] 1 rfl (by decide))
  rw [List.map_cons, List.map_nil, HV.out] at HR0
  have HR1 : Hid (RowRel w 5 (([UInt8.ofNat ls.length] ++ flatN ls 0).map vb) (.slice (some ⟨w.heap.size, 0, .none⟩) 1 1) (w.alloc (.cells #[.int .u8 (ls.length : Nat)] 5))) := by
    show RowRel _ _ _ _ _
    have : ([UInt8.ofNat ls.length] ++ flatN ls 0).map vb = [.int .u8 (ls.length : Nat)] := by simp only [flatN, List.take_zero, List.flatMap_nil, List.append_nil, List.map_cons, List.map_nil]; rw [HV.out]
    rw [this]; exact HR0.out
  clear HR0
  go_enter Tryd.func45, Tryd.ntmps45
  go_wp2_with fail
  go_loopw [3, 4] (fun v vi wr => ∃ k : Nat, k ≤ ls.length ∧ vi = .int .i64 k ∧ Hid (RowRel w 5 (([UInt8.ofNat ls.length] ++ flatN ls k).map vb) v wr)) (fun _ vi _ => ls.length - (intOf vi).toNat)
  case atStart => exact ⟨0, Nat.zero_le _, rfl, HR1.out⟩
  case round =>
    clear HR1
    obtain ⟨k, hk, rfl, HR⟩ := hrel
    rename World => W0
    have hfl := flat_len ls k
    by_cases hlt : k < ls.length
    · obtain ⟨b, o, hAe, hc⟩ := (HA.out.below HR.out.below HA.out.lt) (by omega)
      subst hAe
      have c0 := hc k hlt
      have hle := flatN_le ls k hlt
      have HF := Lib.hid (flatN_succ ls k hlt)
      generalize ls[k] = s at *
      clear hc
      go_wp2_with fail
      refine (rtextb_any s (by omega) W0).mono ?_
      rintro e w2 ⟨v2, rfl, hr2⟩
      have HR2 := Lib.hid (HR.out.below' hr2.below)
      obtain ⟨A2, c2, rfl, hs2, hn2, -, -⟩ := hr2.src
      have HS2 := Lib.hid hs2; have HN2 := Lib.hid hn2
      have HTL : Hid ((textB s).length = 2 + s.length) := by show _ = _; simp [textB, numB]; omega
      have hsz := HR2.out.below.size
      clear hr2 hs2 hn2 HR
      have hown := HR2.out.own
      rw [List.length_map] at hown
      have HOW := Lib.hid hown; clear hown
      go_wp2_with (refine wpList_append_x rfl (.tmp 15) (.tmp 20) rfl w.heap.size _ ([UInt8.ofNat ls.length] ++ flatN ls k) rfl HOW.out A2 c2 (textB s) rfl HN2.out HS2.out (by rw [HTL.out, List.length_append]; simp; omega) hsz ?_)
      intro v3 w3 ho hg hkk
      have HR3 : Hid (RowRel w 5 (([UInt8.ofNat ls.length] ++ flatN ls (k + 1)).map vb) v3 w3) := by
        refine ⟨HR2.out.below.grown hg hsz (fun k hk => (HOW.out.lt k hk).1), ?_⟩
        rw [HF.out, ← List.append_assoc]
        rw [List.length_map]
        simpa using ho
      clear ho hg hkk HR2 HOW
      go_wp2_with fail
      go_roundw
      case rel => exact ⟨k + 1, by omega, by go_num, HR3.out⟩
      case measure => simp [intOf]; omega
    · obtain rfl : k = ls.length := by omega
      go_wp2_with fail
      go_ret
      refine ⟨_, rfl, ?_⟩
      have := HR.out
      rw [flatN_all] at this
      exact this
end Go.Proofs.YtggmogjgaoobjaaDoor

/- The contracts of layer 1's leaves here: IsNaN, Canon, Bits, Of, Same of the program, Bits and Of of the reference. -/
namespace Go.Proofs.YtggmogjgaoobjaaDoor
open Go.RowKit RealMath

def ofOk (x : Nat) : Bool := decide (canonB x = x)
set_option maxRecDepth 100000 in
theorem run_frombits (n : Int) (w : World) : (callFunc 23 #[.int .u64 n]).run Tryd.prog w = .ok (.value (.float .f64 n.toNat)) w := by
  rw [run_callFunc_extern Tryd.func23 (by kernel_rfl) (by kernel_rfl) (by kernel_rfl) (e := Extern.MathFloatBits.float64frombits) (by kernel_rfl)]
  rfl
set_option maxRecDepth 100000 in
theorem run_bits (b : Nat) (w : World) : (callFunc 92 #[.float .f64 b]).run Tryd.prog w = .ok (.value (.int .u64 b)) w := by
  rw [run_callFunc_extern Tryd.func92 (by kernel_rfl) (by kernel_rfl) (by kernel_rfl) (e := Extern.MathFloatBits.float64bits) (by kernel_rfl)]
  rfl
attribute [go_sem] run_frombits run_bits

set_option maxRecDepth 100000 in
set_option maxHeartbeats 400000 in
theorem isnan_raw (b : Nat) (w : World) :
    Calls Tryd.prog 105 #[.float .f64 b] w fun e w' => e = .returned (.bool (Ieee.double.order b b != some .eq)) ∧ w = w' := by
  go_enter Tryd.func105, Tryd.ntmps105
  go_wp2
  go_ret
  exact ⟨rfl, rfl⟩

set_option maxRecDepth 100000 in
theorem isnan_any (b : Nat) (hb : b < 18446744073709551616) (w : World) :
    Calls Tryd.prog 105 #[.float .f64 b] w fun e w' => e = .returned (.bool (isNan b)) ∧ w = w' :=
  (isnan_raw b w).mono fun _ _ ⟨he, hw⟩ => ⟨by rw [he, ne_self b hb], hw⟩
set_option maxRecDepth 100000 in
theorem isnan_yes (b : Nat) (hb : b < 18446744073709551616) (h : isNan b = true) (w : World) :
    Calls Tryd.prog 105 #[.float .f64 b] w fun e w' => e = .returned (.bool true) ∧ w = w' :=
  (isnan_any b hb w).mono fun _ _ ⟨he, hw⟩ => ⟨by rw [he, h], hw⟩
set_option maxRecDepth 100000 in
theorem isnan_no (b : Nat) (hb : b < 18446744073709551616) (h : isNan b = false) (w : World) :
    Calls Tryd.prog 105 #[.float .f64 b] w fun e w' => e = .returned (.bool false) ∧ w = w' :=
  (isnan_any b hb w).mono fun _ _ ⟨he, hw⟩ => ⟨by rw [he, h], hw⟩

set_option maxRecDepth 100000 in
set_option maxHeartbeats 400000 in
theorem canon_nan (b : Nat) (hb : b < 18446744073709551616) (h : isNan b = true) (w : World) :
    Calls Tryd.prog 93 #[.float .f64 b] w fun e w' => e = .returned (.float .f64 NAN) ∧ w = w' := by
  have H := Lib.hid h; clear h
  go_enter Tryd.func93, Tryd.ntmps93
  go_wp2_with (go_at_call 105; refine (isnan_yes b hb H.out _).mono ?_; rintro e w' ⟨rfl, rfl⟩)
  go_ret
  exact ⟨rfl, rfl⟩
set_option maxRecDepth 100000 in
set_option maxHeartbeats 400000 in
theorem canon_zero (b : Nat) (hb : b < 18446744073709551616) (h : isNan b = false) (hz : (FloatKind.f64.format.order b 0 == some Ordering.eq) = true) (w : World) :
    Calls Tryd.prog 93 #[.float .f64 b] w fun e w' => e = .returned (.float .f64 0) ∧ w = w' := by
  have H := Lib.hid h; clear h
  go_enter Tryd.func93, Tryd.ntmps93
  go_wp2_with (go_at_call 105; refine (isnan_no b hb H.out _).mono ?_; rintro e w' ⟨rfl, rfl⟩)
  go_ret
  exact ⟨rfl, rfl⟩
set_option maxRecDepth 100000 in
set_option maxHeartbeats 400000 in
theorem canon_num (b : Nat) (hb : b < 18446744073709551616) (h : isNan b = false) (hz : (FloatKind.f64.format.order b 0 == some Ordering.eq) = false) (w : World) :
    Calls Tryd.prog 93 #[.float .f64 b] w fun e w' => e = .returned (.float .f64 b) ∧ w = w' := by
  have H := Lib.hid h; clear h
  go_enter Tryd.func93, Tryd.ntmps93
  go_wp2_with (go_at_call 105; refine (isnan_no b hb H.out _).mono ?_; rintro e w' ⟨rfl, rfl⟩)
  go_ret
  exact ⟨rfl, rfl⟩
set_option maxRecDepth 100000 in
theorem canon_any (b : Nat) (hb : b < 18446744073709551616) (w : World) :
    Calls Tryd.prog 93 #[.float .f64 b] w fun e w' => e = .returned (.float .f64 (canonB b)) ∧ w = w' := by
  by_cases h : isNan b = true
  · rw [canonB_nan h]; exact canon_nan b hb h w
  · have h' : isNan b = false := by simpa using h
    by_cases h0 : b = 0
    · rw [show canonB b = 0 by rw [h0]; decide]
      exact canon_zero b hb h' (zero_yes b (Or.inl h0)) w
    · by_cases h1 : b = SW
      · rw [show canonB b = 0 by rw [h1]; decide]
        exact canon_zero b hb h' (zero_yes b (Or.inr h1)) w
      · rw [canonB_num h' h1]
        exact canon_num b hb h' (zero_no b hb h0 h1) w
set_option maxRecDepth 100000 in
set_option maxHeartbeats 400000 in
theorem bits_any (b : Nat) (hb : b < 18446744073709551616) (w : World) :
    Calls Tryd.prog 60 #[.float .f64 b] w fun e w' => e = .returned (.int .u64 (canonB b)) ∧ w = w' := by
  go_enter Tryd.func60, Tryd.ntmps60
  go_wp2_with (go_at_call 93; refine (canon_any b hb _).mono ?_; rintro e w' ⟨rfl, rfl⟩)
  go_ret
  exact ⟨rfl, rfl⟩
set_option maxRecDepth 100000 in
set_option maxHeartbeats 400000 in
theorem refbits_any (b : Nat) (w : World) :
    Calls Tryd.prog 67 #[.float .f64 b] w fun e w' => e = .returned (.int .u64 (canonB b)) ∧ w = w' := by
  go_enter Tryd.func67, Tryd.ntmps67
  go_wp2
  all_goals go_ret
  · exact ⟨ret_int (ref_nan ‹_›), rfl⟩
  · exact ⟨ret_int (ref_zero ‹_›), rfl⟩
  · exact ⟨ret_int (ref_num ‹_› ‹_›), rfl⟩
set_option maxRecDepth 100000 in
theorem nat_eq_int (a b : Nat) : ((a : Int) == (b : Int)) = decide (a = b) := by
  by_cases h : a = b
  · simp [h]
  · rw [decide_eq_false h, beq_eq_false_iff_ne]; omega
set_option maxRecDepth 100000 in
set_option maxHeartbeats 400000 in
theorem rsame_any (a b : Nat) (ha : a < 18446744073709551616) (hb : b < 18446744073709551616) (w : World) :
    Calls Tryd.prog 68 #[.float .f64 a, .float .f64 b] w fun e w' => e = .returned (.bool (decide (canonB a = canonB b))) ∧ w = w' := by
  go_enter Tryd.func68, Tryd.ntmps68
  go_wp2_with fail
  refine (bits_any a ha w).mono ?_
  rintro e w' ⟨rfl, rfl⟩
  go_wp2_with fail
  refine (bits_any b hb w).mono ?_
  rintro e w' ⟨rfl, rfl⟩
  go_wp2_with fail
  go_ret
  exact ⟨by rw [nat_eq_int]; rfl, rfl⟩
/-- a number of bits, and its error -/
def ofV (x : Nat) : Nat := if ofOk x then x else 0
def ofE (x : Nat) : Int := if ofOk x then 0 else 2
set_option maxRecDepth 100000 in
theorem ofOk_yes {x : Nat} (h : canonB x = x) : ofOk x = true := decide_eq_true h
set_option maxRecDepth 100000 in
theorem ofOk_no {x : Nat} (h : canonB x ≠ x) : ofOk x = false := decide_eq_false h
set_option maxRecDepth 100000 in
set_option maxHeartbeats 1000000 in
theorem of_any (x : Nat) (hx : x < 18446744073709551616) (w : World) :
    Calls Tryd.prog 63 #[.int .u64 x] w fun e w' => e = .returned (.tuple #[.float .f64 (ofV x), .int .i64 (ofE x)]) ∧ w = w' := by
  have hfb := fun w => run_frombits (x : Int) w
  have HX := Lib.hid hx
  by_cases h : canonB x = x
  · have h1 : ((canonB x : Int) != (x : Int)) = false := by rw [h]; simp
    have HE : Hid (ofV x = x ∧ ofE x = 0) := by refine (?_ : _ ∧ _); unfold ofV ofE; rw [ofOk_yes h]; exact ⟨rfl, rfl⟩
    clear h
    go_enter Tryd.func63, Tryd.ntmps63
    go_wp2_with fail
    refine (bits_any x HX.out w).mono ?_
    rintro e w1 ⟨rfl, rfl⟩
    go_wp2_with fail
    go_ret2
    rw [HE.out.1, HE.out.2]; exact ⟨rfl, rfl⟩
  · have h1 : ((canonB x : Int) != (x : Int)) = true := by rw [bne_iff_ne]; omega
    have HE : Hid (ofV x = 0 ∧ ofE x = 2) := by refine (?_ : _ ∧ _); unfold ofV ofE; rw [ofOk_no h]; exact ⟨rfl, rfl⟩
    clear h
    go_enter Tryd.func63, Tryd.ntmps63
    go_wp2_with fail
    refine (bits_any x HX.out w).mono ?_
    rintro e w1 ⟨rfl, rfl⟩
    go_wp2_with fail
    go_ret2
    rw [HE.out.1, HE.out.2]; exact ⟨rfl, rfl⟩
set_option maxRecDepth 100000 in
set_option maxHeartbeats 1000000 in
theorem rof_any (x : Nat) (hx : x < 18446744073709551616) (w : World) :
    Calls Tryd.prog 72 #[.int .u64 x] w fun e w' => e = .returned (.tuple #[.float .f64 (ofV x), .int .i64 (ofE x)]) ∧ w = w' := by
  have hfb := fun w => run_frombits (x : Int) w
  by_cases h1 : isNan x = true
  · have g1 : decide ((9218868437227405312 : Int) < (x : Int) % 9223372036854775808) = true := by
      unfold isNan INF SW at h1; simp only [decide_eq_true_eq] at h1 ⊢; omega
    by_cases h2 : x = NAN
    · have HE : Hid (ofV x = x ∧ ofE x = 0) := by refine (?_ : _ ∧ _); unfold ofV ofE; rw [ofOk_yes (by rw [canonB_nan h1, h2])]; exact ⟨rfl, rfl⟩
      have g2 : ((x : Int) != 9221120237041090561) = false := by rw [h2]; rfl
      have g3 : ((x : Int) == 9223372036854775808) = false := by rw [beq_eq_false_iff_ne, h2]; decide
      clear h1 h2
      go_enter Tryd.func72, Tryd.ntmps72
      go_wp2_with fail
      go_ret2
      rw [HE.out.1, HE.out.2]; exact ⟨rfl, rfl⟩
    · have HE : Hid (ofV x = 0 ∧ ofE x = 2) := by refine (?_ : _ ∧ _); unfold ofV ofE; rw [ofOk_no (by rw [canonB_nan h1]; exact fun e => h2 e.symm)]; exact ⟨rfl, rfl⟩
      have g2 : ((x : Int) != 9221120237041090561) = true := by rw [bne_iff_ne]; intro e; exact h2 (by unfold NAN; omega)
      clear h1 h2
      go_enter Tryd.func72, Tryd.ntmps72
      go_wp2_with fail
      go_ret2
      rw [HE.out.1, HE.out.2]; exact ⟨rfl, rfl⟩
  · have h1' : isNan x = false := by simpa using h1
    have g1 : decide ((9218868437227405312 : Int) < (x : Int) % 9223372036854775808) = false := by
      unfold isNan INF SW at h1; simp only [decide_eq_true_eq] at h1; exact decide_eq_false (by omega)
    by_cases h2 : x = SW
    · have HE : Hid (ofV x = 0 ∧ ofE x = 2) := by refine (?_ : _ ∧ _); unfold ofV ofE; rw [ofOk_no (by rw [h2, canonB_sw]; decide)]; exact ⟨rfl, rfl⟩
      have g3 : ((x : Int) == 9223372036854775808) = true := by rw [h2]; rfl
      clear h1 h2
      go_enter Tryd.func72, Tryd.ntmps72
      go_wp2_with fail
      go_ret2
      rw [HE.out.1, HE.out.2]; exact ⟨rfl, rfl⟩
    · have HE : Hid (ofV x = x ∧ ofE x = 0) := by refine (?_ : _ ∧ _); unfold ofV ofE; rw [ofOk_yes (canonB_num h1' h2)]; exact ⟨rfl, rfl⟩
      have g3 : ((x : Int) == 9223372036854775808) = false := by rw [beq_eq_false_iff_ne]; intro e; exact h2 (by unfold SW; omega)
      clear h1 h2 h1'
      go_enter Tryd.func72, Tryd.ntmps72
      go_wp2_with fail
      go_ret2
      rw [HE.out.1, HE.out.2]; exact ⟨rfl, rfl⟩
end Go.Proofs.YtggmogjgaoobjaaDoor

/- Rows of bytes and texts as lists, rows of a call's own, trees in memory. -/
namespace Go.Proofs.YtggmogjgaoobjaaDoor
open Go.RowKit TreeMath

set_option maxRecDepth 100000 in
theorem run_store_floatT (P : Program) (w : World) (a : Addr) (m : Mode) (k : FloatKind) (x : Nat) : (store a (.float k x) m).run P w = stored P w a (.float k x) m := run_store P w a _ m rfl
set_option maxRecDepth 100000 in
theorem run_store_fn (P : Program) (w : World) (a : Addr) (m : Mode) (fn : Fn) (first captured : Array Value) : (store a (.func fn first captured) m).run P w = stored P w a (.func fn first captured) m := run_store P w a _ m rfl
attribute [go_sem] run_store_floatT run_store_fn
set_option maxRecDepth 100000 in
theorem SrcIs.belowB {w w' : World} {A : Option Addr} {p : List By} {B : Nat} (h : SrcIs w A p) (hb : Below B w w') (hA : 0 < p.length → ∀ a, A = some a → a.block < B) : SrcIs w' A p := fun h0 => by
  obtain ⟨b, o, rfl, hc⟩ := h h0
  exact ⟨b, o, rfl, hc.below hb (hA h0 _ rfl)⟩
set_option maxRecDepth 100000 in
theorem SrcIs.lt {w : World} {A : Option Addr} {p : List By} (h : SrcIs w A p) : 0 < p.length → ∀ a, A = some a → a.block < w.heap.size := fun h0 a ha => by
  obtain ⟨b, o, rfl, hc⟩ := h h0
  cases ha
  exact hc.lt h0
/-- the seven cells of a node -/
def cellsOf (x : Hd) (n : Nat) : List Value := [vb x.kind, .slice x.na x.names.length x.nc, .slice x.ka n x.kc, .slice x.da x.data.length x.dc, .bool x.run, .float .f64 x.stamp, vs x.target]
def cellsT : T → List Value | .mk x ks => cellsOf x ks.length
/-- a node by value -/
abbrev nv (x : Hd) (n : Nat) : Value := .agg #[vb x.kind, .slice x.na x.names.length x.nc, .slice x.ka n x.kc, .slice x.da x.data.length x.dc, .bool x.run, .float .f64 x.stamp, vs x.target]
def val : T → Value | .mk x ks => nv x ks.length
def CellsAt (w : World) (b o : Nat) (cs : List Value) : Prop := ∀ j v, cs[j]? = some v → w.cell? ⟨b, o + j, none⟩ = some v
set_option maxRecDepth 100000 in
theorem CellsAt.same {w w' : World} {b o : Nat} {cs : List Value} (h : CellsAt w b o cs) (hb : w'.heap[b]? = w.heap[b]?) : CellsAt w' b o cs := fun j v hv => by
  rw [World.cell?_of_block (w := w) (a := ⟨b, o + j, none⟩) hb]; exact h j v hv
structure HdOk (w : World) (top : Nat) (x : Hd) : Prop where
  nsrc : StrsIs w x.na x.names
  nlt : 0 < x.names.length → ∀ a, x.na = some a → a.block < top
  nnil : x.na = none → x.nc = 0
  ncap : x.names.length ≤ x.nc
  nlen : x.names.length ≤ maxLen
  neach : ∀ t ∈ x.names, t.length ≤ maxLen
  dsrc : SrcIs w x.da x.data
  dlt : 0 < x.data.length → ∀ a, x.da = some a → a.block < top
  dnil : x.da = none → x.dc = 0
  dcap : x.data.length ≤ x.dc
  dlen : x.data.length ≤ maxLen
  stamp : x.stamp < 18446744073709551616
  tlen : x.target.length ≤ maxLen
  knil : x.ka = none → x.kc = 0
def KidsAt (w : World) (top : Nat) (A : Option Addr) (ks : List T) : Prop := 0 < ks.length → ∃ b o, A = some ⟨b, o, none⟩ ∧ b < top ∧ ∀ i (h : i < ks.length), CellsAt w b (o + i * 7) (cellsT ks[i])
/-- a tree in memory, all of it below top -/
inductive Ok (w : World) (top : Nat) : T → Prop
  | mk (x : Hd) (ks : List T) (hx : HdOk w top x) (hl : ks.length ≤ maxLen) (hc : ks.length ≤ x.kc) (hk : KidsAt w top x.ka ks) (hks : ∀ k ∈ ks, Ok w top k) : Ok w top (.mk x ks)
section
variable {w w' : World} {top : Nat}
set_option maxRecDepth 100000 in
theorem HdOk.below {x : Hd} (h : HdOk w top x) (hb : Below top w w') : HdOk w' top x :=
  ⟨h.nsrc.below hb h.nlt, h.nlt, h.nnil, h.ncap, h.nlen, h.neach, h.dsrc.belowB hb h.dlt, h.dlt, h.dnil, h.dcap, h.dlen, h.stamp, h.tlen, h.knil⟩
set_option maxRecDepth 100000 in
theorem KidsAt.below {A : Option Addr} {ks : List T} (h : KidsAt w top A ks) (hb : Below top w w') : KidsAt w' top A ks := fun h0 => by
  obtain ⟨b, o, rfl, hlt, hc⟩ := h h0
  exact ⟨b, o, rfl, hlt, fun i hi => (hc i hi).same (hb.block b hlt)⟩
set_option maxRecDepth 100000 in
theorem Ok.keep {t : T} (h : Ok w top t) (hb : Below top w w') : Ok w' top t := by
  induction h with
  | mk x ks hx hl hc hk hks ih => exact .mk x ks (hx.below hb) hl hc (hk.below hb) ih
set_option maxRecDepth 100000 in
theorem HdOk.up {x : Hd} {top' : Nat} (h : HdOk w top x) (ht : top ≤ top') : HdOk w top' x :=
  ⟨h.nsrc, fun a b c => Nat.lt_of_lt_of_le (h.nlt a b c) ht, h.nnil, h.ncap, h.nlen, h.neach, h.dsrc, fun a b c => Nat.lt_of_lt_of_le (h.dlt a b c) ht, h.dnil, h.dcap, h.dlen, h.stamp, h.tlen, h.knil⟩
set_option maxRecDepth 100000 in
theorem Ok.up {t : T} {top' : Nat} (h : Ok w top t) (ht : top ≤ top') : Ok w top' t := by
  induction h with
  | mk x ks hx hl hc hk hks ih =>
    refine .mk x ks (hx.up ht) hl hc (fun h0 => ?_) ih
    obtain ⟨b, o, e, hlt, h⟩ := hk h0
    exact ⟨b, o, e, by omega, h⟩
set_option maxRecDepth 100000 in
theorem Ok.hd {x : Hd} {ks : List T} (h : Ok w top (.mk x ks)) : HdOk w top x := by cases h; assumption
set_option maxRecDepth 100000 in
theorem Ok.len {x : Hd} {ks : List T} (h : Ok w top (.mk x ks)) : ks.length ≤ maxLen := by cases h; assumption
set_option maxRecDepth 100000 in
theorem Ok.cap {x : Hd} {ks : List T} (h : Ok w top (.mk x ks)) : ks.length ≤ x.kc := by cases h; assumption
set_option maxRecDepth 100000 in
theorem Ok.at {x : Hd} {ks : List T} (h : Ok w top (.mk x ks)) : KidsAt w top x.ka ks := by cases h; assumption
set_option maxRecDepth 100000 in
theorem Ok.kid {x : Hd} {ks : List T} (h : Ok w top (.mk x ks)) {k : T} (hk : k ∈ ks) : Ok w top k := by cases h with | mk _ _ _ _ _ _ hks => exact hks k hk
end
/-- of what was there, only blocks in S may have turned; in S' is no other of them -/
structure Turned (S S' : Nat → Prop) (w w' : World) : Prop where
  os : w'.os = w.os
  tape : w'.tape = w.tape
  output : w'.output = w.output
  size : w.heap.size ≤ w'.heap.size
  other : ∀ c, c < w.heap.size → ¬ S c → w'.heap[c]? = w.heap[c]?
  own : ∀ c, S' c → S c ∨ w.heap.size ≤ c
set_option maxRecDepth 100000 in
theorem Turned.refl (S : Nat → Prop) (w : World) : Turned S S w w := ⟨rfl, rfl, rfl, Nat.le_refl _, fun _ _ _ => rfl, fun _ h => Or.inl h⟩
set_option maxRecDepth 100000 in
theorem Turned.trans {S S' S'' : Nat → Prop} {a b c : World} (h : Turned S S' a b) (k : Turned S' S'' b c) : Turned S S'' a c :=
  ⟨k.os.trans h.os, k.tape.trans h.tape, k.output.trans h.output, Nat.le_trans h.size k.size,
   fun i hi hn => (k.other i (Nat.lt_of_lt_of_le hi h.size) (fun h' => by rcases h.own i h' with e | e; exact hn e; omega)).trans (h.other i hi hn),
   fun i hi => by rcases k.own i hi with e | e; exact h.own i e; exact Or.inr (Nat.le_trans h.size e)⟩
set_option maxRecDepth 100000 in
theorem Turned.of_below {S : Nat → Prop} {w w' : World} (h : Below w.heap.size w w') : Turned S S w w' := ⟨h.os, h.tape, h.output, h.size, fun c hc _ => h.block c hc, fun _ h => Or.inl h⟩
set_option maxRecDepth 100000 in
theorem Turned.below {S S' : Nat → Prop} {w w' : World} {B : Nat} (h : Turned S S' w w') (hS : ∀ c, S c → B ≤ c) (hB : B ≤ w.heap.size) : Below B w w' :=
  ⟨h.os, h.tape, h.output, h.size, fun k hk => h.other k (by omega) (fun hs => by have := hS k hs; omega)⟩
set_option maxRecDepth 100000 in
theorem Turned.blk {S S' : Nat → Prop} {w w' : World} {b : Nat} {t : TypeId} {cs : List Value} (h : Turned S S' w w') (hb : Blk w b t cs) (hS : ¬ S b) : Blk w' b t cs := by
  unfold Blk; rw [h.other b hb.lt hS]; exact hb
end Go.Proofs.YtggmogjgaoobjaaDoor

/- The contracts of bytes.Equal, slices.Equal, and of the reference's Bytes and Texts: are two rows alike? -/
namespace Go.Proofs.YtggmogjgaoobjaaDoor
open Go.RowKit TreeMath

set_option maxRecDepth 100000 in
theorem list_ne_at {α : Type} {l m : List α} (k : Nat) (h1 : k < l.length) (h2 : k < m.length) (h : l[k] ≠ m[k]) : l ≠ m := fun e => by subst e; exact h rfl
set_option maxRecDepth 100000 in
theorem list_eq_all {α : Type} {l m : List α} (hl : l.length = m.length) (h : ∀ k (h1 : k < l.length) (h2 : k < m.length), l[k] = m[k]) : l = m := List.ext_getElem hl h
set_option maxRecDepth 100000 in
theorem list_beq (a b : List By) : (a == b) = decide (a = b) := by
  by_cases h : a = b
  · subst h; simp
  · rw [decide_eq_false h, beq_eq_false_iff_ne]; exact h
set_option maxRecDepth 100000 in
theorem drewN_ex {w : World} {q n : Nat} : ∃ k, (w.drewN q).drewN n = w.drewN k := ⟨q + n, World.drewN_drewN _ _ _⟩
set_option maxRecDepth 100000 in
theorem vb_eq (a b : By) : ((a.toNat : Int) == (b.toNat : Int)) = decide (a = b) := by
  rw [nat_eq_int]
  by_cases h : a = b
  · simp [h]
  · rw [decide_eq_false h, decide_eq_false]; intro e; exact h (UInt8.toNat_inj.1 e)
set_option maxRecDepth 100000 in
set_option maxHeartbeats 1000000 in
theorem bytes_any (A B : Option Addr) (ca cb : Nat) (l m : List By) (hl : l.length ≤ maxLen) (hm : m.length ≤ maxLen) (w : World) (hA : SrcIs w A l) (hB : SrcIs w B m) :
    Calls Tryd.prog 16 #[.slice A l.length ca, .slice B m.length cb] w fun e w' => e = .returned (.bool (decide (l = m))) ∧ ∃ q, w' = w.drewN q := by
  have HA := Lib.hid hA; have HB := Lib.hid hB
  clear hA hB
  unfold maxLen at hl hm
  by_cases hlen : l.length = m.length
  · generalize hn : l.length = n at *
    generalize hn' : m.length = n' at *
    subst hlen
    go_enter Tryd.func16, Tryd.ntmps16
    go_wp2_with fail
    go_loopw [5] (fun vi wr => ∃ k : Nat, k ≤ n ∧ vi = .int .i64 k ∧ Hid (∀ j (h1 : j < l.length) (h2 : j < m.length), j < k → l[j] = m[j]) ∧ Hid (∃ q, wr = w.drewN q)) (fun vi _ => n - (intOf vi).toNat)
    case atStart => exact ⟨0, Nat.zero_le _, rfl, fun j h1 h2 h3 => by omega, 0, rfl⟩
    case round =>
      obtain ⟨k, hk, rfl, HE, HR⟩ := hrel
      rename World => W0
      by_cases hlt : k < n
      · obtain ⟨a, oa, rfl, ha⟩ := HA.out (by omega)
        obtain ⟨b, ob, rfl, hb⟩ := HB.out (by omega)
        obtain ⟨q, rfl⟩ := HR.out
        have c1 : w.cell? ⟨a, oa + k, none⟩ = some (vb (l[k]'(by omega))) := ha k (by omega)
        have c2 : w.cell? ⟨b, ob + k, none⟩ = some (vb (m[k]'(by omega))) := hb k (by omega)
        have HNE : Hid (l[k]'(by omega) ≠ m[k]'(by omega) → decide (l = m) = false) := fun h => decide_eq_false (list_ne_at k (by omega) (by omega) h)
        have HEQ : Hid (l[k]'(by omega) = m[k]'(by omega) → ∀ j (h1 : j < l.length) (h2 : j < m.length), j < k + 1 → l[j] = m[j]) := fun h j h1 h2 h3 => by
          by_cases e : j = k
          · subst e; exact h
          · exact HE.out j h1 h2 (by omega)
        clear ha hb HA HB HR HE
        generalize l[k]'(by omega) = x at *
        generalize m[k]'(by omega) = y at *
        by_cases hxy : x = y
        · subst hxy
          have HEQ' := Lib.hid (HEQ.out rfl)
          clear HNE HEQ
          go_wp2_with fail
          go_quiet (fail)
          go_wp2_with fail
          go_roundw
          case rel => exact ⟨k + 1, by omega, by go_num, HEQ'.out, _, rfl⟩
          case measure => simp [intOf]; omega
        · have HF := Lib.hid (HNE.out hxy)
          have hb : ((x.toNat : Int) == (y.toNat : Int)) = false := by rw [vb_eq]; exact decide_eq_false hxy
          have hb' : (x.toNat == y.toNat) = false := by rw [beq_eq_false_iff_ne]; intro e; exact hxy (UInt8.toNat_inj.1 e)
          clear HNE HEQ hxy
          go_wp2_with fail
          go_quiet (fail)
          go_wp2_with fail
          go_ret
          exact ⟨by rw [HF.out]; rfl, drewN_ex⟩
      · have HT : Hid (decide (l = m) = true) := decide_eq_true (list_eq_all (by omega) (fun j h1 h2 => HE.out j h1 h2 (by omega)))
        obtain rfl : k = n := by omega
        clear HE
        go_wp2_with fail
        go_ret
        exact ⟨by rw [HT.out]; rfl, HR.out⟩
  · have HF : Hid (decide (l = m) = false) := decide_eq_false (fun e => hlen (by rw [e]))
    have hb : ((l.length : Int) == (m.length : Int)) = false := by rw [beq_eq_false_iff_ne]; omega
    have hb' : (l.length == m.length) = false := by rw [beq_eq_false_iff_ne]; omega
    clear hlen
    go_enter Tryd.func16, Tryd.ntmps16
    go_wp2_with fail
    go_ret
    exact ⟨by rw [HF.out]; rfl, 0, rfl⟩
set_option maxRecDepth 100000 in
set_option maxHeartbeats 1000000 in
theorem texts_any (A B : Option Addr) (ca cb : Nat) (l m : List (List By)) (hl : l.length ≤ maxLen) (hm : m.length ≤ maxLen) (w : World) (hA : StrsIs w A l) (hB : StrsIs w B m) :
    Calls Tryd.prog 53 #[.slice A l.length ca, .slice B m.length cb] w fun e w' => e = .returned (.bool (decide (l = m))) ∧ ∃ q, w' = w.drewN q := by
  have HA := Lib.hid hA; have HB := Lib.hid hB
  clear hA hB
  unfold maxLen at hl hm
  by_cases hlen : l.length = m.length
  · generalize hn : l.length = n at *
    generalize hn' : m.length = n' at *
    subst hlen
    go_enter Tryd.func53, Tryd.ntmps53
    go_wp2_with fail
    go_loopw [5] (fun vi wr => ∃ k : Nat, k ≤ n ∧ vi = .int .i64 k ∧ Hid (∀ j (h1 : j < l.length) (h2 : j < m.length), j < k → l[j] = m[j]) ∧ Hid (∃ q, wr = w.drewN q)) (fun vi _ => n - (intOf vi).toNat)
    case atStart => exact ⟨0, Nat.zero_le _, rfl, fun j h1 h2 h3 => by omega, 0, rfl⟩
    case round =>
      obtain ⟨k, hk, rfl, HE, HR⟩ := hrel
      rename World => W0
      by_cases hlt : k < n
      · obtain ⟨a, oa, rfl, ha⟩ := HA.out (by omega)
        obtain ⟨b, ob, rfl, hb⟩ := HB.out (by omega)
        obtain ⟨q, rfl⟩ := HR.out
        have c1 : w.cell? ⟨a, oa + k, none⟩ = some (vs (l[k]'(by omega))) := ha k (by omega)
        have c2 : w.cell? ⟨b, ob + k, none⟩ = some (vs (m[k]'(by omega))) := hb k (by omega)
        have HNE : Hid (l[k]'(by omega) ≠ m[k]'(by omega) → decide (l = m) = false) := fun h => decide_eq_false (list_ne_at k (by omega) (by omega) h)
        have HEQ : Hid (l[k]'(by omega) = m[k]'(by omega) → ∀ j (h1 : j < l.length) (h2 : j < m.length), j < k + 1 → l[j] = m[j]) := fun h j h1 h2 h3 => by
          by_cases e : j = k
          · subst e; exact h
          · exact HE.out j h1 h2 (by omega)
        clear ha hb HA HB HR HE
        generalize l[k]'(by omega) = x at *
        generalize m[k]'(by omega) = y at *
        by_cases hxy : x = y
        · subst hxy
          have HEQ' := Lib.hid (HEQ.out rfl)
          clear HNE HEQ
          go_wp2_with fail
          go_quiet (fail)
          go_wp2_with fail
          go_roundw
          case rel => exact ⟨k + 1, by omega, by go_num, HEQ'.out, _, rfl⟩
          case measure => simp [intOf]; omega
        · have HF := Lib.hid (HNE.out hxy)
          have hb : (x == y) = false := by rw [list_beq]; exact decide_eq_false hxy
          clear HNE HEQ hxy
          go_wp2_with fail
          go_quiet (fail)
          go_wp2_with fail
          go_ret
          exact ⟨by rw [HF.out]; rfl, drewN_ex⟩
      · have HT : Hid (decide (l = m) = true) := decide_eq_true (list_eq_all (by omega) (fun j h1 h2 => HE.out j h1 h2 (by omega)))
        obtain rfl : k = n := by omega
        clear HE
        go_wp2_with fail
        go_ret
        exact ⟨by rw [HT.out]; rfl, HR.out⟩
  · have HF : Hid (decide (l = m) = false) := decide_eq_false (fun e => hlen (by rw [e]))
    have hb : ((l.length : Int) == (m.length : Int)) = false := by rw [beq_eq_false_iff_ne]; omega
    have hb' : (l.length == m.length) = false := by rw [beq_eq_false_iff_ne]; omega
    clear hlen
    go_enter Tryd.func53, Tryd.ntmps53
    go_wp2_with fail
    go_ret
    exact ⟨by rw [HF.out]; rfl, 0, rfl⟩
end Go.Proofs.YtggmogjgaoobjaaDoor

/- The contracts of the program's Same and of slices.EqualFunc, which call each other. -/
namespace Go.Proofs.YtggmogjgaoobjaaDoor
open Go.RowKit TreeMath RealMath

set_option maxRecDepth 100000 in
theorem below_node {B : Nat} {a w : World} (h : Below B a w) (hB : B ≤ w.heap.size) (o : Obj) (g : Nat) (hg : g = w.heap.size) (v0 v1 v2 v3 v4 v5 v6 : Value) :
    Below B a ((((((((w.alloc o).setCell ⟨g, 0, none⟩ v0).setCell ⟨g, 1, none⟩ v1).setCell ⟨g, 2, none⟩ v2).setCell ⟨g, 3, none⟩ v3).setCell ⟨g, 4, none⟩ v4).setCell ⟨g, 5, none⟩ v5).setCell ⟨g, 6, none⟩ v6) := by
  subst hg
  exact ((((((((h.alloc hB o).setCell (by exact hB) _).setCell (by exact hB) _).setCell (by exact hB) _).setCell (by exact hB) _).setCell (by exact hB) _).setCell (by exact hB) _).setCell (by exact hB) _)
set_option maxRecDepth 100000 in
theorem KidsAt.cells {w : World} {top : Nat} {A : Option Addr} {ks : List T} (h : KidsAt w top A ks) (i : Nat) (hi : i < ks.length) : ∃ b o x l, A = some ⟨b, o, none⟩ ∧ b < top ∧ ks[i] = .mk x l ∧ CellsAt w b (o + i * 7) (cellsOf x l.length) := by
  obtain ⟨b, o, e, hb, hc⟩ := h (by omega)
  have := hc i hi
  cases hk : ks[i] with
  | mk x l => rw [hk] at this; exact ⟨b, o, x, l, e, hb, rfl, this⟩
set_option maxRecDepth 100000 in
theorem CellsAt.seven {w : World} {b o n : Nat} {x : Hd} (h : CellsAt w b o (cellsOf x n)) :
    w.cell? ⟨b, o, none⟩ = some (vb x.kind) ∧ w.cell? ⟨b, o + 1, none⟩ = some (.slice x.na x.names.length x.nc) ∧ w.cell? ⟨b, o + 2, none⟩ = some (.slice x.ka n x.kc) ∧ w.cell? ⟨b, o + 3, none⟩ = some (.slice x.da x.data.length x.dc) ∧
    w.cell? ⟨b, o + 4, none⟩ = some (.bool x.run) ∧ w.cell? ⟨b, o + 5, none⟩ = some (.float .f64 x.stamp) ∧ w.cell? ⟨b, o + 6, none⟩ = some (vs x.target) :=
  ⟨h 0 _ rfl, h 1 _ rfl, h 2 _ rfl, h 3 _ rfl, h 4 _ rfl, h 5 _ rfl, h 6 _ rfl⟩
end Go.Proofs.YtggmogjgaoobjaaDoor
