/- The contracts of the reader's numbers and text. -/
import Derived.Test.YtlehgacbcacokaaG11
import Derived.Test.YtlehgacbcacokaaG3
import Derived.Test.YtlehgacbcacokaaG9
import Derived.Test.YtlehgacbcacokaaG4
namespace Go.Proofs.Ytlehgacbcacokaa
open Go.RowKit BaseMath WireMath

theorem take_nil (n : Nat) (hn : n ≤ 1000000) (w : World) : Calls Try.prog 96 #[.pointer none, .int .i64 n] w fun e w' => e = .returned (.slice none 0 0) ∧ w = w' := by
  by_cases h0 : n = 0
  · subst h0
    go_enter Try.func96, Try.ntmps96
    go_wp2_with fail
    refine (left_nil w).mono ?_
    rintro e w1 ⟨rfl, rfl⟩
    go_wp2_with fail
    go_ret
    exact ⟨rfl, rfl⟩
  · have h0' : (0 : Int) < n := by omega
    go_enter Try.func96, Try.ntmps96
    go_wp2_with fail
    refine (left_nil w).mono ?_
    rintro e w1 ⟨rfl, rfl⟩
    go_wp2_with fail
    refine (fail_nil w).mono ?_
    rintro e w1 ⟨rfl, rfl⟩
    go_wp2_with fail
    go_ret
    exact ⟨rfl, rfl⟩
/-- what a number comes to -/
def NumPost (k : IntKind) (x : Nat) (w : World) (T : TypeId) (top g n : Nat) (r : Rd) (e : Ending) (w' : World) : Prop :=
  e = .returned (.int k (x : Nat)) ∧ RdIs w' T top g (after n r) ∧ OnlyAt g w w'
theorem val_take (t : List By) (k : Nat) (h : k < t.length) : BaseMath.val 256 (nat (t.take (k + 1))) = BaseMath.val 256 (nat (t.take k)) * 256 + t[k].toNat := by
  rw [List.take_succ_eq_append_getElem h]; unfold nat; rw [List.map_append, List.map_singleton, val_snoc]
theorem val_take_lt (t : List By) (k : Nat) (hk : k ≤ 7) : BaseMath.val 256 (nat (t.take k)) < 72057594037927936 := by
  refine Nat.lt_of_lt_of_le (val_lt 256 _ (nat_lt _)) (Nat.le_trans (Nat.pow_le_pow_right (by decide) (?_ : _ ≤ 7)) (by decide))
  rw [nat_length]; simp; omega
theorem or_byte (x b : Nat) (hx : x < 72057594037927936) (hb : b < 256) : bits .or .u64 ((x : Int) * 256) (b : Int) = ((x * 256 + b : Nat) : Int) := by
  rw [show (x : Int) * 256 = ((x * 256 : Nat) : Int) by omega, u64_or_nat _ _ (by omega) (by omega), nat_join 8 (x * 256) b (by omega) hb]
set_option maxHeartbeats 1000000 in
theorem number_any (top g n : Nat) (hn : n ≤ 8) (r : Rd) (hr : r.p.length ≤ 1000000) (w : World) (h : RdIs w 111 top g r) :
    Calls Try.prog 109 #[.pointer (some ⟨g, 0, none⟩), .int .i64 n] w (NumPost .u64 (numR n r) w 111 top g n r) := by
  have H := Lib.hid h; clear h
  go_enter Try.func109, Try.ntmps109
  go_wp2_with fail
  refine (take_any top g n (by omega) r hr w H.out).mono ?_
  rintro e w1 ⟨A, c, rfl, hs, hr1, ho1⟩
  have HS := Lib.hid hs; have HR := Lib.hid hr1; have HO := Lib.hid ho1
  have htl := taken_length n r
  have HV : Hid (numR n r = BaseMath.val 256 (nat (taken n r))) := rfl
  clear hs hr1 ho1 H
  generalize taken n r = t at *
  generalize numR n r = v at *
  go_wp2_with fail
  go_loop [5, 12] (fun vx vi => ∃ k : Nat, k ≤ t.length ∧ vi = .int .i64 k ∧ vx = .int .u64 (BaseMath.val 256 (nat (t.take k)) : Nat)) (fun _ vi => t.length - (intOf vi).toNat)
  case atStart => exact ⟨0, Nat.zero_le _, rfl, rfl⟩
  case round =>
    obtain ⟨k, hk, rfl, rfl⟩ := hrel
    by_cases hlt : k < t.length
    · obtain ⟨b, o, rfl, hb⟩ := HS.out (by omega)
      have c0 : w1.cell? ⟨b, o + k, none⟩ = some (vb t[k]) := hb k hlt
      have hx := val_take_lt t k (by omega)
      have HVT := Lib.hid (val_take t k hlt)
      have hbb : t[k].toNat < 256 := t[k].toNat_lt
      have hor := or_byte (BaseMath.val 256 (nat (t.take k))) t[k].toNat hx hbb
      clear hb
      generalize BaseMath.val 256 (nat (t.take k)) = x at *
      generalize t[k] = y at *
      have hx' : x ≤ 72057594037927935 := by omega
      obtain ⟨z, HZ⟩ : ∃ z, Hid (z = x * 256 + y.toNat) := ⟨_, rfl⟩
      rw [← HZ.out] at hor HVT
      clear hx
      go_wp2_with fail
      go_round
      case rel => exact ⟨k + 1, by omega, by go_num, by rw [HVT.out]⟩
      case measure => simp [intOf]; omega
    · obtain rfl : k = t.length := by omega
      rw [List.take_length, ← HV.out]
      go_wp2_with fail
      go_ret
      exact ⟨rfl, HR.out, HO.out⟩
theorem number_nil (n : Nat) (hn : n ≤ 8) (w : World) : Calls Try.prog 109 #[.pointer none, .int .i64 n] w fun e w' => e = .returned (.int .u64 0) ∧ w = w' := by
  go_enter Try.func109, Try.ntmps109
  go_wp2_with fail
  refine (take_nil n (by omega) w).mono ?_
  rintro e w1 ⟨rfl, rfl⟩
  go_wp2_with fail
  go_loop [5, 12] (fun vx vi => vi = .int .i64 0 ∧ vx = .int .u64 0) (fun _ vi => 0)
  case atStart => exact ⟨rfl, rfl⟩
  case round =>
    obtain ⟨rfl, rfl⟩ := hrel
    go_wp2_with fail
    go_ret
    exact ⟨rfl, rfl⟩
theorem byte_any (top g : Nat) (r : Rd) (hr : r.p.length ≤ 1000000) (w : World) (h : RdIs w 111 top g r) :
    Calls Try.prog 98 #[.pointer (some ⟨g, 0, none⟩)] w (NumPost .u8 (numR 1 r) w 111 top g 1 r) := by
  have H := Lib.hid h; clear h
  have hlt : numR 1 r < 256 := numR_lt 1 r
  go_enter Try.func98, Try.ntmps98
  go_wp2_with fail
  refine (number_any top g 1 (by decide) r hr w H.out).mono ?_
  rintro e w1 ⟨rfl, h1, h2⟩
  have HR := Lib.hid h1; have HO := Lib.hid h2
  clear h1 h2
  generalize numR 1 r = v at *
  go_wp2_with fail
  go_ret
  exact ⟨rfl, HR.out, HO.out⟩
theorem num_any (top g : Nat) (r : Rd) (hr : r.p.length ≤ 1000000) (w : World) (h : RdIs w 111 top g r) :
    Calls Try.prog 97 #[.pointer (some ⟨g, 0, none⟩)] w (NumPost .i64 (numR 2 r) w 111 top g 2 r) := by
  have H := Lib.hid h; clear h
  have hlt : numR 2 r < 65536 := numR_lt 2 r
  go_enter Try.func97, Try.ntmps97
  go_wp2_with fail
  refine (number_any top g 2 (by decide) r hr w H.out).mono ?_
  rintro e w1 ⟨rfl, h1, h2⟩
  have HR := Lib.hid h1; have HO := Lib.hid h2
  clear h1 h2
  generalize numR 2 r = v at *
  go_wp2_with fail
  go_ret
  exact ⟨rfl, HR.out, HO.out⟩
theorem wide_any (top g : Nat) (r : Rd) (hr : r.p.length ≤ 1000000) (w : World) (h : RdIs w 111 top g r) :
    Calls Try.prog 111 #[.pointer (some ⟨g, 0, none⟩)] w (NumPost .u64 (numR 8 r) w 111 top g 8 r) := by
  have H := Lib.hid h; clear h
  go_enter Try.func111, Try.ntmps111
  go_wp2_with fail
  refine (number_any top g 8 (by decide) r hr w H.out).mono ?_
  rintro e w1 ⟨rfl, h1, h2⟩
  have HR := Lib.hid h1; have HO := Lib.hid h2
  clear h1 h2
  generalize numR 8 r = v at *
  go_wp2_with fail
  go_ret
  exact ⟨rfl, HR.out, HO.out⟩
theorem byte_nil (w : World) : Calls Try.prog 98 #[.pointer none] w fun e w' => e = .returned (.int .u8 0) ∧ w = w' := by
  go_enter Try.func98, Try.ntmps98
  go_wp2_with fail
  refine (number_nil 1 (by decide) w).mono ?_
  rintro e w1 ⟨rfl, rfl⟩
  go_wp2_with fail
  go_ret
  exact ⟨rfl, rfl⟩
theorem num_nil (w : World) : Calls Try.prog 97 #[.pointer none] w fun e w' => e = .returned (.int .i64 0) ∧ w = w' := by
  go_enter Try.func97, Try.ntmps97
  go_wp2_with fail
  refine (number_nil 2 (by decide) w).mono ?_
  rintro e w1 ⟨rfl, rfl⟩
  go_wp2_with fail
  go_ret
  exact ⟨rfl, rfl⟩
theorem wide_nil (w : World) : Calls Try.prog 111 #[.pointer none] w fun e w' => e = .returned (.int .u64 0) ∧ w = w' := by
  go_enter Try.func111, Try.ntmps111
  go_wp2_with fail
  refine (number_nil 8 (by decide) w).mono ?_
  rintro e w1 ⟨rfl, rfl⟩
  go_wp2_with fail
  go_ret
  exact ⟨rfl, rfl⟩
def TextPost (w : World) (T : TypeId) (top g : Nat) (r : Rd) (e : Ending) (w' : World) : Prop :=
  e = .returned (.string ⟨(textR r).toArray⟩) ∧ RdIs w' T top g (textA r) ∧ OnlyAt g w w'
theorem after_len (n : Nat) (r : Rd) : (after n r).p.length ≤ r.p.length := by unfold after; split <;> simp
theorem rtext_any (top g : Nat) (r : Rd) (hr : r.p.length ≤ 1000000) (w : World) (h : RdIs w 111 top g r) :
    Calls Try.prog 74 #[.pointer (some ⟨g, 0, none⟩)] w (TextPost w 111 top g r) := by
  have H := Lib.hid h; clear h
  have hlt : numR 2 r < 65536 := numR_lt 2 r
  have hal := after_len 2 r
  go_enter Try.func74, Try.ntmps74
  go_wp2_with fail
  refine (num_any top g r hr w H.out).mono ?_
  rintro e w1 ⟨rfl, h1, h2⟩
  have HR := Lib.hid h1; have HO := Lib.hid h2
  clear h1 h2
  go_wp2_with fail
  refine (take_any top g (numR 2 r) (by omega) (after 2 r) (by omega) w1 HR.out).mono ?_
  rintro e w2 ⟨A, c, rfl, hs, hr2, ho2⟩
  have HR2 := Lib.hid hr2; have HO2 := Lib.hid ho2
  have hcv := run_text_src (cap := c) hs
  clear hs hr2 ho2
  have HT : Hid (taken (numR 2 r) (after 2 r) = textR r) := rfl
  have HT2 : Hid (after (numR 2 r) (after 2 r) = textA r) := rfl
  rw [HT.out] at hcv ⊢
  rw [HT2.out] at HR2
  go_wp2_with fail
  go_ret
  exact ⟨rfl, HR2.out, HO.out.trans HO2.out⟩
theorem rtext_nil (w : World) : Calls Try.prog 74 #[.pointer none] w fun e w' => e = .returned (.string ⟨#[]⟩) ∧ w = w' := by
  have hcv : (convert 24 9 (.slice none 0 0)).run Try.prog w = .ok (.string ⟨#[]⟩) w := run_text_src (w := w) (A := none) (cap := 0) (l := []) (fun h => absurd h (by simp))
  go_enter Try.func74, Try.ntmps74
  go_wp2_with fail
  refine (num_nil w).mono ?_
  rintro e w1 ⟨rfl, rfl⟩
  go_wp2_with fail
  refine (take_nil 0 (by decide) w).mono ?_
  rintro e w1 ⟨rfl, rfl⟩
  go_wp2_with fail
  go_ret
  exact ⟨rfl, rfl⟩
end Go.Proofs.Ytlehgacbcacokaa

/- Small functions of pack's reading: need, keep, Of, run, stamp. -/
namespace Go.Proofs.Ytlehgacbcacokaa
open Go.RowKit TreeMath RealMath WireMath PackMath

/-- what a reading that gives up ends in -/
abbrev gave : Ending := .panicked [{ v := .iface 51 (.int .i64 2), recovered := false }]
theorem need_yes (w : World) : Calls Try.prog 73 #[.bool true] w fun e w' => e = .returned (.tuple #[]) ∧ w = w' := by
  go_enter Try.func73, Try.ntmps73
  go_wp2_with fail
  exact bodyPost_end (v := .tuple #[]) (by simp [results, Try.results73]) rfl ⟨rfl, rfl⟩
theorem need_no (w : World) : Calls Try.prog 73 #[.bool false] w fun e w' => e = gave ∧ w = w' := by
  go_enter Try.func73, Try.ntmps73
  go_wp2_with fail
  exact ⟨rfl, rfl, rfl⟩
theorem keep_yes (w : World) : Calls Try.prog 76 #[.int .i64 0] w fun e w' => e = .returned (.tuple #[]) ∧ w = w' := by
  go_enter Try.func76, Try.ntmps76
  go_wp2_with fail
  exact bodyPost_end (v := .tuple #[]) (by simp [results, Try.results76]) rfl ⟨rfl, rfl⟩
theorem keep_no (w : World) : Calls Try.prog 76 #[.int .i64 2] w fun e w' => e = gave ∧ w = w' := by
  go_enter Try.func76, Try.ntmps76
  go_wp2_with fail
  exact ⟨rfl, rfl, rfl⟩
/-- a number of bits, and its error -/
def ofV (x : Nat) : Nat := if ofOk x then x else 0
def ofE (x : Nat) : Int := if ofOk x then 0 else 2
theorem ofOk_yes {x : Nat} (h : canonB x = x) : ofOk x = true := decide_eq_true h
theorem ofOk_no {x : Nat} (h : canonB x ≠ x) : ofOk x = false := decide_eq_false h
set_option maxHeartbeats 1000000 in
theorem of_any (x : Nat) (hx : x < 18446744073709551616) (w : World) :
    Calls Try.prog 110 #[.int .u64 x] w fun e w' => e = .returned (.tuple #[.float .f64 (ofV x), .int .i64 (ofE x)]) ∧ w = w' := by
  have hfb := fun w => run_frombits (x : Int) w
  have HX := Lib.hid hx
  by_cases h : canonB x = x
  · have h1 : ((canonB x : Int) != (x : Int)) = false := by rw [h]; simp
    have HE : Hid (ofV x = x ∧ ofE x = 0) := by refine (?_ : _ ∧ _); unfold ofV ofE; rw [ofOk_yes h]; exact ⟨rfl, rfl⟩
    clear h
    go_enter Try.func110, Try.ntmps110
    go_wp2_with fail
    refine (bits_any x HX.out w).mono ?_
    rintro e w1 ⟨rfl, rfl⟩
    go_wp2_with fail
    go_ret2
    rw [HE.out.1, HE.out.2]; exact ⟨rfl, rfl⟩
  · have h1 : ((canonB x : Int) != (x : Int)) = true := by rw [bne_iff_ne]; omega
    have HE : Hid (ofV x = 0 ∧ ofE x = 2) := by refine (?_ : _ ∧ _); unfold ofV ofE; rw [ofOk_no h]; exact ⟨rfl, rfl⟩
    clear h
    go_enter Try.func110, Try.ntmps110
    go_wp2_with fail
    refine (bits_any x HX.out w).mono ?_
    rintro e w1 ⟨rfl, rfl⟩
    go_wp2_with fail
    go_ret2
    rw [HE.out.1, HE.out.2]; exact ⟨rfl, rfl⟩
/-- the program's reading: which blocks it may turn -/
abbrev ArSet (ga gr : Nat) (c : Nat) : Prop := c = ga ∨ c = gr
structure ArIs (w : World) (top ga gr k : Nat) (r : Rd) : Prop where
  blk : Blk w ga 91 [.pointer (some ⟨gr, 0, none⟩), .int .i64 k]
  rd : RdIs w 111 top gr r
  ne : ga ≠ gr
  le : top ≤ ga
theorem ArIs.read {w w' : World} {top ga gr k : Nat} {r r' : Rd} (h : ArIs w top ga gr k r) (hr : RdIs w' 111 top gr r') (ho : OnlyAt gr w w') : ArIs w' top ga gr k r' :=
  ⟨Blk.only h.blk ho h.ne, hr, h.ne, h.le⟩
theorem OnlyAt.ar {ga gr : Nat} {w w' : World} (h : OnlyAt gr w w') : Turned (ArSet ga gr) (ArSet ga gr) w w' :=
  ⟨h.os, h.tape, h.output, h.size, fun c hc hn => h.other c hc (fun e => hn (.inr e)), fun _ h => .inl h⟩
theorem ArIs.below {w w' : World} {top ga gr k : Nat} {r : Rd} (h : ArIs w top ga gr k r) (hb : Below w.heap.size w w') : ArIs w' top ga gr k r := by
  obtain ⟨A, c, hg, -⟩ := h.rd.ex
  exact ⟨h.blk.below hb h.blk.lt, h.rd.below hb hg.lt, h.ne, h.le⟩
theorem ArIs.count {w : World} {top ga gr k : Nat} {r : Rd} (h : ArIs w top ga gr k r) (k' : Nat) : ArIs (w.setCell ⟨ga, 1, none⟩ (.int .i64 k')) top ga gr k' r := by
  obtain ⟨A, c, hg, h2, h3, h4, h5⟩ := h.rd.ex
  have hle := h.le; have hl2 := h.rd.le; have hne := h.ne
  refine ⟨by have := h.blk.set 1 (.int .i64 (k' : Int)); simpa using this, ?_, h.ne, h.le⟩
  refine ⟨⟨A, c, hg.other (fun e => hne e.symm) _, h2, h3, h4.only ((OnlyAt.refl ga w).setCell 1 _) (fun h0 a ha => by have := h5 h0 a ha; omega), h5⟩, hl2⟩
theorem Turned.ar_count {w : World} {ga gr : Nat} (k' : Int) : Turned (ArSet ga gr) (ArSet ga gr) w (w.setCell ⟨ga, 1, none⟩ (.int .i64 k')) :=
  ⟨rfl, rfl, rfl, by rw [World.size_setCell]; exact Nat.le_refl _, fun c _ hn => Below.heap_setCell w ⟨ga, 1, none⟩ _ c (fun e => hn (.inl e)), fun _ h => .inl h⟩
/-- what run comes to -/
def RunPost (w : World) (top ga gr k : Nat) (r : Rd) (e : Ending) (w' : World) : Prop :=
  (e = if 1 < numR 1 r then gave else .returned (.bool (decide (numR 1 r = 1)))) ∧ ArIs w' top ga gr k (after 1 r) ∧ Turned (ArSet ga gr) (ArSet ga gr) w w'
set_option maxHeartbeats 1000000 in
theorem run_any (top ga gr k : Nat) (r : Rd) (hr : r.p.length ≤ 1000000) (w : World) (h : ArIs w top ga gr k r) :
    Calls Try.prog 99 #[.pointer (some ⟨ga, 0, none⟩)] w (RunPost w top ga gr k r) := by
  have H := Lib.hid h
  have c0 := h.blk.cell 0
  simp only [List.getElem?_cons_zero] at c0
  clear h
  go_enter Try.func99, Try.ntmps99
  go_wp2_with fail
  refine (byte_any top gr r hr w H.out.rd).mono ?_
  rintro e w1 ⟨rfl, h1, h2⟩
  have HA := Lib.hid (H.out.read h1 h2); have HT : Hid (Turned (ArSet ga gr) (ArSet ga gr) w w1) := h2.ar
  clear h1 h2 c0 H
  by_cases hb : 1 < numR 1 r
  · have d1 : decide ((numR 1 r : Int) ≤ 1) = false := decide_eq_false (by omega)
    go_wp2_with fail
    refine (need_no w1).mono ?_
    rintro e w2 ⟨rfl, rfl⟩
    go_wp2_with fail
    exact ⟨rfl, by rw [if_pos hb], HA.out, HT.out⟩
  · have d1 : decide ((numR 1 r : Int) ≤ 1) = true := decide_eq_true (by omega)
    have d2 : ((numR 1 r : Int) == 1) = decide (numR 1 r = 1) := by
      by_cases e : numR 1 r = 1
      · rw [e]; rfl
      · rw [decide_eq_false e, beq_eq_false_iff_ne]; omega
    go_wp2_with fail
    refine (need_yes w1).mono ?_
    rintro e w2 ⟨rfl, rfl⟩
    go_wp2_with fail
    go_ret
    exact ⟨by rw [if_neg hb]; rfl, HA.out, HT.out⟩
def StampPost (w : World) (top ga gr k : Nat) (r : Rd) (e : Ending) (w' : World) : Prop :=
  (e = if ofOk (numR 8 r) then .returned (.float .f64 (numR 8 r)) else gave) ∧ ArIs w' top ga gr k (after 8 r) ∧ Turned (ArSet ga gr) (ArSet ga gr) w w'
set_option maxHeartbeats 1000000 in
theorem stamp_any (top ga gr k : Nat) (r : Rd) (hr : r.p.length ≤ 1000000) (w : World) (h : ArIs w top ga gr k r) :
    Calls Try.prog 100 #[.pointer (some ⟨ga, 0, none⟩)] w (StampPost w top ga gr k r) := by
  have H := Lib.hid h
  have c0 := h.blk.cell 0
  simp only [List.getElem?_cons_zero] at c0
  clear h
  have HX : Hid (numR 8 r < 18446744073709551616) := numR_lt 8 r
  go_enter Try.func100, Try.ntmps100
  go_wp2_with fail
  refine (wide_any top gr r hr w H.out.rd).mono ?_
  rintro e w1 ⟨rfl, h1, h2⟩
  have HA := Lib.hid (H.out.read h1 h2); have HT : Hid (Turned (ArSet ga gr) (ArSet ga gr) w w1) := h2.ar
  clear h1 h2 c0 H
  go_wp2_with fail
  refine (of_any (numR 8 r) HX.out w1).mono ?_
  rintro e w2 ⟨rfl, rfl⟩
  cases ho : ofOk (numR 8 r) with
  | true =>
    have HO := Lib.hid ho
    have e1 : ofV (numR 8 r) = numR 8 r := by unfold ofV; rw [ho]; rfl
    have e2 : ofE (numR 8 r) = 0 := by unfold ofE; rw [ho]; rfl
    rw [e1, e2]
    clear ho e1 e2
    go_wp2_with fail
    refine (keep_yes w1).mono ?_
    rintro e w2 ⟨rfl, rfl⟩
    go_wp2_with fail
    go_ret
    exact ⟨by rw [HO.out]; rfl, HA.out, HT.out⟩
  | false =>
    have HO := Lib.hid ho
    have e2 : ofE (numR 8 r) = 2 := by unfold ofE; rw [ho]; rfl
    rw [e2]
    clear ho e2
    go_wp2_with fail
    refine (keep_no w1).mono ?_
    rintro e w2 ⟨rfl, rfl⟩
    go_wp2_with fail
    exact ⟨rfl, by rw [HO.out]; rfl, HA.out, HT.out⟩
end Go.Proofs.Ytlehgacbcacokaa

/- Trees that keep out of some blocks; rows of texts and nodes that a call makes. -/
namespace Go.Proofs.Ytlehgacbcacokaa
open Go.RowKit TreeMath

/-- all of a tree lies in blocks of S -/
inductive InS (S : Nat → Prop) : T → Prop
  | mk (x : Hd) (ks : List T) (hn : 0 < x.names.length → ∀ a, x.na = some a → S a.block) (hd : 0 < x.data.length → ∀ a, x.da = some a → S a.block) (hk : 0 < ks.length → ∀ a, x.ka = some a → S a.block) (hks : ∀ k ∈ ks, InS S k) : InS S (.mk x ks)
theorem InS.mono {S S' : Nat → Prop} {t : T} (h : InS S t) (hs : ∀ c, S c → S' c) : InS S' t := by
  induction h with
  | mk x ks hn hd hk hks ih => exact .mk x ks (fun h a e => hs _ (hn h a e)) (fun h a e => hs _ (hd h a e)) (fun h a e => hs _ (hk h a e)) ih
theorem Ok.inS {w : World} {top : Nat} {t : T} (h : Ok w top t) : InS (· < top) t := by
  induction h with
  | mk x ks hx hl hc hk hks ih => exact .mk x ks hx.nlt hx.dlt (fun h0 a e => by obtain ⟨b, o, e', hb, _⟩ := hk h0; rw [e] at e'; cases e'; exact hb) ih
theorem InS.and {S S' : Nat → Prop} {t : T} (h : InS S t) (h' : InS S' t) : InS (fun c => S c ∧ S' c) t := by
  induction h with
  | mk x ks hn hd hk hks ih =>
    cases h' with
    | mk _ _ hn' hd' hk' hks' => exact .mk x ks (fun h a e => ⟨hn h a e, hn' h a e⟩) (fun h a e => ⟨hd h a e, hd' h a e⟩) (fun h a e => ⟨hk h a e, hk' h a e⟩) (fun k hk => ih k hk (hks' k hk))
theorem Ok.turn {w w' : World} {top top' : Nat} {t : T} {S : Nat → Prop} (h : Ok w top t) (hi : InS S t) (hb : ∀ c, S c → c < top → w'.heap[c]? = w.heap[c]?) (ht : ∀ c, S c → c < top → c < top') : Ok w' top' t := by
  induction h with
  | mk x ks hx hl hc hk hks ih =>
    cases hi with
    | mk _ _ hn hd hkk hik =>
      refine .mk x ks ⟨fun h0 => ?_, fun h0 a e => ht _ (hn h0 a e) (hx.nlt h0 a e), hx.nnil, hx.ncap, hx.nlen, hx.neach, fun h0 => ?_, fun h0 a e => ht _ (hd h0 a e) (hx.dlt h0 a e), hx.dnil, hx.dcap, hx.dlen, hx.stamp, hx.tlen, hx.knil⟩ hl hc (fun h0 => ?_) (fun k hk' => ih k hk' (hik k hk'))
      · obtain ⟨b, o, e, hc'⟩ := hx.nsrc h0
        exact ⟨b, o, e, fun k hk' => by rw [World.cell?_of_block (w := w) (a := ⟨b, o + k, none⟩) (hb b (hn h0 _ e) (hx.nlt h0 _ e))]; exact hc' k hk'⟩
      · obtain ⟨b, o, e, hc'⟩ := hx.dsrc h0
        exact ⟨b, o, e, fun k hk' => by rw [World.cell?_of_block (w := w) (a := ⟨b, o + k, none⟩) (hb b (hd h0 _ e) (hx.dlt h0 _ e))]; exact hc' k hk'⟩
      · obtain ⟨b, o, e, hlt, hc'⟩ := hk h0
        exact ⟨b, o, e, ht _ (hkk h0 _ e) hlt, fun i hi' => (hc' i hi').same (hb b (hkk h0 _ e) hlt)⟩
theorem inS_file (S : Nat → Prop) (da : Option Addr) (dc : Nat) (data : List By) (run : Bool) (stamp : Nat) (h : 0 < data.length → ∀ a, da = some a → S a.block) : InS S (.mk (fileHd da dc data run stamp) []) :=
  .mk _ _ (fun h => absurd h (by simp [fileHd])) h (fun h => absurd h (by simp)) (fun k hk => by cases hk)
theorem inS_link (S : Nat → Prop) (t : List By) : InS S (.mk (linkHd t) []) := .mk _ _ (fun h => absurd h (by simp [linkHd])) (fun h => absurd h (by simp [linkHd])) (fun h => absurd h (by simp)) (fun k hk => by cases hk)
theorem inS_dir (S : Nat → Prop) (na : Option Addr) (nc : Nat) (names : List (List By)) (ka : Option Addr) (kc : Nat) (ks : List T) (h1 : 0 < names.length → ∀ a, na = some a → S a.block) (h2 : 0 < ks.length → ∀ a, ka = some a → S a.block) (h3 : ∀ k ∈ ks, InS S k) :
    InS S (.mk (dirHd na nc names ka kc) ks) := .mk _ _ h1 (fun h => absurd h (by simp [dirHd])) h2 h3
/-- a row of texts of the call's own -/
def Strs (w : World) (base : Nat) (v : Value) (ls : List (List By)) : Prop := w.ownsRow base 9 1 v ls.length (ls.map vs)
theorem Strs.src {w : World} {base : Nat} {v : Value} {ls : List (List By)} (h : Strs w base v ls) :
    ∃ A c, v = .slice A ls.length c ∧ StrsIs w A ls ∧ (A = none → c = 0) ∧ ls.length ≤ c ∧ ∀ a, A = some a → base ≤ a.block ∧ a.block < w.heap.size := by
  have hlt := h.lt
  rcases h.2 with ⟨hv, h0⟩ | ⟨g, cap, cur, hv, hg, hc, hn, _, hs, ht⟩
  · have : ls = [] := List.eq_nil_of_length_eq_zero h0
    subst this
    exact ⟨none, 0, hv, fun h => absurd h (by simp), fun _ => rfl, by simp, fun a ha => by cases ha⟩
  · subst hv
    rw [Nat.mul_one] at ht
    have hb : Blk w g 9 (ls.map vs ++ cur.toList.drop ls.length) := by rw [← ht, List.take_append_drop]; exact hc
    exact ⟨some ⟨g, 0, none⟩, cap, rfl, Blk.strs hb, (fun h => by cases h), hn, fun a ha => by cases ha; exact hlt g rfl⟩
theorem Nodes.src {w : World} {base : Nat} {v : Value} {ts : List T} (h : Nodes w base v ts) :
    ∃ A c, v = .slice A ts.length c ∧ KidsAt w w.heap.size A ts ∧ (A = none → c = 0) ∧ ts.length ≤ c ∧ ∀ a, A = some a → base ≤ a.block ∧ a.block < w.heap.size := by
  by_cases h0 : 0 < ts.length
  · obtain ⟨g, c, hv, hb, hl, hc, hcl, -⟩ := h.at h0
    exact ⟨some ⟨g, 0, none⟩, c, hv, fun _ => ⟨g, 0, rfl, hl, fun i hi => by rw [Nat.zero_add]; exact hcl i hi⟩, (fun h => by cases h), hc, fun a ha => by cases ha; exact ⟨hb, hl⟩⟩
  · have hlt := h.lt
    have e : ts = [] := List.eq_nil_of_length_eq_zero (by omega)
    subst e
    rcases h.2 with ⟨hv, _⟩ | ⟨g, cap, cur, hv, hg, _, _, _, _, _⟩
    · exact ⟨none, 0, hv, fun h => absurd h (by simp), fun _ => rfl, by simp, fun a ha => by cases ha⟩
    · subst hv
      exact ⟨some ⟨g, 0, none⟩, cap, rfl, fun h => absurd h (by simp), (fun h => by cases h), by simp, fun a ha => by cases ha; exact hlt g rfl⟩
theorem strs_nil (w : World) (base : Nat) : Strs w base (.slice none 0 0) [] := World.ownsRow_nil _ _ _ _
theorem nodes_nil (w : World) (base : Nat) : Nodes w base (.slice none 0 0) [] := World.ownsRow_nil _ _ _ _
/-- rows of different types are apart -/
theorem rows_apart {w : World} {base b2 : Nat} {v u : Value} {ls : List (List By)} {ts : List T} (h : Strs w base v ls) (k : Nodes w b2 u ts) (c : Nat) (hv : v.ownBlock = some c) (hu : u.ownBlock = some c) : False := by
  rcases h.2 with ⟨rfl, _⟩ | ⟨g, cap, cur, rfl, hg, hc, _⟩
  · cases hv
  rcases k.2 with ⟨rfl, _⟩ | ⟨g2, cap2, cur2, rfl, hg2, hc2, _⟩
  · cases hu
  obtain rfl : g = c := by simpa [Value.ownBlock] using hv
  obtain rfl : g2 = g := by simpa [Value.ownBlock] using hu
  rw [hc] at hc2; simp at hc2
theorem Strs.kept {w w' : World} {base b2 : Nat} {v u : Value} {ls : List (List By)} {ts : List T} (h : Strs w base v ls) (k : Nodes w b2 u ts) (hg : w.grownBy w' u.ownBlock) : Strs w' base v ls :=
  World.ownsRow.kept h hg (by
    cases e : v.ownBlock with
    | none => exact .inl rfl
    | some c => exact .inr (fun e' => rows_apart h k c e e'.symm))
theorem Nodes.kept {w w' : World} {base b2 : Nat} {v u : Value} {ls : List (List By)} {ts : List T} (h : Nodes w base u ts) (k : Strs w b2 v ls) (hg : w.grownBy w' v.ownBlock) : Nodes w' base u ts :=
  World.ownsRow.kept h hg (by
    cases e : u.ownBlock with
    | none => exact .inl rfl
    | some c => exact .inr (fun e' => rows_apart k h c e'.symm e))
theorem own_same {w w' : World} {base : Nat} {e : TypeId} {size : Nat} {v : Value} {n : Nat} {xs : List Value} (h : w.ownsRow base e size v n xs) (hb : ∀ c, base ≤ c → c < w.heap.size → w'.heap[c]? = w.heap[c]?) : w'.ownsRow base e size v n xs := by
  refine ⟨h.1, h.2.imp id ?_⟩
  have hlt := h.lt
  rintro ⟨g, cap, cur, rfl, h2, h3, h4⟩
  exact ⟨g, cap, cur, rfl, h2, by rw [hb g h2 (hlt g rfl).2]; exact h3, h4⟩
theorem own_below {w w' : World} {base : Nat} {e : TypeId} {size : Nat} {v : Value} {n : Nat} {xs : List Value} (h : w.ownsRow base e size v n xs) (hb : Below w.heap.size w w') : w'.ownsRow base e size v n xs :=
  own_same h fun c _ hc => hb.block c hc
/-- TEXTS APPENDED TO A ROW OF THE CALL's OWN -/
theorem wpList_append_strs {w : World} {ops : Array Oper} {rest : List Oper} {o : Oper} {a : Act} {Q : Exit → Act → World → Prop} (hgd : o.guard = none) (s x : Operand)
    (ho : o.op = .call { callee := .builtin .append, args := #[s, x], argTypes := #[22, 22] }) (base : Nat)
    (v : Value) (ls : List (List By)) (hs : a.eval s = v) (hown : Strs w base v ls)
    (ad : Addr) (c m : Nat) (ms : List (List By)) (hm : ms.length = m) (hx : a.eval x = .slice (some ad) m c) (hA : ∀ j u, (ms.map vs)[j]? = some u → w.cell? (ad.add j) = some u) (hbd : ls.length + m ≤ 1000000) (hbase : base ≤ w.heap.size)
    (h : ∀ v' w', Strs w' base v' (ls ++ ms) → w.grownBy w' v.ownBlock → wpList Try.prog ops Q rest (a.put o.dst v') w') : wpList Try.prog ops Q (o :: rest) a w := by
  obtain ⟨i0, hi, hz0, hz1, hz2⟩ := info_parts info9
  subst hm
  refine wpList_append_own w hgd s x 22 ho base 9 i0 (.string ⟨#[]⟩) 1 16 Try.underlying22 hi hz0 hz1 hz2 rfl (by decide) v ls.length (ls.map vs) hs hown ad ms.length c (ms.map vs) hx (by simp) hA (fun y hy => by obtain ⟨z, _, rfl⟩ := List.mem_map.1 hy; rfl) (by unfold maxLen; omega) (by omega) hbase ?_
  intro v' w' h1 h2 _
  refine h v' w' ?_ h2
  unfold Strs; rw [List.length_append, List.map_append]; exact h1
/-- a node written over, field by field -/
abbrev set7 (w : World) (g : Nat) (v0 v1 v2 v3 v4 v5 v6 : Value) : World := ((((((w.setCell ⟨g, 0, none⟩ v0).setCell ⟨g, 1, none⟩ v1).setCell ⟨g, 2, none⟩ v2).setCell ⟨g, 3, none⟩ v3).setCell ⟨g, 4, none⟩ v4).setCell ⟨g, 5, none⟩ v5).setCell ⟨g, 6, none⟩ v6
theorem set7_blk {w : World} {g : Nat} {t : TypeId} {cs : List Value} (h : Blk w g t cs) (hl : cs.length = 7) (v0 v1 v2 v3 v4 v5 v6 : Value) : Blk (set7 w g v0 v1 v2 v3 v4 v5 v6) g t [v0, v1, v2, v3, v4, v5, v6] := by
  match cs, hl with
  | [c0, c1, c2, c3, c4, c5, c6], _ => exact ((((((h.set 0 v0).set 1 v1).set 2 v2).set 3 v3).set 4 v4).set 5 v5).set 6 v6
theorem set7_size (w : World) (g : Nat) (v0 v1 v2 v3 v4 v5 v6 : Value) : (set7 w g v0 v1 v2 v3 v4 v5 v6).heap.size = w.heap.size := by
  unfold set7; simp only [World.size_setCell]
theorem set7_other (w : World) (g : Nat) (v0 v1 v2 v3 v4 v5 v6 : Value) (c : Nat) (hc : c ≠ g) : (set7 w g v0 v1 v2 v3 v4 v5 v6).heap[c]? = w.heap[c]? := by
  unfold set7
  iterate 7 rw [Below.heap_setCell _ _ _ c (fun e => hc (by simpa using e))]
theorem set7_below {B : Nat} {a w : World} (h : Below B a w) (g : Nat) (hg : B ≤ g) (v0 v1 v2 v3 v4 v5 v6 : Value) : Below B a (set7 w g v0 v1 v2 v3 v4 v5 v6) :=
  ((((((h.setCell (by exact hg) _).setCell (by exact hg) _).setCell (by exact hg) _).setCell (by exact hg) _).setCell (by exact hg) _).setCell (by exact hg) _).setCell (by exact hg) _
end Go.Proofs.Ytlehgacbcacokaa
