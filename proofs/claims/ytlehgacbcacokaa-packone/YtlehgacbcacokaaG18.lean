/- The contracts of the reader's numbers and text. -/
import Derived.Test.YtlehgacbcacokaaG17
import Derived.Test.YtlehgacbcacokaaG16
import Derived.Test.YtlehgacbcacokaaG4
namespace Go.Proofs.Ytlehgacbcacokaa
open Go.RowKit BaseMath WireMath

theorem take_nil (n : Nat) (hn : n ≤ 1000000) (w : World) : Calls Try.prog 96 #[.pointer none, .int .i64 n] w fun e w' => e = .returned (.slice none 0 0) ∧ w = w' := by
  by_cases h0 : n = 0
  · subst h0
    go_enter Try.func96, Try.ntmps96
    go_wp2_with fail
    refine (left_nil w).mono ?_
    rintro e w1 ⟨rfl, rfl⟩
    go_wp2_with fail
    go_ret
    exact ⟨rfl, rfl⟩
  · have h0' : (0 : Int) < n := by omega
    go_enter Try.func96, Try.ntmps96
    go_wp2_with fail
    refine (left_nil w).mono ?_
    rintro e w1 ⟨rfl, rfl⟩
    go_wp2_with fail
    refine (fail_nil w).mono ?_
    rintro e w1 ⟨rfl, rfl⟩
    go_wp2_with fail
    go_ret
    exact ⟨rfl, rfl⟩
/-- what a number comes to -/
def NumPost (k : IntKind) (x : Nat) (w : World) (T : TypeId) (top g n : Nat) (r : Rd) (e : Ending) (w' : World) : Prop :=
  e = .returned (.int k (x : Nat)) ∧ RdIs w' T top g (after n r) ∧ OnlyAt g w w'
theorem val_take (t : List By) (k : Nat) (h : k < t.length) : BaseMath.val 256 (nat (t.take (k + 1))) = BaseMath.val 256 (nat (t.take k)) * 256 + t[k].toNat := by
  rw [List.take_succ_eq_append_getElem h]; unfold nat; rw [List.map_append, List.map_singleton, val_snoc]
theorem val_take_lt (t : List By) (k : Nat) (hk : k ≤ 7) : BaseMath.val 256 (nat (t.take k)) < 72057594037927936 := by
  refine Nat.lt_of_lt_of_le (val_lt 256 _ (nat_lt _)) (Nat.le_trans (Nat.pow_le_pow_right (by decide) (?_ : _ ≤ 7)) (by decide))
  rw [nat_length]; simp; omega
theorem or_byte (x b : Nat) (hx : x < 72057594037927936) (hb : b < 256) : bits .or .u64 ((x : Int) * 256) (b : Int) = ((x * 256 + b : Nat) : Int) := by
  rw [show (x : Int) * 256 = ((x * 256 : Nat) : Int) by omega, u64_or_nat _ _ (by omega) (by omega), nat_join 8 (x * 256) b (by omega) hb]
set_option maxHeartbeats 1000000 in
theorem number_any (top g n : Nat) (hn : n ≤ 8) (r : Rd) (hr : r.p.length ≤ 1000000) (w : World) (h : RdIs w 111 top g r) :
    Calls Try.prog 109 #[.pointer (some ⟨g, 0, none⟩), .int .i64 n] w (NumPost .u64 (numR n r) w 111 top g n r) := by
  have H := Lib.hid h; clear h
  go_enter Try.func109, Try.ntmps109
  go_wp2_with fail
  refine (take_any top g n (by omega) r hr w H.out).mono ?_
  rintro e w1 ⟨A, c, rfl, hs, hr1, ho1⟩
  have HS := Lib.hid hs; have HR := Lib.hid hr1; have HO := Lib.hid ho1
  have htl := taken_length n r
  have HV : Hid (numR n r = BaseMath.val 256 (nat (taken n r))) := rfl
  clear hs hr1 ho1 H
  generalize taken n r = t at *
  generalize numR n r = v at *
  go_wp2_with fail
  go_loop [5, 12] (fun vx vi => ∃ k : Nat, k ≤ t.length ∧ vi = .int .i64 k ∧ vx = .int .u64 (BaseMath.val 256 (nat (t.take k)) : Nat)) (fun _ vi => t.length - (intOf vi).toNat)
  case atStart => exact ⟨0, Nat.zero_le _, rfl, rfl⟩
  case round =>
    obtain ⟨k, hk, rfl, rfl⟩ := hrel
    by_cases hlt : k < t.length
    · obtain ⟨b, o, rfl, hb⟩ := HS.out (by omega)
      have c0 : w1.cell? ⟨b, o + k, none⟩ = some (vb t[k]) := hb k hlt
      have hx := val_take_lt t k (by omega)
      have HVT := Lib.hid (val_take t k hlt)
      have hbb : t[k].toNat < 256 := t[k].toNat_lt
      have hor := or_byte (BaseMath.val 256 (nat (t.take k))) t[k].toNat hx hbb
      clear hb
      generalize BaseMath.val 256 (nat (t.take k)) = x at *
      generalize t[k] = y at *
      have hx' : x ≤ 72057594037927935 := by omega
      obtain ⟨z, HZ⟩ : ∃ z, Hid (z = x * 256 + y.toNat) := ⟨_, rfl⟩
      rw [← HZ.out] at hor HVT
      clear hx
      go_wp2_with fail
      go_round
      case rel => exact ⟨k + 1, by omega, by go_num, by rw [HVT.out]⟩
      case measure => simp [intOf]; omega
    · obtain rfl : k = t.length := by omega
      rw [List.take_length, ← HV.out]
      go_wp2_with fail
      go_ret
      exact ⟨rfl, HR.out, HO.out⟩
theorem number_nil (n : Nat) (hn : n ≤ 8) (w : World) : Calls Try.prog 109 #[.pointer none, .int .i64 n] w fun e w' => e = .returned (.int .u64 0) ∧ w = w' := by
  go_enter Try.func109, Try.ntmps109
  go_wp2_with fail
  refine (take_nil n (by omega) w).mono ?_
  rintro e w1 ⟨rfl, rfl⟩
  go_wp2_with fail
  go_loop [5, 12] (fun vx vi => vi = .int .i64 0 ∧ vx = .int .u64 0) (fun _ vi => 0)
  case atStart => exact ⟨rfl, rfl⟩
  case round =>
    obtain ⟨rfl, rfl⟩ := hrel
    go_wp2_with fail
    go_ret
    exact ⟨rfl, rfl⟩
theorem byte_any (top g : Nat) (r : Rd) (hr : r.p.length ≤ 1000000) (w : World) (h : RdIs w 111 top g r) :
    Calls Try.prog 98 #[.pointer (some ⟨g, 0, none⟩)] w (NumPost .u8 (numR 1 r) w 111 top g 1 r) := by
  have H := Lib.hid h; clear h
  have hlt : numR 1 r < 256 := numR_lt 1 r
  go_enter Try.func98, Try.ntmps98
  go_wp2_with fail
  refine (number_any top g 1 (by decide) r hr w H.out).mono ?_
  rintro e w1 ⟨rfl, h1, h2⟩
  have HR := Lib.hid h1; have HO := Lib.hid h2
  clear h1 h2
  generalize numR 1 r = v at *
  go_wp2_with fail
  go_ret
  exact ⟨rfl, HR.out, HO.out⟩
theorem num_any (top g : Nat) (r : Rd) (hr : r.p.length ≤ 1000000) (w : World) (h : RdIs w 111 top g r) :
    Calls Try.prog 97 #[.pointer (some ⟨g, 0, none⟩)] w (NumPost .i64 (numR 2 r) w 111 top g 2 r) := by
  have H := Lib.hid h; clear h
  have hlt : numR 2 r < 65536 := numR_lt 2 r
  go_enter Try.func97, Try.ntmps97
  go_wp2_with fail
  refine (number_any top g 2 (by decide) r hr w H.out).mono ?_
  rintro e w1 ⟨rfl, h1, h2⟩
  have HR := Lib.hid h1; have HO := Lib.hid h2
  clear h1 h2
  generalize numR 2 r = v at *
  go_wp2_with fail
  go_ret
  exact ⟨rfl, HR.out, HO.out⟩
theorem wide_any (top g : Nat) (r : Rd) (hr : r.p.length ≤ 1000000) (w : World) (h : RdIs w 111 top g r) :
    Calls Try.prog 111 #[.pointer (some ⟨g, 0, none⟩)] w (NumPost .u64 (numR 8 r) w 111 top g 8 r) := by
  have H := Lib.hid h; clear h
  go_enter Try.func111, Try.ntmps111
  go_wp2_with fail
  refine (number_any top g 8 (by decide) r hr w H.out).mono ?_
  rintro e w1 ⟨rfl, h1, h2⟩
  have HR := Lib.hid h1; have HO := Lib.hid h2
  clear h1 h2
  generalize numR 8 r = v at *
  go_wp2_with fail
  go_ret
  exact ⟨rfl, HR.out, HO.out⟩
theorem byte_nil (w : World) : Calls Try.prog 98 #[.pointer none] w fun e w' => e = .returned (.int .u8 0) ∧ w = w' := by
  go_enter Try.func98, Try.ntmps98
  go_wp2_with fail
  refine (number_nil 1 (by decide) w).mono ?_
  rintro e w1 ⟨rfl, rfl⟩
  go_wp2_with fail
  go_ret
  exact ⟨rfl, rfl⟩
theorem num_nil (w : World) : Calls Try.prog 97 #[.pointer none] w fun e w' => e = .returned (.int .i64 0) ∧ w = w' := by
  go_enter Try.func97, Try.ntmps97
  go_wp2_with fail
  refine (number_nil 2 (by decide) w).mono ?_
  rintro e w1 ⟨rfl, rfl⟩
  go_wp2_with fail
  go_ret
  exact ⟨rfl, rfl⟩
theorem wide_nil (w : World) : Calls Try.prog 111 #[.pointer none] w fun e w' => e = .returned (.int .u64 0) ∧ w = w' := by
  go_enter Try.func111, Try.ntmps111
  go_wp2_with fail
  refine (number_nil 8 (by decide) w).mono ?_
  rintro e w1 ⟨rfl, rfl⟩
  go_wp2_with fail
  go_ret
  exact ⟨rfl, rfl⟩
def TextPost (w : World) (T : TypeId) (top g : Nat) (r : Rd) (e : Ending) (w' : World) : Prop :=
  e = .returned (.string ⟨(textR r).toArray⟩) ∧ RdIs w' T top g (textA r) ∧ OnlyAt g w w'
theorem after_len (n : Nat) (r : Rd) : (after n r).p.length ≤ r.p.length := by unfold after; split <;> simp
theorem rtext_any (top g : Nat) (r : Rd) (hr : r.p.length ≤ 1000000) (w : World) (h : RdIs w 111 top g r) :
    Calls Try.prog 74 #[.pointer (some ⟨g, 0, none⟩)] w (TextPost w 111 top g r) := by
  have H := Lib.hid h; clear h
  have hlt : numR 2 r < 65536 := numR_lt 2 r
  have hal := after_len 2 r
  go_enter Try.func74, Try.ntmps74
  go_wp2_with fail
  refine (num_any top g r hr w H.out).mono ?_
  rintro e w1 ⟨rfl, h1, h2⟩
  have HR := Lib.hid h1; have HO := Lib.hid h2
  clear h1 h2
  go_wp2_with fail
  refine (take_any top g (numR 2 r) (by omega) (after 2 r) (by omega) w1 HR.out).mono ?_
  rintro e w2 ⟨A, c, rfl, hs, hr2, ho2⟩
  have HR2 := Lib.hid hr2; have HO2 := Lib.hid ho2
  have hcv := run_text_src (cap := c) hs
  clear hs hr2 ho2
  have HT : Hid (taken (numR 2 r) (after 2 r) = textR r) := rfl
  have HT2 : Hid (after (numR 2 r) (after 2 r) = textA r) := rfl
  rw [HT.out] at hcv ⊢
  rw [HT2.out] at HR2
  go_wp2_with fail
  go_ret
  exact ⟨rfl, HR2.out, HO.out.trans HO2.out⟩
theorem rtext_nil (w : World) : Calls Try.prog 74 #[.pointer none] w fun e w' => e = .returned (.string ⟨#[]⟩) ∧ w = w' := by
  have hcv : (convert 24 9 (.slice none 0 0)).run Try.prog w = .ok (.string ⟨#[]⟩) w := run_text_src (w := w) (A := none) (cap := 0) (l := []) (fun h => absurd h (by simp))
  go_enter Try.func74, Try.ntmps74
  go_wp2_with fail
  refine (num_nil w).mono ?_
  rintro e w1 ⟨rfl, rfl⟩
  go_wp2_with fail
  refine (take_nil 0 (by decide) w).mono ?_
  rintro e w1 ⟨rfl, rfl⟩
  go_wp2_with fail
  go_ret
  exact ⟨rfl, rfl⟩
end Go.Proofs.Ytlehgacbcacokaa

/- Small functions of pack's reading: need, keep, Of, run, stamp. -/
namespace Go.Proofs.Ytlehgacbcacokaa
open Go.RowKit TreeMath RealMath WireMath PackMath

/-- what a reading that gives up ends in -/
abbrev gave : Ending := .panicked [{ v := .iface 51 (.int .i64 2), recovered := false }]
theorem need_yes (w : World) : Calls Try.prog 73 #[.bool true] w fun e w' => e = .returned (.tuple #[]) ∧ w = w' := by
  go_enter Try.func73, Try.ntmps73
  go_wp2_with fail
  exact bodyPost_end (v := .tuple #[]) (by simp [results, Try.results73]) rfl ⟨rfl, rfl⟩
theorem need_no (w : World) : Calls Try.prog 73 #[.bool false] w fun e w' => e = gave ∧ w = w' := by
  go_enter Try.func73, Try.ntmps73
  go_wp2_with fail
  exact ⟨rfl, rfl, rfl⟩
theorem keep_yes (w : World) : Calls Try.prog 76 #[.int .i64 0] w fun e w' => e = .returned (.tuple #[]) ∧ w = w' := by
  go_enter Try.func76, Try.ntmps76
  go_wp2_with fail
  exact bodyPost_end (v := .tuple #[]) (by simp [results, Try.results76]) rfl ⟨rfl, rfl⟩
theorem keep_no (w : World) : Calls Try.prog 76 #[.int .i64 2] w fun e w' => e = gave ∧ w = w' := by
  go_enter Try.func76, Try.ntmps76
  go_wp2_with fail
  exact ⟨rfl, rfl, rfl⟩
/-- a number of bits, and its error -/
def ofV (x : Nat) : Nat := if ofOk x then x else 0
def ofE (x : Nat) : Int := if ofOk x then 0 else 2
theorem ofOk_yes {x : Nat} (h : canonB x = x) : ofOk x = true := decide_eq_true h
theorem ofOk_no {x : Nat} (h : canonB x ≠ x) : ofOk x = false := decide_eq_false h
set_option maxHeartbeats 1000000 in
theorem of_any (x : Nat) (hx : x < 18446744073709551616) (w : World) :
    Calls Try.prog 110 #[.int .u64 x] w fun e w' => e = .returned (.tuple #[.float .f64 (ofV x), .int .i64 (ofE x)]) ∧ w = w' := by
  have hfb := fun w => run_frombits (x : Int) w
  have HX := Lib.hid hx
  by_cases h : canonB x = x
  · have h1 : ((canonB x : Int) != (x : Int)) = false := by rw [h]; simp
    have HE : Hid (ofV x = x ∧ ofE x = 0) := by refine (?_ : _ ∧ _); unfold ofV ofE; rw [ofOk_yes h]; exact ⟨rfl, rfl⟩
    clear h
    go_enter Try.func110, Try.ntmps110
    go_wp2_with fail
    refine (bits_any x HX.out w).mono ?_
    rintro e w1 ⟨rfl, rfl⟩
    go_wp2_with fail
    go_ret2
    rw [HE.out.1, HE.out.2]; exact ⟨rfl, rfl⟩
  · have h1 : ((canonB x : Int) != (x : Int)) = true := by rw [bne_iff_ne]; omega
    have HE : Hid (ofV x = 0 ∧ ofE x = 2) := by refine (?_ : _ ∧ _); unfold ofV ofE; rw [ofOk_no h]; exact ⟨rfl, rfl⟩
    clear h
    go_enter Try.func110, Try.ntmps110
    go_wp2_with fail
    refine (bits_any x HX.out w).mono ?_
    rintro e w1 ⟨rfl, rfl⟩
    go_wp2_with fail
    go_ret2
    rw [HE.out.1, HE.out.2]; exact ⟨rfl, rfl⟩
/-- the program's reading: which blocks it may turn -/
abbrev ArSet (ga gr : Nat) (c : Nat) : Prop := c = ga ∨ c = gr
structure ArIs (w : World) (top ga gr k : Nat) (r : Rd) : Prop where
  blk : Blk w ga 91 [.pointer (some ⟨gr, 0, none⟩), .int .i64 k]
  rd : RdIs w 111 top gr r
  ne : ga ≠ gr
  le : top ≤ ga
theorem ArIs.read {w w' : World} {top ga gr k : Nat} {r r' : Rd} (h : ArIs w top ga gr k r) (hr : RdIs w' 111 top gr r') (ho : OnlyAt gr w w') : ArIs w' top ga gr k r' :=
  ⟨Blk.only h.blk ho h.ne, hr, h.ne, h.le⟩
theorem OnlyAt.ar {ga gr : Nat} {w w' : World} (h : OnlyAt gr w w') : Turned (ArSet ga gr) (ArSet ga gr) w w' :=
  ⟨h.os, h.tape, h.output, h.size, fun c hc hn => h.other c hc (fun e => hn (.inr e)), fun _ h => .inl h⟩
theorem ArIs.below {w w' : World} {top ga gr k : Nat} {r : Rd} (h : ArIs w top ga gr k r) (hb : Below w.heap.size w w') : ArIs w' top ga gr k r := by
  obtain ⟨A, c, hg, -⟩ := h.rd.ex
  exact ⟨h.blk.below hb h.blk.lt, h.rd.below hb hg.lt, h.ne, h.le⟩
theorem ArIs.count {w : World} {top ga gr k : Nat} {r : Rd} (h : ArIs w top ga gr k r) (k' : Nat) : ArIs (w.setCell ⟨ga, 1, none⟩ (.int .i64 k')) top ga gr k' r := by
  obtain ⟨A, c, hg, h2, h3, h4, h5⟩ := h.rd.ex
  have hle := h.le; have hl2 := h.rd.le; have hne := h.ne
  refine ⟨by have := h.blk.set 1 (.int .i64 (k' : Int)); simpa using this, ?_, h.ne, h.le⟩
  refine ⟨⟨A, c, hg.other (fun e => hne e.symm) _, h2, h3, h4.only ((OnlyAt.refl ga w).setCell 1 _) (fun h0 a ha => by have := h5 h0 a ha; omega), h5⟩, hl2⟩
theorem Turned.ar_count {w : World} {ga gr : Nat} (k' : Int) : Turned (ArSet ga gr) (ArSet ga gr) w (w.setCell ⟨ga, 1, none⟩ (.int .i64 k')) :=
  ⟨rfl, rfl, rfl, by rw [World.size_setCell]; exact Nat.le_refl _, fun c _ hn => Below.heap_setCell w ⟨ga, 1, none⟩ _ c (fun e => hn (.inl e)), fun _ h => .inl h⟩
/-- what run comes to -/
def RunPost (w : World) (top ga gr k : Nat) (r : Rd) (e : Ending) (w' : World) : Prop :=
  (e = if 1 < numR 1 r then gave else .returned (.bool (decide (numR 1 r = 1)))) ∧ ArIs w' top ga gr k (after 1 r) ∧ Turned (ArSet ga gr) (ArSet ga gr) w w'
set_option maxHeartbeats 1000000 in
theorem run_any (top ga gr k : Nat) (r : Rd) (hr : r.p.length ≤ 1000000) (w : World) (h : ArIs w top ga gr k r) :
    Calls Try.prog 99 #[.pointer (some ⟨ga, 0, none⟩)] w (RunPost w top ga gr k r) := by
  have H := Lib.hid h
  have c0 := h.blk.cell 0
  simp only [List.getElem?_cons_zero] at c0
  clear h
  go_enter Try.func99, Try.ntmps99
  go_wp2_with fail
  refine (byte_any top gr r hr w H.out.rd).mono ?_
  rintro e w1 ⟨rfl, h1, h2⟩
  have HA := Lib.hid (H.out.read h1 h2); have HT : Hid (Turned (ArSet ga gr) (ArSet ga gr) w w1) := h2.ar
  clear h1 h2 c0 H
  by_cases hb : 1 < numR 1 r
  · have d1 : decide ((numR 1 r : Int) ≤ 1) = false := decide_eq_false (by omega)
    go_wp2_with fail
    refine (need_no w1).mono ?_
    rintro e w2 ⟨rfl, rfl⟩
    go_wp2_with fail
    exact ⟨rfl, by rw [if_pos hb], HA.out, HT.out⟩
  · have d1 : decide ((numR 1 r : Int) ≤ 1) = true := decide_eq_true (by omega)
    have d2 : ((numR 1 r : Int) == 1) = decide (numR 1 r = 1) := by
      by_cases e : numR 1 r = 1
      · rw [e]; rfl
      · rw [decide_eq_false e, beq_eq_false_iff_ne]; omega
    go_wp2_with fail
    refine (need_yes w1).mono ?_
    rintro e w2 ⟨rfl, rfl⟩
    go_wp2_with fail
    go_ret
    exact ⟨by rw [if_neg hb]; rfl, HA.out, HT.out⟩
def StampPost (w : World) (top ga gr k : Nat) (r : Rd) (e : Ending) (w' : World) : Prop :=
  (e = if ofOk (numR 8 r) then .returned (.float .f64 (numR 8 r)) else gave) ∧ ArIs w' top ga gr k (after 8 r) ∧ Turned (ArSet ga gr) (ArSet ga gr) w w'
set_option maxHeartbeats 1000000 in
theorem stamp_any (top ga gr k : Nat) (r : Rd) (hr : r.p.length ≤ 1000000) (w : World) (h : ArIs w top ga gr k r) :
    Calls Try.prog 100 #[.pointer (some ⟨ga, 0, none⟩)] w (StampPost w top ga gr k r) := by
  have H := Lib.hid h
  have c0 := h.blk.cell 0
  simp only [List.getElem?_cons_zero] at c0
  clear h
  have HX : Hid (numR 8 r < 18446744073709551616) := numR_lt 8 r
  go_enter Try.func100, Try.ntmps100
  go_wp2_with fail
  refine (wide_any top gr r hr w H.out.rd).mono ?_
  rintro e w1 ⟨rfl, h1, h2⟩
  have HA := Lib.hid (H.out.read h1 h2); have HT : Hid (Turned (ArSet ga gr) (ArSet ga gr) w w1) := h2.ar
  clear h1 h2 c0 H
  go_wp2_with fail
  refine (of_any (numR 8 r) HX.out w1).mono ?_
  rintro e w2 ⟨rfl, rfl⟩
  cases ho : ofOk (numR 8 r) with
  | true =>
    have HO := Lib.hid ho
    have e1 : ofV (numR 8 r) = numR 8 r := by unfold ofV; rw [ho]; rfl
    have e2 : ofE (numR 8 r) = 0 := by unfold ofE; rw [ho]; rfl
    rw [e1, e2]
    clear ho e1 e2
    go_wp2_with fail
    refine (keep_yes w1).mono ?_
    rintro e w2 ⟨rfl, rfl⟩
    go_wp2_with fail
    go_ret
    exact ⟨by rw [HO.out]; rfl, HA.out, HT.out⟩
  | false =>
    have HO := Lib.hid ho
    have e2 : ofE (numR 8 r) = 2 := by unfold ofE; rw [ho]; rfl
    rw [e2]
    clear ho e2
    go_wp2_with fail
    refine (keep_no w1).mono ?_
    rintro e w2 ⟨rfl, rfl⟩
    go_wp2_with fail
    exact ⟨rfl, by rw [HO.out]; rfl, HA.out, HT.out⟩
end Go.Proofs.Ytlehgacbcacokaa
