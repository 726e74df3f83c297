/- The contracts of Texts and Bytes of the writer, of bytes.Clone, NewReader, and the document's example of wire. -/
import Derived.Test.YtggmogjgaoobjaaDoorXCT3
import Derived.Test.YtggmogjgaoobjaaDoorXCT2
import Derived.Deep.DeepCutAuto
namespace Go.Proofs.YtggmogjgaoobjaaDoor
open Go.RowKit BaseMath WireMath

abbrev vs (s : List By) : Value := .string ⟨s.toArray⟩
/-- a slice of texts -/
def StrsIs (w : World) (A : Option Addr) (ls : List (List By)) : Prop := 0 < ls.length → ∃ b o, A = some ⟨b, o, none⟩ ∧ ∀ k (h : k < ls.length), w.cell? ⟨b, o + k, none⟩ = some (vs ls[k])
set_option maxRecDepth 100000 in
theorem StrsIs.below {w w' : World} {A : Option Addr} {ls : List (List By)} {B : Nat} (h : StrsIs w A ls) (hb : Below B w w') (hA : 0 < ls.length → ∀ a, A = some a → a.block < B) : StrsIs w' A ls := fun h0 => by
  obtain ⟨b, o, rfl, hc⟩ := h h0
  refine ⟨b, o, rfl, fun k hk => ?_⟩
  rw [World.cell?_of_block (w := w) (a := ⟨b, o + k, none⟩) (hb.block b (hA h0 _ rfl))]; exact hc k hk
set_option maxRecDepth 100000 in
theorem StrsIs.lt {w : World} {A : Option Addr} {ls : List (List By)} (h : StrsIs w A ls) : 0 < ls.length → ∀ a, A = some a → a.block < w.heap.size := fun h0 a ha => by
  obtain ⟨b, o, rfl, hc⟩ := h h0
  cases ha
  exact block_of_cell (hc 0 h0)
def flatN (ls : List (List By)) (k : Nat) : List By := (ls.take k).flatMap textB
set_option maxRecDepth 100000 in
theorem flatN_succ (ls : List (List By)) (k : Nat) (h : k < ls.length) : flatN ls (k + 1) = flatN ls k ++ textB ls[k] := by
  unfold flatN; rw [List.take_succ_eq_append_getElem h, List.flatMap_append, List.flatMap_cons, List.flatMap_nil, List.append_nil]
set_option maxRecDepth 100000 in
theorem flatN_all (ls : List (List By)) : flatN ls ls.length = ls.flatMap textB := by unfold flatN; rw [List.take_length]
set_option maxRecDepth 100000 in
theorem flatN_le (ls : List (List By)) (k : Nat) (h : k < ls.length) : (flatN ls k).length + 2 + ls[k].length ≤ (ls.flatMap textB).length := by
  have e : ls.flatMap textB = flatN ls (k + 1) ++ (ls.drop (k + 1)).flatMap textB := by
    unfold flatN; rw [← List.flatMap_append, List.take_append_drop]
  rw [e, flatN_succ ls k h, List.length_append, List.length_append]
  simp [textB, numB]; omega
set_option maxRecDepth 100000 in
set_option maxHeartbeats 1000000 in
theorem wtexts_any (base g : Nat) (v : Value) (l : List By) (A : Option Addr) (c : Nat) (ls : List (List By)) (hls : ls.length ≤ 255) (hbd : l.length + 1 + (ls.flatMap textB).length ≤ 1000000) (w : World) (h : WrIs w base g v l)
    (hA : StrsIs w A ls) (hAb : 0 < ls.length → ∀ a, A = some a → a.block < base) :
    Calls Tryd.prog 61 #[.pointer (some ⟨g, 0, none⟩), .slice A ls.length c] w (WrPost w base g v (l ++ textsB ls)) := by
  have H := Lib.hid h; have HA := Lib.hid hA; have HAb := Lib.hid hAb
  have hbw : base ≤ w.heap.size := Nat.le_trans h.lo (Nat.le_of_lt h.blk.lt)
  clear h hA hAb
  have HB1 : Hid (vb (UInt8.ofNat ls.length) = .int .u8 (ls.length : Nat)) := by
    show _ = _; rw [vb_ofNat, Nat.mod_eq_of_lt (by omega)]
  go_enter Tryd.func61, Tryd.ntmps61
  go_wp2_with fail
  rw [← HB1.out]
  refine (wbyte_any base g v l (UInt8.ofNat ls.length) (by omega) w H.out).mono ?_
  rintro e w1 ⟨rfl, v1, h1, h2⟩
  have HR : Hid (WrIs w1 base g v1 (l ++ [UInt8.ofNat ls.length] ++ flatN ls 0)) := by show WrIs _ _ _ _ _; simpa [flatN] using h1
  have HT := Lib.hid h2
  clear h1 h2
  go_wp2_with fail
  go_loopw [14] (fun vi wr => ∃ k : Nat, k ≤ ls.length ∧ vi = .int .i64 k ∧ Hid (∃ v', WrIs wr base g v' (l ++ [UInt8.ofNat ls.length] ++ flatN ls k) ∧ WrStep g v v' w wr)) (fun vi _ => ls.length - (intOf vi).toNat)
  case atStart => exact ⟨0, Nat.zero_le _, rfl, v1, HR.out, HT.out⟩
  case round =>
    clear HR HT
    obtain ⟨k, hk, rfl, HX⟩ := hrel
    rename World => W0
    obtain ⟨v0, h1, h2⟩ := HX.out
    have HR := Lib.hid h1; have HT := Lib.hid h2
    have hbb := h2.below H.out hbw
    clear HX h1 h2
    by_cases hlt : k < ls.length
    · obtain ⟨b, o, hAe, hc⟩ := (HA.out.below hbb HAb.out) (by omega)
      subst hAe
      have c0 := hc k hlt
      have hle := flatN_le ls k hlt
      have HF := Lib.hid (flatN_succ ls k hlt)
      generalize ls[k] = s at *
      clear hbb hc
      go_wp2_with fail
      refine (wtext_any base g v0 (l ++ [UInt8.ofNat ls.length] ++ flatN ls k) s (by simp; omega) W0 HR.out).mono ?_
      rintro e w2 ⟨rfl, v2, h1, h2⟩
      have HN : Hid (∃ v', WrIs w2 base g v' (l ++ [UInt8.ofNat ls.length] ++ flatN ls (k + 1)) ∧ WrStep g v v' w w2) := ⟨v2, by rw [HF.out, ← List.append_assoc]; exact h1, HT.out.trans h2⟩
      clear h1 h2
      go_wp2_with fail
      go_roundw
      case rel => exact ⟨k + 1, by omega, by go_num, HN.out⟩
      case measure => simp [intOf]; omega
    · obtain rfl : k = ls.length := by omega
      clear hbb
      go_wp2_with fail
      go_ret
      refine ⟨rfl, v0, ?_, HT.out⟩
      have := HR.out
      rw [flatN_all, List.append_assoc] at this
      exact this
set_option maxRecDepth 100000 in
theorem wtexts_nil1 (b : Nat) (s : List By) (w : World) (hc : w.cell? ⟨b, 0, none⟩ = some (vs s)) :
    Calls Tryd.prog 61 #[.pointer none, .slice (some ⟨b, 0, none⟩) 1 1] w fun e w' => e = .returned (.pointer none) ∧ Below w.heap.size w w' := by
  have hbl := block_of_cell hc
  simp only at hbl
  go_enter Tryd.func61, Tryd.ntmps61
  go_wp2_with fail
  refine (wbyte_nil 1 w).mono ?_
  rintro e w1 ⟨rfl, hb1⟩
  have c1 : w1.cell? ⟨b, 0, none⟩ = some (vs s) := by rw [hb1.cell (p := ⟨b, 0, none⟩) hbl]; exact hc
  have HB1 := Lib.hid hb1
  clear hb1
  go_wp2_with fail
  go_loopw [14] (fun vi wr => ∃ k : Nat, k ≤ 1 ∧ vi = .int .i64 k ∧ Hid (Below w.heap.size w wr)) (fun vi _ => 1 - (intOf vi).toNat)
  case atStart => exact ⟨0, Nat.zero_le _, rfl, HB1.out⟩
  case round =>
    clear HB1 c1
    obtain ⟨k, hk, rfl, HB⟩ := hrel
    rename World => W0
    by_cases hlt : k < 1
    · obtain rfl : k = 0 := by omega
      have c1 : W0.cell? ⟨b, 0, none⟩ = some (vs s) := by rw [HB.out.cell (p := ⟨b, 0, none⟩) hbl]; exact hc
      go_wp2_with fail
      refine (wtext_nil s W0).mono ?_
      rintro e w2 ⟨rfl, hb2⟩
      have HB2 : Hid (Below w.heap.size w w2) := HB.out.trans (hb2.mono HB.out.size)
      clear hb2
      go_wp2_with fail
      go_roundw
      case rel => exact ⟨1, by omega, by go_num, HB2.out⟩
      case measure => simp [intOf]
    · obtain rfl : k = 1 := by omega
      go_wp2_with fail
      go_ret
      exact ⟨rfl, HB.out⟩
set_option maxRecDepth 100000 in
theorem row_empty (w : World) : (w.alloc (.cells #[] 5)).ownsRow w.heap.size 5 1 (.slice (some ⟨w.heap.size, 0, none⟩) 0 0) ([] : List By).length (([] : List By).map vb) :=
  ⟨rfl, .inr ⟨w.heap.size, 0, #[], rfl, Nat.le_refl _, Blk.new w 5 #[], Nat.le_refl _, Nat.zero_le _, rfl, rfl⟩⟩
set_option maxRecDepth 100000 in
set_option maxHeartbeats 1000000 in
theorem clone_any (A : Option Addr) (c : Nat) (l : List By) (hl : l.length ≤ 1000000) (hN : A = none → c = 0) (w : World) (hA : SrcIs w A l) :
    Calls Tryd.prog 86 #[.slice A l.length c] w fun e w' => ∃ v, e = .returned v ∧ RowRel w 5 (l.map vb) v w' := by
  cases A with
  | none =>
    have hl : l = [] := by
      cases l with
      | nil => rfl
      | cons y r => obtain ⟨b, o, he, _⟩ := hA (by simp); cases he
    subst hl
    obtain rfl := hN rfl
    have heq : (binOp .eql 37 (.slice none 0 0) (.slice none 0 0)).run Tryd.prog w = .ok (.bool true) w := run_eql_nil_slice w 37 5 none 0 0 0 0 Tryd.underlying37
    clear hA hN
    go_enter Tryd.func86, Tryd.ntmps86
    go_wp2_with fail
    go_ret
    exact ⟨_, rfl, RowRel.none w 5⟩
  | some a =>
    have HA := Lib.hid (hA.below ((Below.refl w.heap.size w).alloc (Nat.le_refl _) (.cells #[] 5)))
    have heq : (binOp .eql 37 (.slice (some a) l.length c) (.slice none 0 0)).run Tryd.prog w = .ok (.bool false) w := run_eql_nil_slice w 37 5 (some a) l.length c 0 0 Tryd.underlying37
    clear hA hN
    go_enter Tryd.func86, Tryd.ntmps86
    go_wp2_with (refine wpList_append_x rfl (.tmp 5) (.tmp 6) rfl w.heap.size _ [] rfl (row_empty w) (some a) c l rfl (fun h => by cases h) HA.out (by simp; omega) (by simp) ?_)
    intro v1 w1 ho hg hk
    have HB : Hid (Below w.heap.size w w1) := ((Below.refl _ _).alloc (Nat.le_refl _) _).grown hg (by simp) (fun k hk => by simp [Value.ownBlock] at hk; omega)
    have HO : Hid (RowRel w 5 (l.map vb) v1 w1) := ⟨HB.out, by rw [List.length_map]; exact ho⟩
    clear ho hg hk
    go_wp2_with fail
    go_ret
    exact ⟨_, rfl, HO.out⟩
set_option maxRecDepth 100000 in
theorem wbytes_any (base g : Nat) (v : Value) (l : List By) (hl : l.length ≤ 1000000) (w : World) (h : WrIs w base g v l) :
    Calls Tryd.prog 44 #[.pointer (some ⟨g, 0, none⟩)] w fun e w' => ∃ v, e = .returned v ∧ RowRel w 5 (l.map vb) v w' := by
  have c0 := h.blk.cell 0
  simp only [List.getElem?_cons_zero] at c0
  obtain ⟨A, c, rfl, hs, hN, -, -⟩ := own_src h.own rfl
  have HS := Lib.hid hs; have HN := Lib.hid hN
  clear h hs hN
  go_enter Tryd.func44, Tryd.ntmps44
  go_wp2_with fail
  refine (clone_any A c l hl HN.out w HS.out).mono ?_
  rintro e w1 ⟨v1, rfl, hr⟩
  have HR := Lib.hid hr; clear hr
  go_wp2_with fail
  go_ret
  exact ⟨_, rfl, HR.out⟩
set_option maxRecDepth 100000 in
theorem wbytes_nil (w : World) : Calls Tryd.prog 44 #[.pointer none] w fun e w' => e = .returned (.slice none 0 0) ∧ w = w' := by
  go_enter Tryd.func44, Tryd.ntmps44
  go_wp2_with fail
  go_ret
  exact ⟨rfl, rfl⟩
/-- a new reader -/
def NewPost (l : List By) (w : World) (e : Ending) (w' : World) : Prop :=
  ∃ g, e = .returned (.pointer (some ⟨g, 0, none⟩)) ∧ w.heap.size ≤ g ∧ RdIs w' 141 g g ⟨l, false⟩ ∧ Below w.heap.size w w'
set_option maxRecDepth 100000 in
set_option maxHeartbeats 1000000 in
theorem reader_any (A : Option Addr) (c : Nat) (l : List By) (hl : l.length ≤ 1000000) (hN : A = none → c = 0) (w : World) (hA : SrcIs w A l) :
    Calls Tryd.prog 47 #[.slice A l.length c] w (NewPost l w) := by
  have HA := Lib.hid hA; have HN := Lib.hid hN
  clear hA hN
  go_enter Tryd.func47, Tryd.ntmps47
  go_wp2_with fail
  refine (clone_any A c l hl HN.out w HA.out).mono ?_
  rintro e w1 ⟨v1, rfl, hr⟩
  obtain ⟨A1, c1, rfl, hs1, hn1, hc1, hb1⟩ := hr.src
  have HB := Lib.hid hr.below
  have hsz := hr.below.size
  have HNEW : Hid (RdIs (w1.alloc (.cells #[.slice A1 l.length c1, .bool false] 141)) 141 w1.heap.size w1.heap.size ⟨l, false⟩) := by
    refine ⟨⟨A1, c1, Blk.new w1 141 _, hn1, hc1, ?_, fun _ a ha => (hb1 a ha).2⟩, Nat.le_refl _⟩
    exact hs1.below ((Below.refl _ _).alloc (Nat.le_refl _) _)
  have HB2 : Hid (Below w.heap.size w (w1.alloc (.cells #[.slice A1 l.length c1, .bool false] 141))) := HB.out.alloc hsz _
  clear hr hs1 hn1 hc1 hb1 HB
  go_wp2_with fail
  go_ret
  exact ⟨w1.heap.size, rfl, hsz, HNEW.out, HB2.out⟩
end Go.Proofs.YtggmogjgaoobjaaDoor

/- The document's example of wire, and the walk of WireNil. -/
namespace Go.Proofs.YtggmogjgaoobjaaDoor
open Go.RowKit BaseMath WireMath

set_option maxRecDepth 100000 in
theorem numR_one (b : By) (l : List By) (f : Bool) : numR 1 ⟨b :: l, f⟩ = b.toNat ∧ after 1 ⟨b :: l, f⟩ = ⟨l, f⟩ := by
  obtain ⟨h1, h2⟩ := taken_all 1 ⟨b :: l, f⟩ (by simp)
  refine ⟨?_, by rw [h2]; simp⟩
  unfold numR; rw [h1]; simp [nat, val]
end Go.Proofs.YtggmogjgaoobjaaDoor

/- The contract of the reader's Texts. -/
namespace Go.Proofs.YtggmogjgaoobjaaDoor
open Go.RowKit BaseMath WireMath

set_option maxRecDepth 100000 in
theorem OnlyAt.grown {g : Nat} {a w w' : World} {row : Option Nat} (h : OnlyAt g a w) (hg : w.grownBy w' row) (hr : ∀ k, row = some k → a.heap.size ≤ k) : OnlyAt g a w' :=
  ⟨hg.os.trans h.os, hg.tape.trans h.tape, hg.output.trans h.output, Nat.le_trans h.size hg.size, fun c hc hn => by
    rw [hg.block c (Nat.lt_of_lt_of_le hc h.size) (fun e => by have := hr c e.symm; omega)]; exact h.other c hc hn⟩
set_option maxRecDepth 100000 in
theorem OnlyAt.alloc {g : Nat} {a w : World} (h : OnlyAt g a w) (o : Obj) : OnlyAt g a (w.alloc o) := by
  refine ⟨h.os, h.tape, h.output, by simp; have := h.size; omega, fun c hc hn => ?_⟩
  rw [Below.heap_alloc w o c (Nat.lt_of_lt_of_le hc h.size)]; exact h.other c hc hn
set_option maxRecDepth 100000 in
theorem textsGo_end (n k : Nat) (acc : List (List By)) (r : Rd) (h : n ≤ k ∨ r.f = true) : textsGo (n - k) acc r = (acc, r) := by
  rcases h with h | h
  · rw [show n - k = 0 by omega]; rfl
  · exact textsGo_failed _ _ _ h
set_option maxRecDepth 100000 in
theorem new_cells (W : World) (e : TypeId) (ns : List Value) : ∀ j y, ns[j]? = some y → (W.alloc (.cells ns.toArray e)).cell? ((⟨W.heap.size, 0, none⟩ : Addr).add j) = some y := fun j y hj => by
  rw [Addr.add_mid, Nat.zero_add, (Blk.new W e ns.toArray).cell]; exact hj
/-- what stands ahead of a round -/
structure TxRel (w : World) (T : TypeId) (top g : Nat) (n : Nat) (all : List (List By) × Rd) (len k : Nat) (v : Value) (f : Bool) (wr : World) : Prop where
  ex : ∃ acc r, wr.ownsRow w.heap.size 9 1 v acc.length (acc.map vs) ∧ RdIs wr T top g r ∧ r.ok ∧ r.p.length ≤ len ∧ acc.length = k ∧ textsGo (n - k) acc r = all ∧ r.f = f
  only : OnlyAt g w wr
/-- what Texts comes to -/
def TextsPost (w : World) (T : TypeId) (top g : Nat) (ls : List (List By)) (ra : Rd) (e : Ending) (w' : World) : Prop :=
  ∃ v, e = .returned v ∧ w'.ownsRow w.heap.size 9 1 v ls.length (ls.map vs) ∧ RdIs w' T top g ra ∧ OnlyAt g w w'
set_option maxRecDepth 100000 in
theorem textA_len (r : Rd) : (textA r).p.length ≤ r.p.length := Nat.le_trans (after_len _ _) (after_len _ _)
set_option maxHeartbeats 2000000 in
set_option maxRecDepth 100000 in
theorem rtexts_any (top g : Nat) (most : Int) (r : Rd) (hr : r.p.length ≤ 1000000) (hok : r.ok) (w : World) (h : RdIs w 141 top g r) :
    Calls Tryd.prog 65 #[.pointer (some ⟨g, 0, none⟩), .int .i64 most] w (TextsPost w 141 top g (textsR most r) (textsA most r)) := by
  obtain ⟨i9, hi9, hz0, hz1, hz2⟩ := info_parts info9
  have H := Lib.hid h
  have hgw : g < w.heap.size := by obtain ⟨_, _, hb, _⟩ := h.ex; exact hb.lt
  have hlt : numR 1 r < 256 := numR_lt 1 r
  have hal := after_len 1 r
  have HI := Lib.hid hi9; have HZ0 := Lib.hid hz0; have HZ1 := Lib.hid hz1; have HZ2 := Lib.hid hz2
  have HOK := Lib.hid (ok_after hok 1)
  have HALL : Hid (textsAll most r = textsGo (numR 1 r - 0) [] (texts0 most r)) := rfl
  have HTR : Hid (textsR most r = if (textsAll most r).2.f then [] else (textsAll most r).1) := rfl
  have HTA : Hid (textsA most r = (textsAll most r).2) := rfl
  clear h hi9 hz0 hz1 hz2 hok
  go_enter Tryd.func65, Tryd.ntmps65
  go_wp2_with fail
  refine (byte_any top g r hr w H.out).mono ?_
  rintro e w1 ⟨rfl, h1, h2⟩
  have HR1 := Lib.hid h1; have HO1 := Lib.hid h2
  clear h1 h2 H
  by_cases hm : most < (numR 1 r : Int)
  · have HT0 : Hid (texts0 most r = fails) := by show _ = _; unfold texts0; rw [if_pos hm]
    rw [HT0.out] at HALL
    generalize textsAll most r = all at *
    generalize numR 1 r = n at *
    go_wp2_with fail
    refine (fail_any top g (after 1 r) w1 HR1.out).mono ?_
    rintro e w2 ⟨rfl, h1, h2⟩
    have HX : Hid (TxRel w 141 top g n all r.p.length 0 (.slice none 0 0) true w2) :=
      ⟨⟨[], fails, World.ownsRow_nil _ _ _ _, h1, ok_fails, Nat.zero_le _, rfl, HALL.out.symm, rfl⟩, HO1.out.trans h2⟩
    clear h1 h2 HR1 HO1 HALL HOK HT0
    go_wp2_with fail
    go_loopw [6, 7] (fun v vk wr => ∃ k : Nat, k ≤ n ∧ vk = .int .i64 k ∧ Hid (∃ f, TxRel w 141 top g n all r.p.length k v f wr)) (fun _ vk _ => n - (intOf vk).toNat)
    case atStart => exact ⟨0, Nat.zero_le _, rfl, _, HX.out⟩
    case round =>
      clear HX
      obtain ⟨k, hk, rfl, HXX⟩ := hrel
      rename World => W0
      obtain ⟨f, hx⟩ := HXX.out
      obtain ⟨acc, r1, ho, hr1, hok1, hlen, hacc, hgo, hf⟩ := hx.ex
      have HO := Lib.hid ho; have HR := Lib.hid hr1; have HK1 := Lib.hid hok1; have HACC := Lib.hid hacc; have HGO := Lib.hid hgo; have HF := Lib.hid hf; have HON := Lib.hid hx.only
      clear HXX hx ho hr1 hok1 hacc hgo hf
      by_cases hkn : k < n
      · cases f with
        | true =>
          have HE : Hid (all = (acc, r1)) := HGO.out.symm.trans (textsGo_end n k acc r1 (.inr HF.out))
          rw [HE.out] at HTR HTA
          simp only [HF.out, if_true] at HTR HTA
          go_wp2_with fail
          refine (ok_any top g r1 W0 HR.out).mono ?_
          rintro e w2 ⟨rfl, rfl⟩
          rw [HF.out]
          go_wp2_with fail
          refine (ok_any top g r1 W0 HR.out).mono ?_
          rintro e w2 ⟨rfl, rfl⟩
          rw [HF.out]
          go_wp2_with fail
          go_ret
          exact ⟨_, rfl, by rw [HTR.out]; exact World.ownsRow_nil _ _ _ _, by rw [HTA.out]; exact HR.out, HON.out⟩
        | false =>
          have HSTEP := Lib.hid (textsGo_step n k acc r1 hkn HF.out)
          rw [HGO.out] at HSTEP
          have hsz := HON.out.size
          go_wp2_with fail
          refine (ok_any top g r1 W0 HR.out).mono ?_
          rintro e w2 ⟨rfl, rfl⟩
          rw [HF.out]
          go_wp2_with fail
          refine (rtext_any top g r1 (by omega) W0 HR.out).mono ?_
          rintro e w3 ⟨rfl, h1, h2⟩
          have HR3 := Lib.hid h1; have HON3 := Lib.hid (HON.out.trans h2)
          have HO3 : Hid (w3.ownsRow w.heap.size 9 1 _ acc.length (acc.map vs)) := ownsRow_keep HO.out (fun c hc => h2.other c (HO.out.lt c hc).2 (by have := (HO.out.lt c hc).1; omega))
          have hsz3 := HON3.out.size
          have HTL := Lib.hid (textA_len r1)
          have HKA := Lib.hid (ok_textA HK1.out)
          clear h1 h2 HR HO HON HK1
          generalize textR r1 = tx at *
          generalize textA r1 = r2 at *
          go_wp2_with (refine wpList_append_own _ rfl (.tmp 25) (.tmp 28) 32 rfl w.heap.size 9 i9 (.string ⟨#[]⟩) 1 16 Tryd.underlying32 HI.out HZ0.out HZ1.out HZ2.out rfl (by decide) _ acc.length (acc.map vs) rfl (HO3.out.alloc _) ⟨w3.heap.size, 0, none⟩ 1 1 [vs tx] rfl rfl (new_cells w3 9 [vs tx]) (by intro y hy; rw [List.mem_singleton.1 hy]; rfl) (by unfold maxLen; have := HACC.out; omega) (by have := HACC.out; omega) (by simp; omega) ?_)
          intro v4 w4 ho4 hg4 _
          have hrow : ∀ c, _ → w.heap.size ≤ c := fun c hc => (HO3.out.lt c hc).1
          have HON4 : Hid (OnlyAt g w w4) := (HON3.out.alloc _).grown hg4 hrow
          have HR4 : Hid (RdIs w4 141 top g r2) := (HR3.out.below ((Below.refl w3.heap.size w3).alloc (Nat.le_refl _) _) (by omega)).below ((Below.refl w.heap.size _).grown hg4 (by simp; omega) hrow) hgw
          have HX4 : Hid (∃ f, TxRel w 141 top g n all r.p.length (k + 1) v4 f w4) := ⟨r2.f, ⟨acc ++ [tx], r2, by rw [List.length_append, List.map_append]; exact ho4, HR4.out, HKA.out, Nat.le_trans HTL.out hlen, by rw [List.length_append, HACC.out]; rfl, HSTEP.out.symm, rfl⟩, HON4.out⟩
          clear ho4 hg4 hrow HON4 HR4 HR3 HON3 HO3
          go_wp2_with fail
          go_roundw
          case rel => exact ⟨k + 1, by omega, by go_num, HX4.out⟩
          case measure => simp [intOf]; omega
      · obtain rfl : k = n := by omega
        have HE : Hid (all = (acc, r1)) := HGO.out.symm.trans (textsGo_end k k acc r1 (.inl (Nat.le_refl _)))
        rw [HE.out] at HTR HTA
        cases f with
        | true =>
          simp only [HF.out, if_true] at HTR HTA
          go_wp2_with fail
          refine (ok_any top g r1 W0 HR.out).mono ?_
          rintro e w2 ⟨rfl, rfl⟩
          rw [HF.out]
          go_wp2_with fail
          go_ret
          exact ⟨_, rfl, by rw [HTR.out]; exact World.ownsRow_nil _ _ _ _, by rw [HTA.out]; exact HR.out, HON.out⟩
        | false =>
          simp only [HF.out, Bool.false_eq_true, if_false] at HTR HTA
          go_wp2_with fail
          refine (ok_any top g r1 W0 HR.out).mono ?_
          rintro e w2 ⟨rfl, rfl⟩
          rw [HF.out]
          go_wp2_with fail
          go_ret
          exact ⟨_, rfl, by rw [HTR.out]; exact HO.out, by rw [HTA.out]; exact HR.out, HON.out⟩
  · have HT0 : Hid (texts0 most r = after 1 r) := by show _ = _; unfold texts0; rw [if_neg hm]
    rw [HT0.out] at HALL
    generalize textsAll most r = all at *
    generalize numR 1 r = n at *
    have HX : Hid (TxRel w 141 top g n all r.p.length 0 (.slice none 0 0) (after 1 r).f w1) :=
      ⟨⟨[], after 1 r, World.ownsRow_nil _ _ _ _, HR1.out, HOK.out, hal, rfl, HALL.out.symm, rfl⟩, HO1.out⟩
    clear HR1 HO1 HALL HOK HT0
    go_wp2_with fail
    go_loopw [6, 7] (fun v vk wr => ∃ k : Nat, k ≤ n ∧ vk = .int .i64 k ∧ Hid (∃ f, TxRel w 141 top g n all r.p.length k v f wr)) (fun _ vk _ => n - (intOf vk).toNat)
    case atStart => exact ⟨0, Nat.zero_le _, rfl, _, HX.out⟩
    case round =>
      clear HX
      obtain ⟨k, hk, rfl, HXX⟩ := hrel
      rename World => W0
      obtain ⟨f, hx⟩ := HXX.out
      obtain ⟨acc, r1, ho, hr1, hok1, hlen, hacc, hgo, hf⟩ := hx.ex
      have HO := Lib.hid ho; have HR := Lib.hid hr1; have HK1 := Lib.hid hok1; have HACC := Lib.hid hacc; have HGO := Lib.hid hgo; have HF := Lib.hid hf; have HON := Lib.hid hx.only
      clear HXX hx ho hr1 hok1 hacc hgo hf
      by_cases hkn : k < n
      · cases f with
        | true =>
          have HE : Hid (all = (acc, r1)) := HGO.out.symm.trans (textsGo_end n k acc r1 (.inr HF.out))
          rw [HE.out] at HTR HTA
          simp only [HF.out, if_true] at HTR HTA
          go_wp2_with fail
          refine (ok_any top g r1 W0 HR.out).mono ?_
          rintro e w2 ⟨rfl, rfl⟩
          rw [HF.out]
          go_wp2_with fail
          refine (ok_any top g r1 W0 HR.out).mono ?_
          rintro e w2 ⟨rfl, rfl⟩
          rw [HF.out]
          go_wp2_with fail
          go_ret
          exact ⟨_, rfl, by rw [HTR.out]; exact World.ownsRow_nil _ _ _ _, by rw [HTA.out]; exact HR.out, HON.out⟩
        | false =>
          have HSTEP := Lib.hid (textsGo_step n k acc r1 hkn HF.out)
          rw [HGO.out] at HSTEP
          have hsz := HON.out.size
          go_wp2_with fail
          refine (ok_any top g r1 W0 HR.out).mono ?_
          rintro e w2 ⟨rfl, rfl⟩
          rw [HF.out]
          go_wp2_with fail
          refine (rtext_any top g r1 (by omega) W0 HR.out).mono ?_
          rintro e w3 ⟨rfl, h1, h2⟩
          have HR3 := Lib.hid h1; have HON3 := Lib.hid (HON.out.trans h2)
          have HO3 : Hid (w3.ownsRow w.heap.size 9 1 _ acc.length (acc.map vs)) := ownsRow_keep HO.out (fun c hc => h2.other c (HO.out.lt c hc).2 (by have := (HO.out.lt c hc).1; omega))
          have hsz3 := HON3.out.size
          have HTL := Lib.hid (textA_len r1)
          have HKA := Lib.hid (ok_textA HK1.out)
          clear h1 h2 HR HO HON HK1
          generalize textR r1 = tx at *
          generalize textA r1 = r2 at *
          go_wp2_with (refine wpList_append_own _ rfl (.tmp 25) (.tmp 28) 32 rfl w.heap.size 9 i9 (.string ⟨#[]⟩) 1 16 Tryd.underlying32 HI.out HZ0.out HZ1.out HZ2.out rfl (by decide) _ acc.length (acc.map vs) rfl (HO3.out.alloc _) ⟨w3.heap.size, 0, none⟩ 1 1 [vs tx] rfl rfl (new_cells w3 9 [vs tx]) (by intro y hy; rw [List.mem_singleton.1 hy]; rfl) (by unfold maxLen; have := HACC.out; omega) (by have := HACC.out; omega) (by simp; omega) ?_)
          intro v4 w4 ho4 hg4 _
          have hrow : ∀ c, _ → w.heap.size ≤ c := fun c hc => (HO3.out.lt c hc).1
          have HON4 : Hid (OnlyAt g w w4) := (HON3.out.alloc _).grown hg4 hrow
          have HR4 : Hid (RdIs w4 141 top g r2) := (HR3.out.below ((Below.refl w3.heap.size w3).alloc (Nat.le_refl _) _) (by omega)).below ((Below.refl w.heap.size _).grown hg4 (by simp; omega) hrow) hgw
          have HX4 : Hid (∃ f, TxRel w 141 top g n all r.p.length (k + 1) v4 f w4) := ⟨r2.f, ⟨acc ++ [tx], r2, by rw [List.length_append, List.map_append]; exact ho4, HR4.out, HKA.out, Nat.le_trans HTL.out hlen, by rw [List.length_append, HACC.out]; rfl, HSTEP.out.symm, rfl⟩, HON4.out⟩
          clear ho4 hg4 hrow HON4 HR4 HR3 HON3 HO3
          go_wp2_with fail
          go_roundw
          case rel => exact ⟨k + 1, by omega, by go_num, HX4.out⟩
          case measure => simp [intOf]; omega
      · obtain rfl : k = n := by omega
        have HE : Hid (all = (acc, r1)) := HGO.out.symm.trans (textsGo_end k k acc r1 (.inl (Nat.le_refl _)))
        rw [HE.out] at HTR HTA
        cases f with
        | true =>
          simp only [HF.out, if_true] at HTR HTA
          go_wp2_with fail
          refine (ok_any top g r1 W0 HR.out).mono ?_
          rintro e w2 ⟨rfl, rfl⟩
          rw [HF.out]
          go_wp2_with fail
          go_ret
          exact ⟨_, rfl, by rw [HTR.out]; exact World.ownsRow_nil _ _ _ _, by rw [HTA.out]; exact HR.out, HON.out⟩
        | false =>
          simp only [HF.out, Bool.false_eq_true, if_false] at HTR HTA
          go_wp2_with fail
          refine (ok_any top g r1 W0 HR.out).mono ?_
          rintro e w2 ⟨rfl, rfl⟩
          rw [HF.out]
          go_wp2_with fail
          go_ret
          exact ⟨_, rfl, by rw [HTR.out]; exact HO.out, by rw [HTA.out]; exact HR.out, HON.out⟩
end Go.Proofs.YtggmogjgaoobjaaDoor

/- Plain facts: what is laid is read as it was; what is cut off fails. No program is named. -/
namespace WireMath
open BaseMath

set_option maxRecDepth 100000 in
theorem app_back (n : Nat) (x y : List By) (f : Bool) (h : x.length = n) : taken n ⟨x ++ y, f⟩ = x ∧ after n ⟨x ++ y, f⟩ = ⟨y, f⟩ := by
  subst h
  obtain ⟨h1, h2⟩ := taken_all x.length ⟨x ++ y, f⟩ (by simp)
  exact ⟨by rw [h1]; simp, by rw [h2]; simp⟩
set_option maxRecDepth 100000 in
theorem numB_val (n : Int) : val 256 (nat (numB n)) = (n % 65536).toNat := by
  have h1 : (n / 256 % 256).toNat < 256 := by omega
  have h2 : (n % 256).toNat < 256 := by omega
  unfold numB nat
  simp only [List.map_cons, List.map_nil, UInt8.toNat_ofNat_of_lt' h1, UInt8.toNat_ofNat_of_lt' h2, val, List.foldl_cons, List.foldl_nil]
  omega
set_option maxRecDepth 100000 in
theorem num_back (n : Int) (y : List By) (f : Bool) : numR 2 ⟨numB n ++ y, f⟩ = (n % 65536).toNat ∧ after 2 ⟨numB n ++ y, f⟩ = ⟨y, f⟩ := by
  obtain ⟨h1, h2⟩ := app_back 2 (numB n) y f rfl
  exact ⟨by unfold numR; rw [h1, numB_val], h2⟩
set_option maxRecDepth 100000 in
theorem byte_back (b : By) (y : List By) (f : Bool) : numR 1 ⟨[b] ++ y, f⟩ = b.toNat ∧ after 1 ⟨[b] ++ y, f⟩ = ⟨y, f⟩ := by
  obtain ⟨h1, h2⟩ := app_back 1 [b] y f rfl
  exact ⟨by unfold numR; rw [h1]; simp [nat, val], h2⟩
set_option maxRecDepth 100000 in
theorem wideN (x : Nat) (k : Nat) (hk : k ≤ 8) : val 256 (nat ((List.range k).map fun i => UInt8.ofNat (x / 2 ^ (56 - 8 * i)))) = x / 2 ^ (64 - 8 * k) % 2 ^ (8 * k) := by
  induction k with
  | zero => simp [nat, val, Nat.mod_one]
  | succ k ih =>
    have ih' := ih (by omega)
    unfold nat at ih' ⊢
    rw [List.range_succ, List.map_append, List.map_append, List.map_singleton, List.map_singleton, val_snoc, ih', UInt8.toNat_ofNat']
    have e1 : 64 - 8 * k = (56 - 8 * k) + 8 := by omega
    have e2 : 64 - 8 * (k + 1) = 56 - 8 * k := by omega
    rw [e1, e2, Nat.pow_add, ← Nat.div_div_eq_div_mul, show 8 * (k + 1) = 8 + 8 * k by omega, Nat.pow_add 2 8]
    generalize x / 2 ^ (56 - 8 * k) = z
    rw [Nat.mod_mul, show (2 : Nat) ^ 8 = 256 by rfl]
    omega
set_option maxRecDepth 100000 in
theorem wide_back (x : Nat) (hx : x < 18446744073709551616) (y : List By) (f : Bool) : numR 8 ⟨wideB x ++ y, f⟩ = x ∧ after 8 ⟨wideB x ++ y, f⟩ = ⟨y, f⟩ := by
  obtain ⟨h1, h2⟩ := app_back 8 (wideB x) y f rfl
  refine ⟨?_, h2⟩
  unfold numR; rw [h1]
  have := wideN x 8 (Nat.le_refl _)
  simp only [Nat.reduceMul, Nat.sub_self, Nat.pow_zero, Nat.div_one] at this
  unfold wideB; rw [this]
  exact Nat.mod_eq_of_lt hx
set_option maxRecDepth 100000 in
theorem text_back (s y : List By) (f : Bool) (hs : s.length < 65536) : textR ⟨textB s ++ y, f⟩ = s ∧ textA ⟨textB s ++ y, f⟩ = ⟨y, f⟩ := by
  unfold textB
  rw [List.append_assoc]
  obtain ⟨h1, h2⟩ := num_back s.length (s ++ y) f
  have e : ((s.length : Int) % 65536).toNat = s.length := by omega
  rw [e] at h1
  obtain ⟨h3, h4⟩ := app_back s.length s y f rfl
  exact ⟨by unfold textR; rw [h1, h2, h3], by unfold textA; rw [h1, h2, h4]⟩
set_option maxRecDepth 100000 in
theorem textsGo_back : ∀ (ls acc : List (List By)) (y : List By), (∀ s ∈ ls, s.length < 65536) → textsGo ls.length acc ⟨ls.flatMap textB ++ y, false⟩ = (acc ++ ls, ⟨y, false⟩)
  | [], acc, y, _ => by simp [textsGo]
  | s :: ls, acc, y, h => by
    rw [List.length_cons]
    unfold textsGo
    rw [List.flatMap_cons, List.append_assoc]
    obtain ⟨h1, h2⟩ := text_back s (ls.flatMap textB ++ y) false (h s (by simp))
    rw [h1, h2]
    simp only [Bool.false_eq_true, if_false]
    rw [textsGo_back ls (acc ++ [s]) y (fun t ht => h t (by simp [ht]))]
    simp
set_option maxRecDepth 100000 in
theorem texts_back (ls : List (List By)) (y : List By) (most : Int) (hl : ls.length ≤ 255) (hm : (ls.length : Int) ≤ most) (h : ∀ s ∈ ls, s.length < 65536) :
    textsR most ⟨textsB ls ++ y, false⟩ = ls ∧ textsA most ⟨textsB ls ++ y, false⟩ = ⟨y, false⟩ := by
  have e : textsB ls ++ y = [UInt8.ofNat ls.length] ++ (ls.flatMap textB ++ y) := by unfold textsB; rw [List.append_assoc]
  obtain ⟨h1, h2⟩ := byte_back (UInt8.ofNat ls.length) (ls.flatMap textB ++ y) false
  rw [UInt8.toNat_ofNat_of_lt' (by show ls.length < 256; omega)] at h1
  have ha : textsAll most ⟨textsB ls ++ y, false⟩ = (ls, ⟨y, false⟩) := by
    unfold textsAll texts0
    rw [e, h1, h2, if_neg (by omega), textsGo_back ls [] y h]
    simp
  unfold textsR textsA
  rw [ha]; simp
set_option maxRecDepth 100000 in
/-- a reader that has failed tells nothing -/
theorem fails_taken (n : Nat) : taken n fails = [] ∧ after n fails = fails := by
  unfold taken after fails; by_cases h : 0 < n <;> simp [h]
set_option maxRecDepth 100000 in
theorem fails_num (n : Nat) : numR n fails = 0 := by unfold numR; rw [(fails_taken n).1]; rfl
set_option maxRecDepth 100000 in
theorem fails_texts (most : Int) : textsR most fails = [] ∧ textsA most fails = fails := by
  have h0 : texts0 most fails = fails := by unfold texts0; split; rfl; exact (fails_taken 1).2
  have ha : textsAll most fails = ([], fails) := by
    unfold textsAll; rw [h0, fails_num]; rfl
  unfold textsR textsA; rw [ha]; simp [fails]
set_option maxRecDepth 100000 in
theorem cut_text (s : List By) (hs : s.length < 65536) (k : Nat) (hk : k < (textB s).length) : textR ⟨(textB s).take k, false⟩ = [] ∧ textA ⟨(textB s).take k, false⟩ = fails := by
  have hl : (textB s).length = 2 + s.length := by simp [textB, numB]; omega
  by_cases h2 : k < 2
  · obtain ⟨h3, h4⟩ := taken_few 2 ⟨(textB s).take k, false⟩ (by simp; omega)
    have h5 : numR 2 ⟨(textB s).take k, false⟩ = 0 := by unfold numR; rw [h3]; rfl
    unfold textR textA; rw [h5, h4]; exact fails_taken 0
  · have e : (textB s).take k = numB s.length ++ s.take (k - 2) := by
      unfold textB; rw [List.take_append, List.take_of_length_le (show (numB s.length).length ≤ k by show 2 ≤ k; omega)]; rfl
    obtain ⟨h3, h4⟩ := num_back s.length (s.take (k - 2)) false
    have e2 : ((s.length : Int) % 65536).toNat = s.length := by omega
    rw [e2] at h3
    unfold textR textA; rw [e, h3, h4]
    exact taken_few s.length ⟨s.take (k - 2), false⟩ (by simp; omega)
end WireMath

/- The contracts of the reference's Num and Text, and the walk of WireCut. -/
namespace Go.Proofs.YtggmogjgaoobjaaDoor
open Go.RowKit BaseMath WireMath

set_option maxRecDepth 100000 in
theorem new_row (w : World) (l : List By) (n : Nat) (hn : l.length = n) (hm : n ≤ 1000000) : RowRel w 5 (l.map vb) (.slice (some ⟨w.heap.size, 0, .none⟩) n n) (w.alloc (.cells (l.map vb).toArray 5)) :=
  ⟨(Below.refl _ _).alloc (Nat.le_refl _) _, by simp, .inr ⟨w.heap.size, n, _, by simp [hn], Nat.le_refl _, Blk.new w 5 _, by simp; omega, by unfold maxLen; omega, by simp [hn], by rw [Nat.mul_one, List.length_map]; exact List.take_of_length_le (by simp)⟩⟩
set_option maxRecDepth 100000 in
theorem num_hi (n : Int) : IntKind.u64.wrap (((IntKind.u64.wrap n).tmod 65536).tdiv 256) % 256 = n / 256 % 256 := by
  rw [IntKind.wrap_u64 n, Int.tmod_eq_emod_of_nonneg (by omega), Int.tdiv_eq_ediv_of_nonneg (by omega), IntKind.wrap_u64]; omega
set_option maxRecDepth 100000 in
theorem num_lo (n : Int) : (IntKind.u64.wrap n).tmod 256 % 256 = n % 256 := by
  rw [IntKind.wrap_u64 n, Int.tmod_eq_emod_of_nonneg (by omega)]; omega
set_option maxRecDepth 100000 in
set_option maxHeartbeats 1000000 in
theorem rnum_any (n : Int) (w : World) :
    Calls Tryd.prog 56 #[.int .i64 n] w fun e w' => ∃ v, e = .returned v ∧ RowRel w 5 ((numB n).map vb) v w' := by
  have HR := Lib.hid (new_row w (numB n) 2 rfl (by decide))
  rw [numB_cells] at HR
  go_enter Tryd.func56, Tryd.ntmps56
  go_wp2_with fail
  go_ret
  refine ⟨_, rfl, ?_⟩
  rw [num_hi n, num_lo n]
  exact HR.out
set_option maxRecDepth 100000 in
set_option maxHeartbeats 1000000 in
theorem rtextb_any (s : List By) (hs : s.length ≤ 500000) (w : World) :
    Calls Tryd.prog 22 #[.string ⟨s.toArray⟩] w fun e w' => ∃ v, e = .returned v ∧ RowRel w 5 ((textB s).map vb) v w' := by
  go_enter Tryd.func22, Tryd.ntmps22
  go_wp2_with fail
  refine (rnum_any s.length w).mono ?_
  rintro e w1 ⟨v1, rfl, hr⟩
  obtain ⟨c, w2, hcv, hsrc, hb⟩ := str_bytes s w1
  have HS := Lib.hid hsrc
  have HR : Hid (RowRel w 5 ((numB s.length).map vb) v1 w2) := ⟨hr.below.trans (hb.mono hr.below.size), ownsRow_keep hr.own (fun k hk => hb.block k (hr.own.lt k hk).2)⟩
  clear hr hsrc hb
  have hsz := HR.out.below.size
  go_wp2_with (refine wpList_append_x rfl (.tmp 5) (.tmp 7) rfl w.heap.size v1 (numB s.length) rfl HR.out.own (some ⟨w1.heap.size, 0, none⟩) c s rfl (fun h => by cases h) HS.out (by rw [numB_length]; omega) hsz ?_)
  intro v3 w3 ho hg hk
  rw [← List.map_append, ← List.length_append] at ho
  have HR3 : Hid (RowRel w 5 ((textB s).map vb) v3 w3) := ⟨HR.out.below.grown hg hsz (fun k hk => (HR.out.own.lt k hk).1), by rw [List.length_map]; exact ho⟩
  clear ho hg hk HR HS
  go_wp2_with fail
  go_ret
  exact ⟨_, rfl, HR3.out⟩
end Go.Proofs.YtggmogjgaoobjaaDoor
