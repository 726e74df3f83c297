/- The contracts of Texts and Bytes of the writer, of bytes.Clone, NewReader, and the document's example of wire. -/
import Derived.Test.YtghbabnekalgpaaDoorW3
namespace Go.Proofs.YtghbabnekalgpaaDoor
open Go.RowKit BaseMath WireMath

abbrev vs (s : List By) : Value := .string ⟨s.toArray⟩
/-- a slice of texts -/
def StrsIs (w : World) (A : Option Addr) (ls : List (List By)) : Prop := 0 < ls.length → ∃ b o, A = some ⟨b, o, none⟩ ∧ ∀ k (h : k < ls.length), w.cell? ⟨b, o + k, none⟩ = some (vs ls[k])
set_option maxRecDepth 100000 in
theorem StrsIs.below {w w' : World} {A : Option Addr} {ls : List (List By)} {B : Nat} (h : StrsIs w A ls) (hb : Below B w w') (hA : 0 < ls.length → ∀ a, A = some a → a.block < B) : StrsIs w' A ls := fun h0 => by
  obtain ⟨b, o, rfl, hc⟩ := h h0
  refine ⟨b, o, rfl, fun k hk => ?_⟩
  rw [World.cell?_of_block (w := w) (a := ⟨b, o + k, none⟩) (hb.block b (hA h0 _ rfl))]; exact hc k hk
set_option maxRecDepth 100000 in
theorem StrsIs.lt {w : World} {A : Option Addr} {ls : List (List By)} (h : StrsIs w A ls) : 0 < ls.length → ∀ a, A = some a → a.block < w.heap.size := fun h0 a ha => by
  obtain ⟨b, o, rfl, hc⟩ := h h0
  cases ha
  exact block_of_cell (hc 0 h0)
def flatN (ls : List (List By)) (k : Nat) : List By := (ls.take k).flatMap textB
set_option maxRecDepth 100000 in
theorem flatN_succ (ls : List (List By)) (k : Nat) (h : k < ls.length) : flatN ls (k + 1) = flatN ls k ++ textB ls[k] := by
  unfold flatN; rw [List.take_succ_eq_append_getElem h, List.flatMap_append, List.flatMap_cons, List.flatMap_nil, List.append_nil]
set_option maxRecDepth 100000 in
theorem flatN_all (ls : List (List By)) : flatN ls ls.length = ls.flatMap textB := by unfold flatN; rw [List.take_length]
set_option maxRecDepth 100000 in
theorem flatN_le (ls : List (List By)) (k : Nat) (h : k < ls.length) : (flatN ls k).length + 2 + ls[k].length ≤ (ls.flatMap textB).length := by
  have e : ls.flatMap textB = flatN ls (k + 1) ++ (ls.drop (k + 1)).flatMap textB := by
    unfold flatN; rw [← List.flatMap_append, List.take_append_drop]
  rw [e, flatN_succ ls k h, List.length_append, List.length_append]
  simp [textB, numB]; omega
set_option maxRecDepth 100000 in
set_option maxHeartbeats 1000000 in
theorem wtexts_any (base g : Nat) (v : Value) (l : List By) (A : Option Addr) (c : Nat) (ls : List (List By)) (hls : ls.length ≤ 255) (hbd : l.length + 1 + (ls.flatMap textB).length ≤ 1000000) (w : World) (h : WrIs w base g v l)
    (hA : StrsIs w A ls) (hAb : 0 < ls.length → ∀ a, A = some a → a.block < base) :
    Calls Tryd.prog 61 #[.pointer (some ⟨g, 0, none⟩), .slice A ls.length c] w (WrPost w base g v (l ++ textsB ls)) := by
  have H := Lib.hid h; have HA := Lib.hid hA; have HAb := Lib.hid hAb
  have hbw : base ≤ w.heap.size := Nat.le_trans h.lo (Nat.le_of_lt h.blk.lt)
  clear h hA hAb
  have HB1 : Hid (vb (UInt8.ofNat ls.length) = .int .u8 (ls.length : Nat)) := by
    show _ = _; rw [vb_ofNat, Nat.mod_eq_of_lt (by omega)]
  go_enter Tryd.func61, Tryd.ntmps61
  go_wp2_with fail
  rw [← HB1.out]
  refine (wbyte_any base g v l (UInt8.ofNat ls.length) (by omega) w H.out).mono ?_
  rintro e w1 ⟨rfl, v1, h1, h2⟩
  have HR : Hid (WrIs w1 base g v1 (l ++ [UInt8.ofNat ls.length] ++ flatN ls 0)) := by show WrIs _ _ _ _ _; simpa [flatN] using h1
  have HT := Lib.hid h2
  clear h1 h2
  go_wp2_with fail
  go_loopw [14] (fun vi wr => ∃ k : Nat, k ≤ ls.length ∧ vi = .int .i64 k ∧ Hid (∃ v', WrIs wr base g v' (l ++ [UInt8.ofNat ls.length] ++ flatN ls k) ∧ WrStep g v v' w wr)) (fun vi _ => ls.length - (intOf vi).toNat)
  case atStart => exact ⟨0, Nat.zero_le _, rfl, v1, HR.out, HT.out⟩
  case round =>
    clear HR HT
    obtain ⟨k, hk, rfl, HX⟩ := hrel
    rename World => W0
    obtain ⟨v0, h1, h2⟩ := HX.out
    have HR := Lib.hid h1; have HT := Lib.hid h2
    have hbb := h2.below H.out hbw
    clear HX h1 h2
    by_cases hlt : k < ls.length
    · obtain ⟨b, o, hAe, hc⟩ := (HA.out.below hbb HAb.out) (by omega)
      subst hAe
      have c0 := hc k hlt
      have hle := flatN_le ls k hlt
      have HF := Lib.hid (flatN_succ ls k hlt)
      generalize ls[k] = s at *
      clear hbb hc
      go_wp2_with fail
      refine (wtext_any base g v0 (l ++ [UInt8.ofNat ls.length] ++ flatN ls k) s (by simp; omega) W0 HR.out).mono ?_
      rintro e w2 ⟨rfl, v2, h1, h2⟩
      have HN : Hid (∃ v', WrIs w2 base g v' (l ++ [UInt8.ofNat ls.length] ++ flatN ls (k + 1)) ∧ WrStep g v v' w w2) := ⟨v2, by rw [HF.out, ← List.append_assoc]; exact h1, HT.out.trans h2⟩
      clear h1 h2
      go_wp2_with fail
      go_roundw
      case rel => exact ⟨k + 1, by omega, by go_num, HN.out⟩
      case measure => simp [intOf]; omega
    · obtain rfl : k = ls.length := by omega
      clear hbb
      go_wp2_with fail
      go_ret
      refine ⟨rfl, v0, ?_, HT.out⟩
      have := HR.out
      rw [flatN_all, List.append_assoc] at this
      exact this
set_option maxRecDepth 100000 in
theorem wtexts_nil1 (b : Nat) (s : List By) (w : World) (hc : w.cell? ⟨b, 0, none⟩ = some (vs s)) :
    Calls Tryd.prog 61 #[.pointer none, .slice (some ⟨b, 0, none⟩) 1 1] w fun e w' => e = .returned (.pointer none) ∧ Below w.heap.size w w' := by
  have hbl := block_of_cell hc
  simp only at hbl
  go_enter Tryd.func61, Tryd.ntmps61
  go_wp2_with fail
  refine (wbyte_nil 1 w).mono ?_
  rintro e w1 ⟨rfl, hb1⟩
  have c1 : w1.cell? ⟨b, 0, none⟩ = some (vs s) := by rw [hb1.cell (p := ⟨b, 0, none⟩) hbl]; exact hc
  have HB1 := Lib.hid hb1
  clear hb1
  go_wp2_with fail
  go_loopw [14] (fun vi wr => ∃ k : Nat, k ≤ 1 ∧ vi = .int .i64 k ∧ Hid (Below w.heap.size w wr)) (fun vi _ => 1 - (intOf vi).toNat)
  case atStart => exact ⟨0, Nat.zero_le _, rfl, HB1.out⟩
  case round =>
    clear HB1 c1
    obtain ⟨k, hk, rfl, HB⟩ := hrel
    rename World => W0
    by_cases hlt : k < 1
    · obtain rfl : k = 0 := by omega
      have c1 : W0.cell? ⟨b, 0, none⟩ = some (vs s) := by rw [HB.out.cell (p := ⟨b, 0, none⟩) hbl]; exact hc
      go_wp2_with fail
      refine (wtext_nil s W0).mono ?_
      rintro e w2 ⟨rfl, hb2⟩
      have HB2 : Hid (Below w.heap.size w w2) := HB.out.trans (hb2.mono HB.out.size)
      clear hb2
      go_wp2_with fail
      go_roundw
      case rel => exact ⟨1, by omega, by go_num, HB2.out⟩
      case measure => simp [intOf]
    · obtain rfl : k = 1 := by omega
      go_wp2_with fail
      go_ret
      exact ⟨rfl, HB.out⟩
set_option maxRecDepth 100000 in
theorem row_empty (w : World) : (w.alloc (.cells #[] 5)).ownsRow w.heap.size 5 1 (.slice (some ⟨w.heap.size, 0, none⟩) 0 0) ([] : List By).length (([] : List By).map vb) :=
  ⟨rfl, .inr ⟨w.heap.size, 0, #[], rfl, Nat.le_refl _, Blk.new w 5 #[], Nat.le_refl _, Nat.zero_le _, rfl, rfl⟩⟩
set_option maxRecDepth 100000 in
set_option maxHeartbeats 1000000 in
theorem clone_any (A : Option Addr) (c : Nat) (l : List By) (hl : l.length ≤ 1000000) (hN : A = none → c = 0) (w : World) (hA : SrcIs w A l) :
    Calls Tryd.prog 86 #[.slice A l.length c] w fun e w' => ∃ v, e = .returned v ∧ RowRel w 5 (l.map vb) v w' := by
  cases A with
  | none =>
    have hl : l = [] := by
      cases l with
      | nil => rfl
      | cons y r => obtain ⟨b, o, he, _⟩ := hA (by simp); cases he
    subst hl
    obtain rfl := hN rfl
    have heq : (binOp .eql 37 (.slice none 0 0) (.slice none 0 0)).run Tryd.prog w = .ok (.bool true) w := run_eql_nil_slice w 37 5 none 0 0 0 0 Tryd.underlying37
    clear hA hN
    go_enter Tryd.func86, Tryd.ntmps86
    go_wp2_with fail
    go_ret
    exact ⟨_, rfl, RowRel.none w 5⟩
  | some a =>
    have HA := Lib.hid (hA.below ((Below.refl w.heap.size w).alloc (Nat.le_refl _) (.cells #[] 5)))
    have heq : (binOp .eql 37 (.slice (some a) l.length c) (.slice none 0 0)).run Tryd.prog w = .ok (.bool false) w := run_eql_nil_slice w 37 5 (some a) l.length c 0 0 Tryd.underlying37
    clear hA hN
    go_enter Tryd.func86, Tryd.ntmps86
    go_wp2_with (refine wpList_append_x rfl (.tmp 5) (.tmp 6) rfl w.heap.size _ [] rfl (row_empty w) (some a) c l rfl (fun h => by cases h) HA.out (by simp; omega) (by simp) ?_)
    intro v1 w1 ho hg hk
    have HB : Hid (Below w.heap.size w w1) := ((Below.refl _ _).alloc (Nat.le_refl _) _).grown hg (by simp) (fun k hk => by simp [Value.ownBlock] at hk; omega)
    have HO : Hid (RowRel w 5 (l.map vb) v1 w1) := ⟨HB.out, by rw [List.length_map]; exact ho⟩
    clear ho hg hk
    go_wp2_with fail
    go_ret
    exact ⟨_, rfl, HO.out⟩
set_option maxRecDepth 100000 in
theorem wbytes_any (base g : Nat) (v : Value) (l : List By) (hl : l.length ≤ 1000000) (w : World) (h : WrIs w base g v l) :
    Calls Tryd.prog 44 #[.pointer (some ⟨g, 0, none⟩)] w fun e w' => ∃ v, e = .returned v ∧ RowRel w 5 (l.map vb) v w' := by
  have c0 := h.blk.cell 0
  simp only [List.getElem?_cons_zero] at c0
  obtain ⟨A, c, rfl, hs, hN, -, -⟩ := own_src h.own rfl
  have HS := Lib.hid hs; have HN := Lib.hid hN
  clear h hs hN
  go_enter Tryd.func44, Tryd.ntmps44
  go_wp2_with fail
  refine (clone_any A c l hl HN.out w HS.out).mono ?_
  rintro e w1 ⟨v1, rfl, hr⟩
  have HR := Lib.hid hr; clear hr
  go_wp2_with fail
  go_ret
  exact ⟨_, rfl, HR.out⟩
set_option maxRecDepth 100000 in
theorem wbytes_nil (w : World) : Calls Tryd.prog 44 #[.pointer none] w fun e w' => e = .returned (.slice none 0 0) ∧ w = w' := by
  go_enter Tryd.func44, Tryd.ntmps44
  go_wp2_with fail
  go_ret
  exact ⟨rfl, rfl⟩
/-- a new reader -/
def NewPost (l : List By) (w : World) (e : Ending) (w' : World) : Prop :=
  ∃ g, e = .returned (.pointer (some ⟨g, 0, none⟩)) ∧ w.heap.size ≤ g ∧ RdIs w' 141 g g ⟨l, false⟩ ∧ Below w.heap.size w w'
set_option maxRecDepth 100000 in
set_option maxHeartbeats 1000000 in
theorem reader_any (A : Option Addr) (c : Nat) (l : List By) (hl : l.length ≤ 1000000) (hN : A = none → c = 0) (w : World) (hA : SrcIs w A l) :
    Calls Tryd.prog 47 #[.slice A l.length c] w (NewPost l w) := by
  have HA := Lib.hid hA; have HN := Lib.hid hN
  clear hA hN
  go_enter Tryd.func47, Tryd.ntmps47
  go_wp2_with fail
  refine (clone_any A c l hl HN.out w HA.out).mono ?_
  rintro e w1 ⟨v1, rfl, hr⟩
  obtain ⟨A1, c1, rfl, hs1, hn1, hc1, hb1⟩ := hr.src
  have HB := Lib.hid hr.below
  have hsz := hr.below.size
  have HNEW : Hid (RdIs (w1.alloc (.cells #[.slice A1 l.length c1, .bool false] 141)) 141 w1.heap.size w1.heap.size ⟨l, false⟩) := by
    refine ⟨⟨A1, c1, Blk.new w1 141 _, hn1, hc1, ?_, fun _ a ha => (hb1 a ha).2⟩, Nat.le_refl _⟩
    exact hs1.below ((Below.refl _ _).alloc (Nat.le_refl _) _)
  have HB2 : Hid (Below w.heap.size w (w1.alloc (.cells #[.slice A1 l.length c1, .bool false] 141))) := HB.out.alloc hsz _
  clear hr hs1 hn1 hc1 hb1 HB
  go_wp2_with fail
  go_ret
  exact ⟨w1.heap.size, rfl, hsz, HNEW.out, HB2.out⟩
end Go.Proofs.YtghbabnekalgpaaDoor
