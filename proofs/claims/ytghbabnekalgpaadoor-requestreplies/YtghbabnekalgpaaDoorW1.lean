/- A reader in memory; the contracts of its leaves: fail, Left, OK, End, take. -/
import Derived.Test.YtghbabnekalgpaaDoorB2
import Derived.Test.YtghbabnekalgpaaDoorWMath
namespace Go.Proofs.YtghbabnekalgpaaDoor
open Go.RowKit BaseMath WireMath

/-- of what was there, only that block may have turned -/
structure OnlyAt (g : Nat) (w w' : World) : Prop where
  os : w'.os = w.os
  tape : w'.tape = w.tape
  output : w'.output = w.output
  size : w.heap.size ≤ w'.heap.size
  other : ∀ c, c < w.heap.size → c ≠ g → w'.heap[c]? = w.heap[c]?
set_option maxRecDepth 100000 in
theorem OnlyAt.refl (g : Nat) (w : World) : OnlyAt g w w := ⟨rfl, rfl, rfl, Nat.le_refl _, fun _ _ _ => rfl⟩
set_option maxRecDepth 100000 in
theorem OnlyAt.trans {g : Nat} {a b c : World} (h : OnlyAt g a b) (k : OnlyAt g b c) : OnlyAt g a c :=
  ⟨k.os.trans h.os, k.tape.trans h.tape, k.output.trans h.output, Nat.le_trans h.size k.size, fun i hi hn => (k.other i (Nat.lt_of_lt_of_le hi h.size) hn).trans (h.other i hi hn)⟩
set_option maxRecDepth 100000 in
theorem OnlyAt.setCell {g : Nat} {a w : World} (h : OnlyAt g a w) (o : Nat) (v : Value) : OnlyAt g a (w.setCell ⟨g, o, none⟩ v) :=
  ⟨h.os, h.tape, h.output, by rw [World.size_setCell]; exact h.size, fun c hc hn => by rw [Below.heap_setCell w ⟨g, o, none⟩ v c hn]; exact h.other c hc hn⟩
set_option maxRecDepth 100000 in
theorem OnlyAt.below {g B : Nat} {w w' : World} (h : OnlyAt g w w') (hB : B ≤ g) (hw : B ≤ w.heap.size) : Below B w w' :=
  ⟨h.os, h.tape, h.output, h.size, fun k hk => h.other k (by omega) (by omega)⟩
set_option maxRecDepth 100000 in
theorem OnlyAt.of_below {g : Nat} {w w' : World} (h : Below w.heap.size w w') : OnlyAt g w w' := ⟨h.os, h.tape, h.output, h.size, fun c hc _ => h.block c hc⟩
set_option maxRecDepth 100000 in
theorem BytesAt.same {w w' : World} {b o : Nat} {p : List By} (h : BytesAt w b o p) (hb : w'.heap[b]? = w.heap[b]?) : BytesAt w' b o p := fun k hk => by
  rw [World.cell?_of_block (w := w) (a := ⟨b, o + k, none⟩) hb]; exact h k hk
set_option maxRecDepth 100000 in
theorem SrcIs.only {w w' : World} {A : Option Addr} {p : List By} {g : Nat} (h : SrcIs w A p) (ho : OnlyAt g w w') (hne : 0 < p.length → ∀ a, A = some a → a.block ≠ g) : SrcIs w' A p := fun h0 => by
  obtain ⟨b, o, rfl, hc⟩ := h h0
  exact ⟨b, o, rfl, hc.same (ho.other b (hc.lt h0) (hne h0 _ rfl))⟩
set_option maxRecDepth 100000 in
theorem Blk.only {w w' : World} {b g : Nat} {t : TypeId} {cs : List Value} (h : Blk w b t cs) (ho : OnlyAt g w w') (hne : b ≠ g) : Blk w' b t cs := by
  unfold Blk; rw [ho.other b h.lt hne]; exact h

/-- a reader at block g (of type T), whose bytes lie below top -/
structure RdIs (w : World) (T : TypeId) (top g : Nat) (r : Rd) : Prop where
  ex : ∃ A c, Blk w g T [.slice A r.p.length c, .bool r.f] ∧ (A = none → c = 0) ∧ r.p.length ≤ c ∧ SrcIs w A r.p ∧ (0 < r.p.length → ∀ a, A = some a → a.block < top)
  le : top ≤ g
set_option maxRecDepth 100000 in
theorem RdIs.only {w w' : World} {T : TypeId} {top g g' : Nat} {r : Rd} (h : RdIs w T top g r) (ho : OnlyAt g' w w') (hne : g ≠ g') (ht : top ≤ g') : RdIs w' T top g r := by
  obtain ⟨A, c, h1, h2, h3, h4, h5⟩ := h.ex
  exact ⟨⟨A, c, Blk.only h1 ho hne, h2, h3, h4.only ho (fun h0 a ha => by have := h5 h0 a ha; omega), h5⟩, h.le⟩
set_option maxRecDepth 100000 in
theorem RdIs.below {w w' : World} {T : TypeId} {top g B : Nat} {r : Rd} (h : RdIs w T top g r) (hb : Below B w w') (hB : g < B) : RdIs w' T top g r := by
  obtain ⟨A, c, h1, h2, h3, h4, h5⟩ := h.ex
  refine ⟨⟨A, c, h1.below hb hB, h2, h3, fun h0 => ?_, h5⟩, h.le⟩
  obtain ⟨b, o, rfl, hc⟩ := h4 h0
  have := h5 h0 _ rfl
  have hle := h.le
  exact ⟨b, o, rfl, hc.same (hb.block b (by simp at this; omega))⟩
set_option maxRecDepth 100000 in
theorem RdIs.drewN {w : World} {T : TypeId} {top g : Nat} {r : Rd} (h : RdIs w T top g r) (q : Nat) : RdIs (w.drewN q) T top g r := ⟨h.ex, h.le⟩
set_option maxRecDepth 100000 in
theorem Blk.set2 {w : World} {b : Nat} {t : TypeId} {x y : Value} (h : Blk w b t [x, y]) (x' y' : Value) : Blk ((w.setCell ⟨b, 0, none⟩ x').setCell ⟨b, 1, none⟩ y') b t [x', y'] := by
  have h1 := (h.set 0 x').set 1 y'
  simpa using h1
set_option maxRecDepth 100000 in
set_option maxHeartbeats 1000000 in
theorem fail_any (top g : Nat) (r : Rd) (w : World) (h : RdIs w 141 top g r) :
    Calls Tryd.prog 94 #[.pointer (some ⟨g, 0, none⟩)] w fun e w' => e = .returned (.tuple #[]) ∧ RdIs w' 141 top g fails ∧ OnlyAt g w w' := by
  obtain ⟨A, c, hblk, -, -, -, -⟩ := h.ex
  have c0 := hblk.cell 0; have c1 := hblk.cell 1
  have f0 := hblk.frozen 0; have f1 := hblk.frozen 1
  simp only [List.getElem?_cons_zero, List.getElem?_cons_succ] at c0 c1
  have HN : Hid (RdIs ((w.setCell ⟨g, 0, none⟩ (.slice none 0 0)).setCell ⟨g, 1, none⟩ (.bool true)) 141 top g fails) :=
    ⟨⟨none, 0, Blk.set2 hblk _ _, fun _ => rfl, Nat.le_refl _, fun h => absurd h (by simp [fails]), fun _ a ha => by cases ha⟩, h.le⟩
  have HO : Hid (OnlyAt g w ((w.setCell ⟨g, 0, none⟩ (.slice none 0 0)).setCell ⟨g, 1, none⟩ (.bool true))) := ((OnlyAt.refl g w).setCell 0 _).setCell 1 _
  clear h hblk
  go_enter Tryd.func94, Tryd.ntmps94
  go_wp2_with fail
  exact bodyPost_end (v := .tuple #[]) (by simp [results, Tryd.results94]) rfl ⟨rfl, HN.out, HO.out⟩
set_option maxRecDepth 100000 in
theorem fail_nil (w : World) : Calls Tryd.prog 94 #[.pointer none] w fun e w' => e = .returned (.tuple #[]) ∧ w = w' := by
  go_enter Tryd.func94, Tryd.ntmps94
  go_wp2_with fail
  exact bodyPost_end (v := .tuple #[]) (by simp [results, Tryd.results94]) rfl ⟨rfl, rfl⟩
set_option maxRecDepth 100000 in
theorem left_any (top g : Nat) (r : Rd) (w : World) (h : RdIs w 141 top g r) :
    Calls Tryd.prog 91 #[.pointer (some ⟨g, 0, none⟩)] w fun e w' => e = .returned (.int .i64 (r.p.length : Nat)) ∧ w = w' := by
  obtain ⟨A, c, hblk, -, -, -, -⟩ := h.ex
  have c0 := hblk.cell 0
  simp only [List.getElem?_cons_zero] at c0
  clear h hblk
  go_enter Tryd.func91, Tryd.ntmps91
  go_wp2_with fail
  go_ret
  exact ⟨rfl, rfl⟩
set_option maxRecDepth 100000 in
theorem left_nil (w : World) : Calls Tryd.prog 91 #[.pointer none] w fun e w' => e = .returned (.int .i64 0) ∧ w = w' := by
  go_enter Tryd.func91, Tryd.ntmps91
  go_wp2_with fail
  go_ret
  exact ⟨rfl, rfl⟩
set_option maxRecDepth 100000 in
theorem ok_any (top g : Nat) (r : Rd) (w : World) (h : RdIs w 141 top g r) :
    Calls Tryd.prog 90 #[.pointer (some ⟨g, 0, none⟩)] w fun e w' => e = .returned (.bool !r.f) ∧ w = w' := by
  obtain ⟨A, c, hblk, -, -, -, -⟩ := h.ex
  have c1 := hblk.cell 1
  simp only [List.getElem?_cons_zero, List.getElem?_cons_succ] at c1
  clear h hblk
  go_enter Tryd.func90, Tryd.ntmps90
  go_wp2_with fail
  go_ret
  exact ⟨rfl, rfl⟩
set_option maxRecDepth 100000 in
theorem ok_nil (w : World) : Calls Tryd.prog 90 #[.pointer none] w fun e w' => e = .returned (.bool false) ∧ w = w' := by
  go_enter Tryd.func90, Tryd.ntmps90
  go_wp2_with fail
  go_ret
  exact ⟨rfl, rfl⟩
/-- what End answers -/
def endR (r : Rd) : Int := if r.f || decide (0 < r.p.length) then 2 else 0
set_option maxRecDepth 100000 in
set_option maxHeartbeats 1000000 in
theorem end_any (top g : Nat) (r : Rd) (w : World) (h : RdIs w 141 top g r) :
    Calls Tryd.prog 52 #[.pointer (some ⟨g, 0, none⟩)] w fun e w' => e = .returned (.int .i64 (endR r)) ∧ w = w' := by
  have H := Lib.hid h; clear h
  cases hf : r.f with
  | true =>
    have HE : Hid (endR r = 2) := by show _ = _; simp [endR, hf]
    go_enter Tryd.func52, Tryd.ntmps52
    go_wp2_with fail
    refine (ok_any top g r w H.out).mono ?_
    rintro e w1 ⟨rfl, rfl⟩
    go_wp2_with fail
    go_ret
    exact ⟨ret_int HE.out.symm, rfl⟩
  | false =>
    by_cases hl : 0 < r.p.length
    · have HE : Hid (endR r = 2) := by show _ = _; simp [endR, hf, hl]
      have hl' : (0 : Int) < r.p.length := by omega
      go_enter Tryd.func52, Tryd.ntmps52
      go_wp2_with fail
      refine (ok_any top g r w H.out).mono ?_
      rintro e w1 ⟨rfl, rfl⟩
      go_wp2_with fail
      refine (left_any top g r w H.out).mono ?_
      rintro e w1 ⟨rfl, rfl⟩
      go_wp2_with fail
      go_ret
      exact ⟨ret_int HE.out.symm, rfl⟩
    · have HE : Hid (endR r = 0) := by show _ = _; simp [endR, hf, hl]
      have hl' : ¬ (0 : Int) < r.p.length := by omega
      go_enter Tryd.func52, Tryd.ntmps52
      go_wp2_with fail
      refine (ok_any top g r w H.out).mono ?_
      rintro e w1 ⟨rfl, rfl⟩
      go_wp2_with fail
      refine (left_any top g r w H.out).mono ?_
      rintro e w1 ⟨rfl, rfl⟩
      go_wp2_with fail
      go_ret
      exact ⟨ret_int HE.out.symm, rfl⟩
set_option maxRecDepth 100000 in
theorem end_nil (w : World) : Calls Tryd.prog 52 #[.pointer none] w fun e w' => e = .returned (.int .i64 2) ∧ w = w' := by
  go_enter Tryd.func52, Tryd.ntmps52
  go_wp2_with fail
  refine (ok_nil w).mono ?_
  rintro e w1 ⟨rfl, rfl⟩
  go_wp2_with fail
  go_ret
  exact ⟨rfl, rfl⟩
/-- what take comes to -/
def TakePost (w : World) (T : TypeId) (top g n : Nat) (r : Rd) (e : Ending) (w' : World) : Prop :=
  ∃ A c, e = .returned (.slice A (taken n r).length c) ∧ SrcIs w' A (taken n r) ∧ RdIs w' T top g (after n r) ∧ OnlyAt g w w'
set_option maxRecDepth 100000 in
theorem take_close {w : World} {T : TypeId} {top g n b o c k c' : Nat} {r : Rd} {A' : Option Addr} (hblk : Blk w g T [.slice (some ⟨b, o, none⟩) r.p.length c, .bool r.f]) (hB : BytesAt w b o r.p) (hb : b < top) (hle : top ≤ g)
    (hn : n ≤ r.p.length) (h1 : ∀ a, A' = some a → a.block = b) (h2 : 0 < r.p.length - n → A' = some ⟨b, o + n, none⟩) (h3 : A' = none → c' = 0) (h4 : r.p.length - n ≤ c') :
    TakePost w T top g n r (.returned (.slice (some ⟨b, o, none⟩) n k)) (w.setCell ⟨g, 0, none⟩ (.slice A' (r.p.length - n) c')) := by
  obtain ⟨e1, e2⟩ := taken_all n r hn
  have ho : OnlyAt g w (w.setCell ⟨g, 0, none⟩ (.slice A' (r.p.length - n) c')) := (OnlyAt.refl g w).setCell 0 _
  have hB' : BytesAt (w.setCell ⟨g, 0, none⟩ (.slice A' (r.p.length - n) c')) b o r.p := hB.same (Below.heap_setCell w ⟨g, 0, none⟩ _ b (by simp; omega))
  refine ⟨some ⟨b, o, none⟩, k, by rw [e1]; simp; omega, ?_, ?_, ho⟩
  · rw [e1]; exact bytes_src (hB'.take n)
  · refine ⟨⟨A', c', ?_, h3, by rw [e2]; simpa using h4, ?_, fun _ a ha => by rw [h1 a ha]; exact hb⟩, hle⟩
    · have := hblk.set 0 (.slice A' (r.p.length - n) c')
      rw [e2]; simpa using this
    · rw [e2]; intro h0
      simp only [List.length_drop] at h0
      exact ⟨b, o + n, h2 h0, hB'.drop n⟩
set_option maxRecDepth 100000 in
set_option maxHeartbeats 1000000 in
theorem take_any (top g n : Nat) (hn : n ≤ 1000000) (r : Rd) (hr : r.p.length ≤ 1000000) (w : World) (h : RdIs w 141 top g r) :
    Calls Tryd.prog 88 #[.pointer (some ⟨g, 0, none⟩), .int .i64 n] w (TakePost w 141 top g n r) := by
  have H := Lib.hid h; clear h
  by_cases hlt : r.p.length < n
  · obtain ⟨e1, e2⟩ := taken_few n r hlt
    have HE1 := Lib.hid e1; have HE2 := Lib.hid e2
    have hlt' : (r.p.length : Int) < n := by omega
    clear e1 e2
    go_enter Tryd.func88, Tryd.ntmps88
    go_wp2_with fail
    refine (left_any top g r w H.out).mono ?_
    rintro e w1 ⟨rfl, rfl⟩
    go_wp2_with fail
    refine (fail_any top g r w H.out).mono ?_
    rintro e w1 ⟨rfl, h1, h2⟩
    have HR := Lib.hid h1; have HO := Lib.hid h2
    clear h1 h2
    go_wp2_with fail
    go_ret
    exact ⟨none, 0, by rw [HE1.out]; rfl, (fun h => by rw [HE1.out] at h; exact absurd h (by simp)), by rw [HE2.out]; exact HR.out, HO.out⟩
  · obtain ⟨e1, e2⟩ := taken_all n r (by omega)
    have HE1 := Lib.hid e1; have HE2 := Lib.hid e2
    have hlt' : ¬ ((r.p.length : Int) < n) := by omega
    clear e1 e2
    by_cases h0 : n = 0
    · subst h0
      have HE3 : Hid (after 0 r = r) := by show _ = _; rw [HE2.out]; simp
      go_enter Tryd.func88, Tryd.ntmps88
      go_wp2_with fail
      refine (left_any top g r w H.out).mono ?_
      rintro e w1 ⟨rfl, rfl⟩
      go_wp2_with fail
      go_ret
      exact ⟨none, 0, by rw [HE1.out]; rfl, (fun h => by rw [HE1.out] at h; exact absurd h (by simp)), by rw [HE3.out]; exact H.out, OnlyAt.refl g w⟩
    · have h0' : ((n : Int) == 0) = false := by rw [beq_eq_false_iff_ne]; omega
      obtain ⟨A, c, hblk, hN, hc, hS, hA⟩ := H.out.ex
      obtain ⟨b, o, rfl, hB⟩ := hS (by omega)
      have hbt := hA (by omega) _ rfl
      simp only at hbt
      have hle := H.out.le
      have c0 := hblk.cell 0
      have f0 := hblk.frozen 0
      simp only [List.getElem?_cons_zero] at c0
      have HBy := Lib.hid hB; have HBlk := Lib.hid hblk
      have hnc : n ≤ c := by omega
      have hnl : n ≤ r.p.length := by omega
      have HTL : Hid ((taken n r).length = n) := by show _ = _; rw [HE1.out]; simp; omega
      have HDL : Hid ((after n r).p.length = r.p.length - n) := by show _ = _; rw [HE2.out]; simp
      clear hB hblk hS hA hN
      by_cases hcap : c = n
      · subst hcap
        go_enter Tryd.func88, Tryd.ntmps88
        go_wp2_with fail
        refine (left_any top g r w H.out).mono ?_
        rintro e w1 ⟨rfl, rfl⟩
        go_wp2_with fail
        go_ret
        have := take_close (n := c) (k := c) (c' := 0) (A' := some ⟨b, o, none⟩) HBlk.out HBy.out hbt hle hnl (fun a ha => by cases ha; rfl) (fun h => by omega) (fun h => by cases h) (by omega)
        rw [show r.p.length - c = 0 by omega] at this
        exact this
      · have hcap' : n < c := by omega
        go_enter Tryd.func88, Tryd.ntmps88
        go_wp2_with fail
        refine (left_any top g r w H.out).mono ?_
        rintro e w1 ⟨rfl, rfl⟩
        go_wp2_with fail
        go_ret
        exact take_close (k := n) HBlk.out HBy.out hbt hle hnl (fun a ha => by cases ha; rfl) (fun _ => rfl) (fun h => by cases h) (by omega)
end Go.Proofs.YtghbabnekalgpaaDoor
