/- The contract of the reference's New: the tables, made from primes. -/
import Derived.Test.YthocaimiofehkaaHW14
namespace Go.Proofs.Ythocaimiofehkaa.Hs
open Go.RowKit HashMath

/-- a Hasher whose tables are those of SHA-256 -/
def HasherIs (w : World) (t : Value) : Prop :=
  ∃ gh ch gk ck, t = .agg #[.slice (some ⟨gh, 0, none⟩) 8 ch, .slice (some ⟨gk, 0, none⟩) 64 ck] ∧ w.rangeAt gh 0 (cellsS H0) ∧ w.rangeAt gk 0 (K0.map vw)
theorem rangeAt_below {B b : Nat} {w w' : World} {cs : List Value} (h : w.rangeAt b 0 cs) (hb : Below B w w') (hB : b < B) : w'.rangeAt b 0 cs := fun j v hv => by
  rw [hb.cell (p := ⟨b, 0 + j, none⟩) hB]; exact h j v hv
theorem rangeAt_lt {b : Nat} {w : World} {cs : List Value} (h : w.rangeAt b 0 cs) (h0 : 0 < cs.length) : b < w.heap.size := block_of_cell (h 0 _ (List.getElem?_eq_getElem h0))
theorem HasherIs.below {w w' : World} {t : Value} (h : HasherIs w t) (hb : Below w.heap.size w w') : HasherIs w' t := by
  obtain ⟨gh, ch, gk, ck, ht, h1, h2⟩ := h
  exact ⟨gh, ch, gk, ck, ht, rangeAt_below h1 hb (rangeAt_lt h1 (by simp)), rangeAt_below h2 hb (rangeAt_lt h2 (by simp [K0_length]))⟩
theorem own_range {w : World} {base : Nat} {v : Value} {n : Nat} {l : List Wd} (h : w.ownsRow base 68 1 v n (l.map vw)) (hl : l.length = n) (h0 : 0 < n) :
    ∃ g c, v = .slice (some ⟨g, 0, none⟩) n c ∧ w.rangeAt g 0 (l.map vw) := by
  obtain ⟨A, c, rfl, hf⟩ := own_form h
  obtain ⟨g, rfl, _, _, hc⟩ := hf h0
  exact ⟨g, c, rfl, fun j u hu => by rw [Nat.zero_add, hc j (by have := (List.getElem?_eq_some_iff.1 hu).1; simp at this; omega)]; exact hu⟩
theorem info26 : (Try.prog.info? 47).map (fun i => (i.zero, i.size)) = some (some (.agg #[.slice none 0 0, .slice none 0 0]), 2) := by kernel_rfl
/-- A RESULT THROUGH A CELL: a struct by value -/
theorem bodyPost_row {P : Program} {w : World} {b : Nat} {t : TypeId} {cs : List Value} {fn : Func} {R : Ending → World → Prop} {a : Act} {p : Tmp} {d : TypeDesc} (hf : fn.results = #[.cell p t]) (hp : a.tmps.getD p undef = .pointer (some ⟨b, 0, none⟩))
    (h : Blk w b t cs) (hu : P.underlying t = some d) (hr : d.isRow = true) (hi : (P.info? t).map (·.size) = some cs.length) (hd : a.defers = []) (hR : R (.returned (.agg cs.toArray)) w) : bodyPost P fn R .ret a w := by
  refine bodyPost_ret (v := .agg cs.toArray) ?_ hd hR
  rw [results_cell_one hf, hp]
  simp only [asAddr, Sem.run_pure, Result.andThen, run_loadVar_mid w b 0 t cs d h.range hu hr hi]

set_option maxHeartbeats 1000000 in
theorem new_any (w : World) :
    Calls Try.prog 23 #[] w fun e w' => ∃ t, e = .returned t ∧ HasherIs w' t ∧ Below w.heap.size w w' := by
  obtain ⟨hz26, hs26⟩ := zero_of_info info26
  have HZ := Lib.hid hs26; clear hs26
  go_enter Try.func23, Try.ntmps23
  go_wp2_with fail
  generalize hW1 : w.alloc (.cells #[.slice none 0 0, .slice none 0 0] 47) = W1
  have HB : Hid (Blk W1 w.heap.size 47 [.slice none 0 0, .slice none 0 0]) := by show Blk _ _ _ _; rw [← hW1]; exact Blk.new w 47 _
  have HL : Hid (Below w.heap.size w W1) := by show Below _ _ _; rw [← hW1]; exact (Below.refl _ _).alloc (Nat.le_refl _) _
  clear hW1
  refine (tables_any W1).mono ?_
  rintro e w2 ⟨w1, vh, vk, rfl, hb1, hr⟩
  obtain ⟨gh, ch, rfl, hrh⟩ := own_range (n := 8) hr.h rfl (by omega)
  obtain ⟨gk, ck, rfl, hrk⟩ := own_range (n := 64) hr.k rfl (by omega)
  have HB2 : Hid (Below W1.heap.size W1 w2) := hb1.trans (hr.below.mono hb1.size)
  have HBB := Lib.hid (HB.out.below HB2.out HB.out.lt)
  have hne1 : Hid (gh ≠ w.heap.size) := by
    have h1 := (hr.h.lt gh rfl).1
    have h2 := HB.out.lt
    have h3 := hb1.size
    show _ ≠ _; omega
  have hne2 : Hid (gk ≠ w.heap.size) := by
    have h1 := (hr.k.lt gk rfl).1
    have h2 := HB.out.lt
    have h3 := hb1.size
    show _ ≠ _; omega
  have HRH := Lib.hid hrh; have HRK := Lib.hid hrk
  have HBw : Hid (Below w.heap.size w w2) := HL.out.trans (HB2.out.mono HL.out.size)
  clear hb1 hr hrh hrk HB HL HB2
  go_wp2_with (refine wpList_store_blk (cs' := [.slice (some ⟨gh, 0, none⟩) 8 ch, .slice (some ⟨gk, 0, none⟩) 64 ck]) rfl (.tmp 0) (.tmp 9) rfl rfl rfl HBB.out rfl HZ.out rfl ?_; intro w3 hset; have HS := Lib.hid hset; clear hset)
  refine bodyPost_row rfl rfl HS.out.blk Try.underlying47 rfl HZ.out rfl ⟨_, rfl, ⟨gh, ch, gk, ck, rfl, ?_, ?_⟩, HS.out.below _ _ HBw.out (Nat.le_refl _)⟩
  · intro j v hv
    rw [HS.out.cell (p := ⟨gh, 0 + j, none⟩) hne1.out]; exact HRH.out j v hv
  · intro j v hv
    rw [HS.out.cell (p := ⟨gk, 0 + j, none⟩) hne2.out]; exact HRK.out j v hv
end Go.Proofs.Ythocaimiofehkaa.Hs
