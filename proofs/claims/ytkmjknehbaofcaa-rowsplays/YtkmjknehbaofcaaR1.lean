/- Tables in memory; the contracts of New, Get, Len, Mark, note, Set, Drop, Done. -/
import Derived.Test.YtkmjknehbaofcaaW4
import Derived.Test.YtkmjknehbaofcaaNMath
import Derived.Maps.OwnSet
import Derived.RangeFuncBox
import Derived.StringKeys
namespace Go.Proofs.Ytkmjknehbaofcaa
open Go.RowKit Go.Maps Go.WideShapes Go.MapKept Go.WideMaps Go.ChangeMaps BaseMath WireMath NameMath

abbrev DU := DataW Unit
abbrev kl (k : List By) : Lit := .string k
def numD (D : DU) (k : List By) : Int := match D.atKey (kl k) (.lit (.int .i64 0)) with | .lit (.int _ c) => (if (Lit.int .i64 c).wf = true then c else 0) | _ => 0
theorem numD_is {D : DU} {k : List By} {c : Int} (h : D.atKey (kl k) (.lit (.int .i64 0)) = .lit (.int .i64 c)) (hw : (Lit.int .i64 c).wf = true) : numD D k = c := by unfold numD; rw [h]; exact if_pos hw
theorem numD_wf (D : DU) (k : List By) : (Lit.int .i64 (numD D k)).wf = true := by
  unfold numD; split
  · split
    · assumption
    · decide
  · decide
def hasD (D : DU) (k : List By) : Bool := Maps.has D (kl k)
theorem key9 : Keyed Try.prog 9 := string_keyed Try.underlying9
theorem keyOf9 {k : List By} (h : k.length ≤ maxLen) : keyOf Try.prog 9 (vs k) = some (kl k) := by
  have := keyOf_string_mk (P := Try.prog) Try.underlying9 (s := ⟨k.toArray⟩) (by simpa [ByteArray.size] using h)
  simpa using this
/-- what a key had ahead of something that was done to it -/
structure Fo where
  k : List By
  v : Int
  t : Bool
  hk : k.length ≤ maxLen
  hv : (Lit.int .i64 v).wf = true
def Fo.vals (f : Fo) : List Value := [vs f.k, .int .i64 f.v, .bool f.t]
def cellsF (J : List Fo) : List Value := J.flatMap Fo.vals
theorem cellsF_length (J : List Fo) : (cellsF J).length = J.length * 3 := by
  unfold cellsF; induction J with
  | nil => rfl
  | cons f J ih => rw [List.flatMap_cons, List.length_append, ih, List.length_cons]; simp [Fo.vals]; omega
theorem cellsF_snoc (J : List Fo) (f : Fo) : cellsF (J ++ [f]) = cellsF J ++ f.vals := by unfold cellsF; simp
/-- what is done to a table: rows of other things, and what lay below, stay -/
structure Step (base : Nat) (w w' : World) : Prop where
  os : w'.os = w.os
  tape : w'.tape = w.tape
  output : w'.output = w.output
  size : w.heap.size ≤ w'.heap.size
  low : ∀ c : Nat, c < base → w'.heap[c]? = w.heap[c]?
  other : ∀ (c : Nat) (o : Obj), w.heap[c]? = some o → (∀ (cs : Array Value) fz, o ≠ Obj.cells cs 65 fz) → (∀ (cs : Array Value) fz, o ≠ Obj.cells cs 76 fz) → (∀ (es : Array MapEntry) ck, o ≠ Obj.map es ck) → w'.heap[c]? = some o
theorem Step.refl (base : Nat) (w : World) : Step base w w := ⟨rfl, rfl, rfl, Nat.le_refl _, fun _ _ => rfl, fun _ _ h _ _ _ => h⟩
theorem Step.trans {base : Nat} {a b c : World} (h : Step base a b) (k : Step base b c) : Step base a c :=
  ⟨k.os.trans h.os, k.tape.trans h.tape, k.output.trans h.output, Nat.le_trans h.size k.size, fun i hi => (k.low i hi).trans (h.low i hi),
   fun i o hi h1 h2 h3 => k.other i o (h.other i o hi h1 h2 h3) h1 h2 h3⟩
theorem Step.below {base : Nat} {w w' : World} (h : Step base w w') : Below base w w' := ⟨h.os, h.tape, h.output, h.size, h.low⟩
theorem Step.of_below {base : Nat} {w w' : World} (h : Below w.heap.size w w') (hb : base ≤ w.heap.size) : Step base w w' :=
  ⟨h.os, h.tape, h.output, h.size, fun c hc => h.block c (by omega), fun c o ho _ _ _ => (h.block c (Array.getElem?_eq_some_iff.1 ho).1).trans ho⟩
theorem Step.of_grown {base : Nat} {w w' : World} {row : Option Nat} (h : w.grownBy w' row) (hb : base ≤ w.heap.size) (hr : ∀ r, row = some r → base ≤ r ∧ ((∃ cs fz, w.heap[r]? = some (.cells cs 65 fz)) ∨ (∃ cs fz, w.heap[r]? = some (.cells cs 76 fz)) ∨ ∃ es ck, w.heap[r]? = some (.map es ck))) : Step base w w' := by
  refine ⟨h.os, h.tape, h.output, h.size, fun c hc => h.block c (by omega) (fun e => by have := (hr c e.symm).1; omega), fun c o ho h1 h2 h3 => (h.block c (Array.getElem?_eq_some_iff.1 ho).1 (fun e => ?_)).trans ho⟩
  rcases (hr c e.symm).2 with ⟨cs, fz, hc⟩ | ⟨cs, fz, hc⟩ | ⟨es, ck, hc⟩
  · rw [hc] at ho; injection ho with ho; exact h1 _ _ ho.symm
  · rw [hc] at ho; injection ho with ho; exact h2 _ _ ho.symm
  · rw [hc] at ho; injection ho with ho; exact h3 _ _ ho.symm
/-- a table -/
structure TabAt (base : Nat) (w : World) (tb mb : Nat) (jv : Value) (D : DU) (J : List Fo) (n : Nat) : Prop where
  blk : Blk w tb 65 [.map (some mb), jv]
  tbase : base ≤ tb
  mbase : base ≤ mb
  map : w.ownsMap Try.prog 9 (plainElem (H := Unit) Try.prog 3) mb n D
  row : w.ownsRow base 76 3 jv J.length (cellsF J)
def Tab (base : Nat) (w : World) (tb : Nat) (D : DU) (J : List Fo) (n : Nat) : Prop := ∃ mb jv, TabAt base w tb mb jv D J n
theorem TabAt.base_le {base : Nat} {w : World} {tb mb : Nat} {jv : Value} {D : DU} {J : List Fo} {n : Nat} (h : TabAt base w tb mb jv D J n) : base ≤ w.heap.size := Nat.le_trans h.tbase (Nat.le_of_lt h.blk.lt)
theorem own_ne76 {w : World} {base g n : Nat} {v : Value} {xs cs : List Value} {T : TypeId} (hT : T ≠ 76) (h : Blk w g T cs) (ho : w.ownsRow base 76 3 v n xs) : v.ownBlock ≠ some g := by
  rcases ho.2 with ⟨rfl, _⟩ | ⟨k, cap, cur, rfl, _, hc, _⟩
  · intro e; cases e
  · intro e
    obtain rfl : k = g := by simpa [Value.ownBlock] using e
    unfold Blk at h; rw [hc] at h
    simp only [Option.some.injEq, Obj.cells.injEq] at h
    exact hT h.2.1.symm
theorem map_blk {w : World} {b n : Nat} {D : DU} (h : w.ownsMap Try.prog 9 (plainElem (H := Unit) Try.prog 3) b n D) : ∃ es ck, w.heap[b]? = some (.map es ck) := by
  obtain ⟨es, ck, hb, _⟩ := h; exact ⟨es, ck, hb⟩
theorem own_ne_map {w : World} {base b m n : Nat} {v : Value} {xs : List Value} {D : DU} (h : w.ownsMap Try.prog 9 (plainElem (H := Unit) Try.prog 3) b m D) (ho : w.ownsRow base 76 3 v n xs) : v.ownBlock ≠ some b := by
  obtain ⟨es, ck, hb⟩ := map_blk h
  rcases ho.2 with ⟨rfl, _⟩ | ⟨k, cap, cur, rfl, _, hc, _⟩
  · intro e; cases e
  · intro e
    obtain rfl : k = b := by simpa [Value.ownBlock] using e
    rw [hc] at hb; cases hb
theorem blk_ne_map {w : World} {g b m : Nat} {T : TypeId} {cs : List Value} {D : DU} (h : w.ownsMap Try.prog 9 (plainElem (H := Unit) Try.prog 3) b m D) (hb : Blk w g T cs) : b ≠ g := by
  obtain ⟨es, ck, hm⟩ := map_blk h
  rintro rfl
  unfold Blk at hb; rw [hm] at hb; cases hb
theorem row_blk {w : World} {base n : Nat} {v : Value} {xs : List Value} (ho : w.ownsRow base 76 3 v n xs) : ∀ r, v.ownBlock = some r → base ≤ r ∧ ∃ cs fz, w.heap[r]? = some (.cells cs 76 fz) := fun r hr => by
  rcases ho.2 with ⟨rfl, _⟩ | ⟨k, cap, cur, rfl, hb, hc, _⟩
  · cases hr
  · obtain rfl : k = r := by simpa [Value.ownBlock] using hr
    exact ⟨hb, _, _, hc⟩
/-- other memory turns, or is made -/
theorem TabAt.kept {base : Nat} {w w' : World} {tb mb : Nat} {jv : Value} {D : DU} {J : List Fo} {n : Nat} (h : TabAt base w tb mb jv D J n) {row : Option Nat} (hg : w.grownBy w' row) (h1 : row ≠ some tb) (h2 : row ≠ some mb) (h3 : ∀ r, jv.ownBlock = some r → row ≠ some r) : TabAt base w' tb mb jv D J n := by
  refine ⟨?_, h.tbase, h.mbase, h.map.kept hg (fun e => h2 e.symm), h.row.kept hg ?_⟩
  · unfold Blk; rw [hg.block tb h.blk.lt (fun e => h1 e.symm)]; exact h.blk
  · cases hj : jv.ownBlock with
    | none => exact .inl rfl
    | some r => exact .inr (fun e => h3 r hj e.symm)
theorem TabAt.alloc {base : Nat} {w : World} {tb mb : Nat} {jv : Value} {D : DU} {J : List Fo} {n : Nat} (h : TabAt base w tb mb jv D J n) (o : Obj) : TabAt base (w.alloc o) tb mb jv D J n :=
  h.kept (World.grownBy_alloc w o none) (by simp) (by simp) (fun _ _ => by simp)
theorem TabAt.below {base : Nat} {w w' : World} {tb mb : Nat} {jv : Value} {D : DU} {J : List Fo} {n : Nat} (h : TabAt base w tb mb jv D J n) (hb : Below w.heap.size w w') : TabAt base w' tb mb jv D J n :=
  h.kept (row := none) ⟨hb.os, hb.tape, hb.output, hb.size, fun c hc _ => hb.block c hc⟩ (by simp) (by simp) (fun _ _ => by simp)
theorem Tab.below {base : Nat} {w w' : World} {tb : Nat} {D : DU} {J : List Fo} {n : Nat} (h : Tab base w tb D J n) (hb : Below w.heap.size w w') : Tab base w' tb D J n := by
  obtain ⟨mb, jv, h⟩ := h; exact ⟨mb, jv, h.below hb⟩
set_option maxHeartbeats 1000000 in
set_option maxRecDepth 100000 in
theorem new_any (w : World) : Calls Try.prog 10 #[] w fun e w' => ∃ tb, e = .returned (.pointer (some ⟨tb, 0, none⟩)) ∧ Tab w.heap.size w' tb (.map []) [] 0 ∧ Below w.heap.size w w' := by
  have hmm := @run_makeMap Try.prog
  have hm0 := World.ownsMap_made w Try.prog 9 (plainElem (H := Unit) Try.prog 3)
  have HM0 := Lib.hid (hm0.alloc (.cells #[.map (some w.heap.size), .slice none 0 0] 65))
  have HB := Lib.hid (Blk.new (w.alloc (.map #[] 0)) 65 #[.map (some w.heap.size), .slice none 0 0])
  clear hm0
  go_enter Try.func10, Try.ntmps10
  go_wp2_with fail
  go_ret
  have hb := HB.out
  rw [World.size_alloc] at hb
  exact ⟨w.heap.size + 1, rfl, ⟨w.heap.size, .slice none 0 0, hb, by omega, Nat.le_refl _, HM0.out, World.ownsRow_nil _ _ _ _⟩, ((Below.refl _ w).alloc (Nat.le_refl _) _).alloc (by simp) _⟩
set_option maxHeartbeats 1000000 in
set_option maxRecDepth 100000 in
theorem get_any {base : Nat} {w : World} {tb : Nat} {D : DU} {J : List Fo} {n : Nat} (h : Tab base w tb D J n) (k : List By) (hk : k.length ≤ maxLen) :
    Calls Try.prog 19 #[.pointer (some ⟨tb, 0, none⟩), vs k] w fun e w' => e = .returned (.tuple #[.int .i64 (numD D k), .bool (hasD D k)]) ∧ w = w' := by
  obtain ⟨mb, jv, h⟩ := h
  have c0 : w.cell? ⟨tb, 0, none⟩ = some (.map (some mb)) := h.blk.cell 0
  have HM := Lib.hid h.map; have HK := Lib.hid (keyOf9 hk)
  clear h hk
  go_enter Try.func19, Try.ntmps19
  go_wp2_with (first | (at_lookup; refine wpList_lookup_own_ok_int _ rfl _ _ 62 rfl 9 3 .i64 key9 Try.underlying62 Try.underlying3 (Try.zeroValue3 _) mb n D rfl HM.out _ _ rfl HK.out ?_; intro c hat hwc))
  have hc : numD D k = c := numD_is hat hwc
  go_ret2
  exact ⟨by rw [hc]; rfl, rfl⟩
set_option maxHeartbeats 1000000 in
set_option maxRecDepth 100000 in
theorem mark_any {base : Nat} {w : World} {tb : Nat} {D : DU} {J : List Fo} {n : Nat} (h : Tab base w tb D J n) :
    Calls Try.prog 22 #[.pointer (some ⟨tb, 0, none⟩)] w fun e w' => e = .returned (.int .i64 (J.length : Int)) ∧ w = w' := by
  obtain ⟨mb, jv, h⟩ := h
  obtain ⟨A, c, rfl⟩ : ∃ A c, jv = .slice A J.length c := by
    rcases h.row.2 with ⟨rfl, h0⟩ | ⟨g, cap, cur, rfl, _⟩
    · exact ⟨none, 0, by rw [h0]⟩
    · exact ⟨_, _, rfl⟩
  have c0 : w.cell? ⟨tb, 1, none⟩ = some (.slice A J.length c) := h.blk.cell 1
  clear h
  go_enter Try.func22, Try.ntmps22
  go_wp2_with fail
  go_ret
  exact ⟨rfl, rfl⟩
set_option maxHeartbeats 1000000 in
set_option maxRecDepth 100000 in
theorem len_any {base : Nat} {w : World} {tb : Nat} {D : DU} {J : List Fo} {n : Nat} (h : Tab base w tb D J n) :
    Calls Try.prog 21 #[.pointer (some ⟨tb, 0, none⟩)] w fun e w' => e = .returned (.int .i64 (Maps.size D : Int)) ∧ w = w' := by
  obtain ⟨mb, jv, h⟩ := h
  have c0 : w.cell? ⟨tb, 0, none⟩ = some (.map (some mb)) := h.blk.cell 0
  have HM := Lib.hid h.map
  clear h
  go_enter Try.func21, Try.ntmps21
  go_wp2_with (first | (at_len; refine wpList_len_own _ rfl _ 62 rfl 9 3 Try.underlying62 (plainElem (H := Unit) Try.prog 3) mb n D rfl HM.out ?_))
  go_ret
  exact ⟨rfl, rfl⟩
set_option maxHeartbeats 1000000 in
set_option maxRecDepth 100000 in
theorem done_any {base : Nat} {w : World} {tb : Nat} {D : DU} {J : List Fo} {n : Nat} (h : Tab base w tb D J n) :
    Calls Try.prog 18 #[.pointer (some ⟨tb, 0, none⟩)] w fun e w' => e = .returned (.tuple #[]) ∧ Tab base w' tb D [] n ∧ Step base w w' := by
  obtain ⟨mb, jv, h⟩ := h
  have c0 : w.cell? ⟨tb, 1, none⟩ = some jv := h.blk.cell 1
  have f0 : w.frozen? ⟨tb, 1, none⟩ = false := h.blk.frozen 1
  have H := Lib.hid h
  clear h
  go_enter Try.func18, Try.ntmps18
  go_wp2_with fail
  have h := H.out
  go_end0
  refine ⟨rfl, ⟨mb, .slice none 0 0, ?_, h.tbase, h.mbase, h.map.setCell (blk_ne_map h.map h.blk) _, World.ownsRow_nil _ _ _ _⟩, ?_⟩
  · have := h.blk.set 1 (.slice none 0 0); simpa using this
  · refine ⟨rfl, rfl, rfl, by simp, fun c hc => ?_, fun c o ho h1 _ _ => ?_⟩
    · exact Below.heap_setCell _ _ _ _ (by have := h.tbase; show c ≠ tb; omega)
    · rw [Below.heap_setCell _ _ _ _ (show c ≠ tb from fun e => by subst e; have hb := h.blk; unfold Blk at hb; rw [hb] at ho; injection ho with ho; exact h1 _ _ ho.symm)]; exact ho
end Go.Proofs.Ytkmjknehbaofcaa
