/- The contracts of layOuts and Encode. -/
import Derived.Test.YtghbabnekalgpaaDoorQ2
namespace Go.Proofs.YtghbabnekalgpaaDoor
open Go.RowKit BaseMath WireMath ReqMath

/-- while something is laid: the writer, the box -/
structure LIn (w : World) (base g : Nat) (v : Value) (t : TypeId) (cs : List Value) (W : World) (u : Value) (l : List By) : Prop where
  wr : WrIs W base g u l
  box : Blk W w.heap.size t cs
  step : WrStep g v u w W
  ne : u.ownBlock ≠ some w.heap.size
  glt : g < w.heap.size
theorem LIn.next {w W W' : World} {base g : Nat} {v u u' : Value} {t : TypeId} {cs : List Value} {l l' : List By} (h : LIn w base g v t cs W u l) (h1 : WrIs W' base g u' l') (h2 : WrStep g u u' W W') : LIn w base g v t cs W' u' l' := by
  have hlt := h.box.lt
  refine ⟨h1, ?_, h.step.trans h2, fun e => ?_, h.glt⟩
  · unfold Blk; rw [h2.other _ hlt (by have := h.glt; omega) h.ne]; exact h.box
  · rcases h2.own _ e with h3 | h3
    · exact h.ne h3
    · omega
theorem LIn.below {w W : World} {base g : Nat} {v u : Value} {t : TypeId} {cs : List Value} {l l0 : List By} (h : LIn w base g v t cs W u l) (h0 : WrIs w base g v l0) : Below base w W := h.step.below h0 h0.base_lt
theorem LIn.new {w : World} {base g : Nat} {v : Value} {l : List By} {t : TypeId} (h : WrIs w base g v l) (cs : Array Value) : LIn w base g v t cs.toList (w.alloc (.cells cs t)) v l := by
  have hb : Below w.heap.size w (w.alloc (.cells cs t)) := (Below.refl _ _).alloc (Nat.le_refl _) _
  refine ⟨h.below hb, Blk.new w t cs, WrStep.of_below hb, fun e => ?_, h.blk.lt⟩
  have := (h.own.lt _ e).2; omega
def outN (l : List OutV) (k : Nat) : List By := (l.take k).flatMap outB
theorem outN_succ (l : List OutV) (k : Nat) (h : k < l.length) : outN l (k + 1) = outN l k ++ outB l[k] := by
  unfold outN; rw [List.take_succ_eq_append_getElem h, List.flatMap_append, List.flatMap_cons, List.flatMap_nil, List.append_nil]
theorem outN_le (l : List OutV) (k : Nat) (h : k < l.length) : (outN l k).length + (outB l[k]).length ≤ (l.flatMap outB).length := by
  have e : l.flatMap outB = outN l (k + 1) ++ (l.drop (k + 1)).flatMap outB := by
    unfold outN; rw [← List.flatMap_append, List.take_append_drop]
  rw [e, outN_succ l k h, List.length_append, List.length_append]; omega
theorem outB_length (o : OutV) : (outB o).length = (itemB o.name o.arch o.refs).length + 1 + o.needs.length := by unfold outB; simp; omega
def needN (l : List Int) (k : Nat) : List By := (l.take k).map byteI
theorem needN_succ (l : List Int) (k : Nat) (h : k < l.length) : needN l (k + 1) = needN l k ++ [byteI l[k]] := by
  unfold needN; rw [List.take_succ_eq_append_getElem h, List.map_append, List.map_singleton]
theorem needN_length (l : List Int) (k : Nat) (h : k ≤ l.length) : (needN l k).length = k := by unfold needN; simp; omega
theorem outs_len : ∀ l : List OutV, l.length ≤ (l.flatMap outB).length
  | [] => Nat.le_refl _
  | x :: l => by
    have := outs_len l
    rw [List.flatMap_cons, List.length_append, outB_length, List.length_cons]; omega
theorem vb_byteI (n : Int) : vb (byteI n) = .int .u8 (n % 256) := vb_ofInt n
set_option maxHeartbeats 4000000 in
set_option maxRecDepth 100000 in
theorem layouts_any (w0 : World) (base g : Nat) (v : Value) (l : List By) (os : List OutV) (O : Option Addr) (co : Nat) (hrs : ∀ x ∈ os, x.refs.length ≤ 255) (hbd : l.length + (outsB os).length ≤ 1000000) (w : World)
    (h : WrIs w base g v l) (hO : OutsAt w0 O os) (hb0 : Below w0.heap.size w0 w) (hw0 : w0.heap.size ≤ base) :
    Calls Tryd.prog 43 #[.pointer (some ⟨g, 0, none⟩), .slice O os.length co] w (LayPost w base g v (l ++ outsB os)) := by
  have hbd' : l.length + 1 + (os.flatMap outB).length ≤ 1000000 := by unfold outsB at hbd; simp only [List.length_append, List.length_cons, List.length_nil] at hbd; omega
  have H := Lib.hid h; have HO := Lib.hid hO; have HRS := Lib.hid hrs; have HB0 := Lib.hid hb0
  have HC1 : Hid (Calls Tryd.prog 39 #[.pointer (some ⟨g, 0, none⟩), .int .u8 ((os.length : Int) % 256)] w (WrPost w base g v (l ++ [UInt8.ofNat os.length]))) := by
    have := wbyte_any base g v l (UInt8.ofNat os.length) (by omega) w h
    rw [vb_mod] at this; exact this
  have hbs := h.base_lt
  have hol := outs_len os
  clear h hO hrs hb0 hbd
  go_enter Tryd.func43, Tryd.ntmps43
  go_wp2_with fail
  refine HC1.out.mono ?_
  rintro e w1 ⟨rfl, v1, h1, h2⟩
  have H1 : Hid (WrIs w1 base g v1 (l ++ [UInt8.ofNat os.length] ++ outN os 0)) := by show WrIs _ _ _ _ _; simpa [outN] using h1
  have HT := Lib.hid h2
  clear h1 h2 HC1
  go_wp2_with fail
  go_loopw [15] (fun vi wr => ∃ k : Nat, k ≤ os.length ∧ vi = .int .i64 k ∧ Hid (∃ v', WrIs wr base g v' (l ++ [UInt8.ofNat os.length] ++ outN os k) ∧ WrStep g v v' w wr)) (fun vi _ => os.length - (intOf vi).toNat)
  case atStart => exact ⟨0, Nat.zero_le _, rfl, v1, H1.out, HT.out⟩
  case round =>
    clear H1 HT
    obtain ⟨k, hk, rfl, HX⟩ := hrel
    rename World => W0
    obtain ⟨u0, h1, h2⟩ := HX.out
    have HR := Lib.hid h1; have HT := Lib.hid h2
    have HBB : Hid (Below w0.heap.size w0 W0) := HB0.out.trans ((h2.below H.out hbs).mono hw0)
    have hb0s := HR.out.base_lt
    clear HX h1 h2
    by_cases hlt : k < os.length
    · obtain ⟨b, o, rfl, hc⟩ := (HO.out.below HBB.out) (by omega)
      obtain ⟨A, ca, R, cr, M, cm, c0, c1, c2, c3, h4⟩ := hc k hlt
      obtain ⟨_, _, hOe, hc0⟩ := HO.out (by omega)
      cases hOe
      obtain ⟨A', ca', R', cr', M', cm', d0, d1, d2, d3, h4'⟩ := hc0 k hlt
      have hbl : b < w0.heap.size := block_of_cell d0
      have hh : ∀ q, W0.cell? ⟨b, q, none⟩ = w0.cell? ⟨b, q, none⟩ := fun q => HBB.out.cell (p := ⟨b, q, none⟩) hbl
      rw [hh, d1] at c1; rw [hh, d2] at c2; rw [hh, d3] at c3
      obtain ⟨rfl, rfl⟩ : A' = A ∧ ca' = ca := by cases c1; exact ⟨rfl, rfl⟩
      obtain ⟨rfl, rfl⟩ : R' = R ∧ cr' = cr := by cases c2; exact ⟨rfl, rfl⟩
      obtain ⟨rfl, rfl⟩ : M' = M ∧ cm' = cm := by cases c3; exact ⟨rfl, rfl⟩
      clear c1 c2 c3
      rw [← hh] at d1 d2 d3
      have c1 := d1; have c2 := d2; have c3 := d3
      have H4 := Lib.hid h4'
      have hle := outN_le os k hlt
      rw [outB_length] at hle
      have HF := Lib.hid (outN_succ os k hlt)
      have HRL := HRS.out os[k] (List.getElem_mem hlt)
      clear hc hc0 d0 d1 d2 d3 h4 h4' hh
      generalize os[k] = x at *
      have hL := LIn.new (t := 57) HR.out #[vs x.name, .slice A' x.arch.length ca', .slice R' x.refs.length cr', .slice M' x.needs.length cm']
      have HL := Lib.hid hL
      have b0 := hL.box.cell 0; have b1 := hL.box.cell 1; have b2 := hL.box.cell 2; have b3 := hL.box.cell 3
      simp only [List.getElem?_cons_zero, List.getElem?_cons_succ] at b0 b1 b2 b3
      have HBX : Hid (Below w0.heap.size w0 (W0.alloc (.cells #[vs x.name, .slice A' x.arch.length ca', .slice R' x.refs.length cr', .slice M' x.needs.length cm'] 57))) := HBB.out.trans ((hL.below HR.out).mono hw0)
      clear hL
      go_wp2_with fail
      refine (layitem_any w0 base g u0 (l ++ [UInt8.ofNat os.length] ++ outN os k) x.name x.arch x.refs A' ca' R' cr' HRL (by simp; omega) _ HL.out.wr H4.out.1 H4.out.2.1 HBX.out hw0).mono ?_
      rintro e w2 ⟨rfl, v2, h1, h2⟩
      have HL2 := Lib.hid (HL.out.next h1 h2)
      clear h1 h2 HL HBX b0 b1 b2 b3 c0 c1 c2 c3
      have b3 := HL2.out.box.cell 3
      simp only [List.getElem?_cons_zero, List.getElem?_cons_succ] at b3
      have HC2 : Hid (Calls Tryd.prog 39 #[.pointer (some ⟨g, 0, none⟩), .int .u8 ((x.needs.length : Int) % 256)] w2 (WrPost w2 base g v2 (l ++ [UInt8.ofNat os.length] ++ outN os k ++ itemB x.name x.arch x.refs ++ [UInt8.ofNat x.needs.length]))) := by
        have := wbyte_any base g v2 (l ++ [UInt8.ofNat os.length] ++ outN os k ++ itemB x.name x.arch x.refs) (UInt8.ofNat x.needs.length) (by simp; omega) w2 HL2.out.wr
        rw [vb_mod] at this; exact this
      go_wp2_with fail
      refine HC2.out.mono ?_
      rintro e w3 ⟨rfl, v3, h1, h2⟩
      have HL3 := Lib.hid (HL2.out.next h1 h2)
      clear h1 h2 HL2 b3 HC2
      have b3 := HL3.out.box.cell 3
      simp only [List.getElem?_cons_zero, List.getElem?_cons_succ] at b3
      go_wp2_with fail
      clear b3
      go_loopw [36] (fun vj wr => ∃ j : Nat, j ≤ x.needs.length ∧ vj = .int .i64 j ∧ Hid (∃ u, LIn W0 base g u0 57 [vs x.name, .slice A' x.arch.length ca', .slice R' x.refs.length cr', .slice M' x.needs.length cm'] wr u (l ++ [UInt8.ofNat os.length] ++ outN os k ++ itemB x.name x.arch x.refs ++ [UInt8.ofNat x.needs.length] ++ needN x.needs j))) (fun vj _ => x.needs.length - (intOf vj).toNat)
      case atStart => exact ⟨0, Nat.zero_le _, rfl, v3, by have h := HL3.out; simpa [needN] using h⟩
      case round =>
        clear HL3
        obtain ⟨j, hj, rfl, HX⟩ := hrel
        rename World => W5
        obtain ⟨u5, hL⟩ := HX.out
        have HL := Lib.hid hL
        clear hL HX
        by_cases hjt : j < x.needs.length
        · have hbw : Below w0.heap.size w0 W5 := HBB.out.trans ((HL.out.below HR.out).mono hw0)
          obtain ⟨nb, no, hMe, hnc⟩ := (H4.out.2.2.below hbw) (by omega)
          subst hMe
          have cn := hnc j hjt
          have HNF := Lib.hid (needN_succ x.needs j hjt)
          have HLEN := needN_length x.needs j hj
          generalize x.needs[j] = z at *
          have HC5 : Hid (Calls Tryd.prog 39 #[.pointer (some ⟨g, 0, none⟩), .int .u8 (z % 256)] W5 (WrPost W5 base g u5 (l ++ [UInt8.ofNat os.length] ++ outN os k ++ itemB x.name x.arch x.refs ++ [UInt8.ofNat x.needs.length] ++ needN x.needs j ++ [byteI z]))) := by
            have := wbyte_any base g u5 (l ++ [UInt8.ofNat os.length] ++ outN os k ++ itemB x.name x.arch x.refs ++ [UInt8.ofNat x.needs.length] ++ needN x.needs j) (byteI z) (by simp; omega) W5 HL.out.wr
            rw [vb_byteI] at this; exact this
          clear hbw hnc
          go_wp2_with fail
          refine HC5.out.mono ?_
          rintro e w6 ⟨rfl, v6, h1, h2⟩
          have HN : Hid (∃ u, LIn W0 base g u0 57 [vs x.name, .slice A' x.arch.length ca', .slice R' x.refs.length cr', .slice (some ⟨nb, no, none⟩) x.needs.length cm'] w6 u (l ++ [UInt8.ofNat os.length] ++ outN os k ++ itemB x.name x.arch x.refs ++ [UInt8.ofNat x.needs.length] ++ needN x.needs (j + 1))) := ⟨v6, by rw [HNF.out, ← List.append_assoc]; exact HL.out.next h1 h2⟩
          clear h1 h2 HC5 HL
          go_wp2_with fail
          go_roundw
          case rel => exact ⟨j + 1, by omega, by go_num, HN.out⟩
          case measure => simp [intOf]; omega
        · obtain rfl : j = x.needs.length := by omega
          have HN : Hid (∃ v', WrIs W5 base g v' (l ++ [UInt8.ofNat os.length] ++ outN os (k + 1)) ∧ WrStep g v v' w W5) := by
            refine ⟨u5, ?_, HT.out.trans HL.out.step⟩
            have := HL.out.wr
            rw [HF.out]
            unfold outB
            simpa [needN, List.append_assoc] using this
          go_wp2_with fail
          go_roundw
          case rel => exact ⟨k + 1, by omega, by go_num, HN.out⟩
          case measure => simp [intOf]; omega
    · obtain rfl : k = os.length := by omega
      go_wp2_with fail
      refine bodyPost_end (v := .tuple #[]) (by simp [results, Tryd.results43]) rfl ⟨rfl, u0, ?_, HT.out⟩
      have := HR.out
      unfold outN at this
      rw [List.take_length] at this
      unfold outsB
      rw [← List.append_assoc]; exact this
/-- the bytes of a request, as Encode answers them -/
def EncPost (w : World) (l : List By) (e : Ending) (w' : World) : Prop := ∃ v, e = .returned v ∧ RowRel w 5 (l.map vb) v w'
theorem writer_nil (w : World) : WrIs (w.alloc (.cells #[.slice none 0 0] 88)) w.heap.size w.heap.size (.slice none 0 0) [] := by
  refine ⟨?_, World.ownsRow_nil _ _ _ _, Nat.le_refl _⟩
  exact Blk.new w 88 _
end Go.Proofs.YtghbabnekalgpaaDoor
