/- The contract of readOuts. -/
import Derived.Test.YtghbabnekalgpaaDoorQ5
namespace Go.Proofs.YtghbabnekalgpaaDoor
open Go.RowKit BaseMath WireMath ReqMath

theorem NeedsAt.onlyN {w w' : World} {A : Option Addr} {p : List Int} {g n : Nat} (h : NeedsAt w A p) (ho : OnlyAt g w w') (hn : New n A) (hg : g < n) : NeedsAt w' A p := fun h0 => by
  obtain ⟨b, o, rfl, hc⟩ := h h0
  have hb : b < w.heap.size := block_of_cell (hc 0 h0)
  have := hn _ rfl
  simp only at this
  refine ⟨b, o, rfl, fun k hk => ?_⟩
  rw [World.cell?_of_block (w := w) (a := ⟨b, o + k, none⟩) (ho.other b hb (by omega))]; exact hc k hk
theorem New.mono {n n' : Nat} {A : Option Addr} (h : New n' A) (hn : n ≤ n') : New n A := fun a ha => Nat.le_trans hn (h a ha)
/-- an Out in a row of cells at block m, its data behind m -/
def OutC (W : World) (m : Nat) (cs : List Value) (o : Nat) (x : OutV) : Prop := ∃ A ca R cr M cm, cs[o]? = some (vs x.name) ∧ cs[o + 1]? = some (.slice A x.arch.length ca) ∧ cs[o + 2]? = some (.slice R x.refs.length cr) ∧ cs[o + 3]? = some (.slice M x.needs.length cm) ∧
  OutV4 W x A R M ∧ New (m + 1) A ∧ New (m + 1) R ∧ New (m + 1) M
theorem OutC.only {W W' : World} {m g : Nat} {cs : List Value} {o : Nat} {x : OutV} (h : OutC W m cs o x) (ho : OnlyAt g W W') (hg : g ≤ m) : OutC W' m cs o x := by
  obtain ⟨A, ca, R, cr, M, cm, h0, h1, h2, h3, h4, n1, n2, n3⟩ := h
  exact ⟨A, ca, R, cr, M, cm, h0, h1, h2, h3, ⟨h4.1.onlyN ho n1 (by omega), h4.2.1.onlyN ho n2 (by omega), h4.2.2.onlyN ho n3 (by omega)⟩, n1, n2, n3⟩
theorem OutC.set {W : World} {m : Nat} {cs : List Value} {o p : Nat} {x : OutV} (h : OutC W m cs o x) (v : Value) (hp : o + 4 ≤ p) : OutC W m (cs.set p v) o x := by
  obtain ⟨A, ca, R, cr, M, cm, h0, h1, h2, h3, h4⟩ := h
  have hh : ∀ q, q < p → (cs.set p v)[q]? = cs[q]? := fun q hq => List.getElem?_set_ne (by omega)
  exact ⟨A, ca, R, cr, M, cm, by rw [hh _ (by omega)]; exact h0, by rw [hh _ (by omega)]; exact h1, by rw [hh _ (by omega)]; exact h2, by rw [hh _ (by omega)]; exact h3, h4⟩
theorem OnlyAt.setNew {g m p : Nat} {w W : World} (ho : OnlyAt g w W) (hm : w.heap.size ≤ m) (v : Value) : OnlyAt g w (W.setCell ⟨m, p, none⟩ v) :=
  ⟨ho.os, ho.tape, ho.output, by rw [World.size_setCell]; exact ho.size, fun c hc hne => by rw [Below.heap_setCell W ⟨m, p, none⟩ _ c (by simp; omega)]; exact ho.other c hc hne⟩
theorem info57 : (Tryd.prog.info? 57).map (fun i => (i.zero, i.size, i.bytes)) = some (some (.agg #[.string ⟨#[]⟩, .slice none 0 0, .slice none 0 0, .slice none 0 0]), 4, 88) := by kernel_rfl
theorem run_mkO (l : Nat) (hc : l ≤ 1000) (w : World) : ∃ z : List Value, z.length = l * 4 ∧ (Instr.makeSlice 38 (.int .i64 l) (.int .i64 l)).run Tryd.prog w = .ok (.slice (some ⟨w.heap.size, 0, none⟩) l l) (w.alloc (.cells z.toArray 57)) := by
  obtain ⟨i, hi, hz, hs, hb⟩ := info_parts info57
  have := run_make (P := Tryd.prog) w 38 57 i _ Tryd.underlying38 hi hz .i64 .i64 l l (by omega) (by omega) (by rw [hb]; omega) (by omega)
  rw [hs] at this
  simp only [Int.toNat_natCast] at this
  refine ⟨_, ?_, by rw [this]⟩
  simp [madeCells]
structure OtRel (w : World) (top g m n : Nat) (all : Option (List OutV × Rd)) (L k : Nat) (wr : World) : Prop where
  ex : ∃ (acc : List OutV) (cs : List Value) (r : Rd), acc.length = k ∧ cs.length = n * 4 ∧ Blk wr m 57 cs ∧ (∀ i (h : i < acc.length), OutC wr m cs (i * 4) acc[i]) ∧ RdIs wr 141 top g r ∧ r.ok ∧ r.p.length ≤ L ∧ outsGo (n - k) k acc r = all
  only : OnlyAt g w wr
theorem outsGo_some (n k : Nat) (acc : List OutV) (r : Rd) (hk : k < n) {ns : List Int} {r' : Rd} (h : needsR k (itemA r) = some (ns, r')) : outsGo (n - k) k acc r = outsGo (n - (k + 1)) (k + 1) (acc ++ [⟨iname r, iarch r, irefs r, ns⟩]) r' := by
  rw [show n - k = (n - (k + 1)) + 1 by omega]
  conv => lhs; unfold outsGo
  rw [h]
theorem outsGo_none (n k : Nat) (acc : List OutV) (r : Rd) (hk : k < n) (h : needsR k (itemA r) = none) : outsGo (n - k) k acc r = none := by
  rw [show n - k = (n - (k + 1)) + 1 by omega]
  unfold outsGo
  rw [h]
/-- Outs in memory, all of whose data lie in blocks from n on -/
def OutsN (w : World) (n : Nat) (O : Option Addr) (l : List OutV) : Prop := 0 < l.length → ∃ b o, O = some ⟨b, o, none⟩ ∧ n ≤ b ∧ ∀ i (h : i < l.length), ∃ A ca R cr M cm, w.cell? ⟨b, o + i * 4, none⟩ = some (vs l[i].name) ∧ w.cell? ⟨b, o + i * 4 + 1, none⟩ = some (.slice A l[i].arch.length ca) ∧
  w.cell? ⟨b, o + i * 4 + 2, none⟩ = some (.slice R l[i].refs.length cr) ∧ w.cell? ⟨b, o + i * 4 + 3, none⟩ = some (.slice M l[i].needs.length cm) ∧ OutV4 w l[i] A R M ∧ New n A ∧ New n R ∧ New n M
theorem OutsN.at {w : World} {n : Nat} {O : Option Addr} {l : List OutV} (h : OutsN w n O l) : OutsAt w O l := fun h0 => by
  obtain ⟨b, o, hO, -, hc⟩ := h h0
  refine ⟨b, o, hO, fun i hi => ?_⟩
  obtain ⟨A, ca, R, cr, M, cm, h0, h1, h2, h3, h4, -⟩ := hc i hi
  exact ⟨A, ca, R, cr, M, cm, h0, h1, h2, h3, h4⟩
theorem OutsN.nil (w : World) (n : Nat) (O : Option Addr) : OutsN w n O [] := fun h => absurd h (by simp)
theorem OutsN.only {w w' : World} {n g : Nat} {O : Option Addr} {l : List OutV} (h : OutsN w n O l) (ho : OnlyAt g w w') (hg : g < n) : OutsN w' n O l := fun h0 => by
  obtain ⟨b, o, hO, hb, hc⟩ := h h0
  refine ⟨b, o, hO, hb, fun i hi => ?_⟩
  obtain ⟨A, ca, R, cr, M, cm, h0, h1, h2, h3, h4, n1, n2, n3⟩ := hc i hi
  have hbl : b < w.heap.size := block_of_cell h0
  have hh : ∀ q, w'.cell? ⟨b, q, none⟩ = w.cell? ⟨b, q, none⟩ := fun q => World.cell?_of_block (w := w) (a := ⟨b, q, none⟩) (ho.other b hbl (by omega))
  exact ⟨A, ca, R, cr, M, cm, by rw [hh]; exact h0, by rw [hh]; exact h1, by rw [hh]; exact h2, by rw [hh]; exact h3, ⟨h4.1.onlyN ho n1 hg, h4.2.1.onlyN ho n2 hg, h4.2.2.onlyN ho n3 hg⟩, n1, n2, n3⟩
theorem OutsN.mono {w : World} {n n' : Nat} {O : Option Addr} {l : List OutV} (h : OutsN w n' O l) (hn : n ≤ n') : OutsN w n O l := fun h0 => by
  obtain ⟨b, o, hO, hb, hc⟩ := h h0
  refine ⟨b, o, hO, by omega, fun i hi => ?_⟩
  obtain ⟨A, ca, R, cr, M, cm, h0, h1, h2, h3, h4, n1, n2, n3⟩ := hc i hi
  exact ⟨A, ca, R, cr, M, cm, h0, h1, h2, h3, h4, n1.mono hn, n2.mono hn, n3.mono hn⟩
/-- what readOuts comes to -/
def OutsPost (w : World) (T : TypeId) (top g : Nat) (all : Option (List OutV × Rd)) (L : Nat) (e : Ending) (w' : World) : Prop :=
  OnlyAt g w w' ∧ ((all = none ∧ e = .returned (.tuple #[.slice none 0 0, .bool false])) ∨
    ∃ os r O co, all = some (os, r) ∧ e = .returned (.tuple #[.slice O os.length co, .bool true]) ∧ OutsN w' w.heap.size O os ∧ RdIs w' T top g r ∧ r.ok ∧ r.p.length ≤ L)
theorem outs_of {W : World} {m : Nat} {cs : List Value} {acc : List OutV} (hb : Blk W m 57 cs) (h : ∀ i (h : i < acc.length), OutC W m cs (i * 4) acc[i]) : OutsN W m (some ⟨m, 0, none⟩) acc := fun _ => by
  refine ⟨m, 0, rfl, Nat.le_refl _, fun i hi => ?_⟩
  obtain ⟨A, ca, R, cr, M, cm, h0, h1, h2, h3, h4, n1, n2, n3⟩ := h i hi
  rw [Nat.zero_add]
  exact ⟨A, ca, R, cr, M, cm, by rw [hb.cell]; exact h0, by rw [hb.cell]; exact h1, by rw [hb.cell]; exact h2, by rw [hb.cell]; exact h3, h4, n1.mono (by omega), n2.mono (by omega), n3.mono (by omega)⟩
set_option maxHeartbeats 4000000 in
set_option maxRecDepth 100000 in
theorem readouts_any (top g : Nat) (r : Rd) (hr : r.p.length ≤ 100000) (hok : r.ok) (w : World) (h : RdIs w 141 top g r) :
    Calls Tryd.prog 51 #[.pointer (some ⟨g, 0, none⟩)] w (OutsPost w 141 top g (outsR r) r.p.length) := by
  have H := Lib.hid h; have HK := Lib.hid (ok_after hok 1)
  have hgw := h.lt
  have hlt : numR 1 r < 256 := numR_lt 1 r
  have hal := after_len 1 r
  clear h hok
  go_enter Tryd.func51, Tryd.ntmps51
  go_wp2_with fail
  refine (byte_any top g r (by omega) w H.out).mono ?_
  rintro e w1 ⟨rfl, h1, h2⟩
  have HR1 := Lib.hid h1; have HO1 := Lib.hid h2
  have hsz1 := h2.size
  clear h1 h2
  by_cases hn : numR 1 r = 0 ∨ 4 < numR 1 r
  · have HA : Hid (outsR r = none) := by show _ = _; unfold outsR; rw [if_pos hn]
    generalize numR 1 r = n at *
    rcases hn with rfl | hn
    · go_wp2_with fail
      go_ret2
      exact ⟨HO1.out, .inl ⟨HA.out, rfl⟩⟩
    · have hn' : (4 : Int) < n := by omega
      have hn0 : ((n : Int) == 0) = false := by rw [beq_eq_false_iff_ne]; omega
      go_wp2_with fail
      go_ret2
      exact ⟨HO1.out, .inl ⟨HA.out, rfl⟩⟩
  · have HA : Hid (outsGo (numR 1 r) 0 [] (after 1 r) = outsR r) := by show _ = _; unfold outsR; rw [if_neg hn]
    generalize outsR r = all at *
    generalize numR 1 r = n at *
    have hn' : ¬ (4 : Int) < n := by omega
    have hn0 : ((n : Int) == 0) = false := by rw [beq_eq_false_iff_ne]; omega
    obtain ⟨z, hzl, HMK⟩ := run_mkO n (by omega) w1
    have HX : Hid (OtRel w top g w1.heap.size n all r.p.length 0 (w1.alloc (.cells z.toArray 57))) := by
      refine ⟨⟨[], z, after 1 r, rfl, hzl, ?_, (fun i hi => absurd hi (by simp)), HR1.out.below ((Below.refl _ _).alloc (Nat.le_refl _) _) HR1.out.lt, HK.out, hal, HA.out⟩, HO1.out.alloc _⟩
      have := Blk.new w1 57 z.toArray
      simpa using this
    clear hzl HR1
    go_wp2_with fail
    clear HMK
    go_loopw [23] (fun vv wr => ∃ k : Nat, k ≤ n ∧ vv = .int .i64 k ∧ Hid (OtRel w top g w1.heap.size n all r.p.length k wr)) (fun vv _ => n - (intOf vv).toNat)
    case atStart => exact ⟨0, Nat.zero_le _, rfl, HX.out⟩
    case round =>
      clear HX
      obtain ⟨k, hk, rfl, HXX⟩ := hrel
      rename World => W0
      obtain ⟨acc, cs, r1, hacc, hcs, hblk, hout, hr1, hok1, hlen, hgo⟩ := HXX.out.ex
      have HON := Lib.hid HXX.out.only
      have HR := Lib.hid hr1; have HK1 := Lib.hid hok1; have HGO := Lib.hid hgo; have HACC := Lib.hid hacc; have HCS := Lib.hid hcs; have HBLK := Lib.hid hblk; have HOUT := Lib.hid hout
      have hmW := Blk.lt hblk
      clear HXX hacc hcs hblk hr1 hok1 hgo hout
      by_cases hkn : k < n
      · go_wp2_with fail
        refine (readitem_any top g r1 (by omega) HK1.out W0 HR.out).mono ?_
        rintro e w2 ⟨A, ca, R, cr, rfl, hA, hAn, hR, hRn, h1, h2⟩
        have hb2 : Blk w2 w1.heap.size 57 cs := Blk.only HBLK.out h2 (by omega : w1.heap.size ≠ g)
        have c0 := hb2.cell (k * 4); have c1 := hb2.cell (k * 4 + 1); have c2 := hb2.cell (k * 4 + 2)
        have f0 := hb2.frozen (k * 4); have f1 := hb2.frozen (k * 4 + 1); have f2 := hb2.frozen (k * 4 + 2)
        have hcl := HCS.out
        rw [List.getElem?_eq_getElem (by omega)] at c0 c1 c2
        have hb3 : Blk _ w1.heap.size 57 _ := ((hb2.set (k * 4) (vs (iname r1))).set (k * 4 + 1) (.slice A (iarch r1).length ca)).set (k * 4 + 2) (.slice R (irefs r1).length cr)
        have ho3 := ((OnlyAt.refl w1.heap.size w2).setCell (k * 4) (vs (iname r1))).setCell (k * 4 + 1) (.slice A (iarch r1).length ca) |>.setCell (k * 4 + 2) (.slice R (irefs r1).length cr)
        have HR3 : Hid (RdIs _ 141 top g (itemA r1)) := h1.only ho3 (by omega : g ≠ w1.heap.size) (by have := h1.le; omega)
        have HON3 : Hid (OnlyAt g w _) := ((((HON.out.trans h2).setNew hsz1 (p := k * 4) (vs (iname r1))).setNew hsz1 (p := k * 4 + 1) (.slice A (iarch r1).length ca)).setNew hsz1 (p := k * 4 + 2) (.slice R (irefs r1).length cr))
        have hA3 := hA.onlyN ho3 (hAn.mono (by omega : w1.heap.size + 1 ≤ W0.heap.size)) (by omega)
        have hR3 := hR.onlyN ho3 (hRn.mono (by omega : w1.heap.size + 1 ≤ W0.heap.size)) (by omega)
        have hO3 : ∀ i (h : i < acc.length), OutC _ w1.heap.size _ (i * 4) acc[i] := fun i hi => ((((HOUT.out i hi).only h2 (by omega)).only ho3 (by omega)).set (p := k * 4) (vs (iname r1)) (by have := HACC.out; omega)).set (p := k * 4 + 1) (.slice A (iarch r1).length ca) (by have := HACC.out; omega) |>.set (p := k * 4 + 2) (.slice R (irefs r1).length cr) (by have := HACC.out; omega)
        have HB3 := Lib.hid hb3; have HA3 := Lib.hid hA3; have HRR3 := Lib.hid hR3; have HO3 := Lib.hid hO3
        have hszW : W0.heap.size ≤ w2.heap.size := h2.size
        have HAN : Hid (New (w1.heap.size + 1) A) := hAn.mono (by omega)
        have HRN : Hid (New (w1.heap.size + 1) R) := hRn.mono (by omega)
        have hil := itemA_len r1
        have HKI := Lib.hid (ok_itemA HK1.out)
        have HSOME : Hid (∀ ns r', needsR k (itemA r1) = some (ns, r') → outsGo (n - (k + 1)) (k + 1) (acc ++ [⟨iname r1, iarch r1, irefs r1, ns⟩]) r' = all) := fun ns r' hq => by rw [← outsGo_some n k acc r1 hkn hq]; exact HGO.out
        have HNONE : Hid (needsR k (itemA r1) = none → all = none) := fun hq => by rw [← HGO.out]; exact outsGo_none n k acc r1 hkn hq
        clear hb3 hA3 hR3 hO3 hA hAn hR hRn h1 h2 ho3 hb2 HBLK HOUT HR HON HGO
        generalize iname r1 = nm at *
        generalize iarch r1 = ar at *
        generalize irefs r1 = rf at *
        generalize itemA r1 = r2 at *
        go_wp2_with fail
        refine (readneeds_any top g k r2 (by omega) HKI.out _ HR3.out).mono ?_
        rintro e w4 ⟨ho4, hcase⟩
        have HON4 := Lib.hid (HON3.out.trans ho4)
        have hb4 : Blk w4 w1.heap.size 57 _ := Blk.only HB3.out ho4 (by omega : w1.heap.size ≠ g)
        have HO4 : Hid (∀ i (h : i < acc.length), OutC w4 w1.heap.size _ (i * 4) acc[i]) := fun i hi => (HO3.out i hi).only ho4 (by omega)
        have HA4 := Lib.hid (HA3.out.onlyN ho4 HAN.out (by omega))
        have HRR4 := Lib.hid (HRR3.out.onlyN ho4 HRN.out (by omega))
        have hsz4 := ho4.size
        have hsz3 : w1.heap.size + 1 ≤ (((w2.setCell ⟨w1.heap.size, k * 4, none⟩ (vs nm)).setCell ⟨w1.heap.size, k * 4 + 1, none⟩ (.slice A ar.length ca)).setCell ⟨w1.heap.size, k * 4 + 2, none⟩ (.slice R rf.length cr)).heap.size := by
          simp only [World.size_setCell]; omega
        have HB4 := Lib.hid hb4
        clear ho4 hb4 HB3 HO3 HA3 HRR3 HR3 HON3 c0 c1 c2 f0 f1 f2
        rcases hcase with ⟨hnone, rfl⟩ | ⟨ns, r3, M, cm, hsome, rfl, hM, hMn, hr3, hok3, hl3⟩
        · have HE := Lib.hid (HNONE.out hnone)
          clear hnone
          go_wp2_with fail
          go_ret2
          exact ⟨HON4.out, .inl ⟨HE.out, rfl⟩⟩
        · have HE := Lib.hid (HSOME.out ns r3 hsome)
          clear hsome
          have b4 : Blk w4 w1.heap.size 57 _ := HB4.out
          have c3 := b4.cell (k * 4 + 3); have f3 := b4.frozen (k * 4 + 3)
          have hcl2 : (((cs.set (k * 4) (vs nm)).set (k * 4 + 1) (.slice A ar.length ca)).set (k * 4 + 2) (.slice R rf.length cr)).length = n * 4 := by simp; exact hcl
          obtain ⟨y3, hy3⟩ : ∃ y, w4.cell? ⟨w1.heap.size, k * 4 + 3, none⟩ = some y := ⟨_, by rw [c3, List.getElem?_eq_getElem (by omega)]⟩
          clear c3
          have hb5 : Blk _ w1.heap.size 57 _ := b4.set (k * 4 + 3) (.slice M ns.length cm)
          have ho5 := (OnlyAt.refl w1.heap.size w4).setCell (k * 4 + 3) (.slice M ns.length cm)
          have hMn' : New (w1.heap.size + 1) M := fun a ha => Nat.le_trans hsz3 (hMn a ha)
          have HX5 : Hid (OtRel w top g w1.heap.size n all r.p.length (k + 1) (w4.setCell ⟨w1.heap.size, k * 4 + 3, none⟩ (.slice M ns.length cm))) := by
            refine ⟨⟨acc ++ [⟨nm, ar, rf, ns⟩], _, r3, by simp [HACC.out], ?_, hb5, ?_, hr3.only ho5 (by omega) (by have := hr3.le; omega), hok3, by omega, HE.out⟩, HON4.out.setNew hsz1 _⟩
            · rw [List.length_set]; exact hcl2
            · intro i hi
              by_cases hik : i < acc.length
              · rw [List.getElem_append_left hik]
                exact ((HO4.out i hik).only ho5 (Nat.le_refl _)).set (p := k * 4 + 3) _ (by have := HACC.out; omega)
              · have hik2 : i = acc.length := by simp at hi; omega
                subst hik2
                rw [List.getElem_append_right (Nat.le_refl _)]
                simp only [Nat.sub_self, List.getElem_cons_zero]
                have hak : acc.length = k := HACC.out
                rw [hak]
                refine ⟨A, ca, R, cr, M, cm, ?_, ?_, ?_, ?_, ⟨HA4.out.onlyN ho5 HAN.out (by omega), HRR4.out.onlyN ho5 HRN.out (by omega), hM.onlyN ho5 hMn' (by omega)⟩, HAN.out, HRN.out, hMn'⟩
                · simp [List.getElem?_set, hcl]; omega
                · simp [List.getElem?_set, hcl]; omega
                · simp [List.getElem?_set, hcl]; omega
                · simp [List.getElem?_set, hcl]; omega
          clear hb5 ho5 hM hMn hMn' hr3 hok3 b4 HB4 HO4 HA4 HRR4 HON4 HE HSOME HNONE hcl2
          go_wp2_with fail
          go_roundw
          case rel => exact ⟨k + 1, by omega, by go_num, HX5.out⟩
          case measure => simp [intOf]; omega
      · obtain rfl : k = n := by omega
        have HE : Hid (all = some (acc, r1)) := by
          show _ = _
          rw [← HGO.out, Nat.sub_self]; rfl
        have HN : Hid (OutsN W0 w.heap.size (some ⟨w1.heap.size, 0, none⟩) acc) := (outs_of HBLK.out HOUT.out).mono hsz1
        go_wp2_with fail
        go_ret2
        exact ⟨HON.out, .inr ⟨acc, r1, some ⟨w1.heap.size, 0, none⟩, k, HE.out, by rw [HACC.out]; rfl, HN.out, HR.out, HK1.out, hlen⟩⟩
end Go.Proofs.YtghbabnekalgpaaDoor
