/- Requests in memory; the contracts of layItem and layOuts. -/
import Derived.Test.YtggmogjgaoobjaaDoorXCT5
import Derived.Test.YtggmogjgaoobjaaDoorXCT9
import Derived.Deep.RegionHeld3
import Derived.Deep.CutBlock
namespace Go.Proofs.YtggmogjgaoobjaaDoor
open Go.RowKit BaseMath WireMath ReqMath

def NeedsAt (w : World) (A : Option Addr) (l : List Int) : Prop := 0 < l.length → ∃ b o, A = some ⟨b, o, none⟩ ∧ ∀ i (h : i < l.length), w.cell? ⟨b, o + i, none⟩ = some (.int .i64 l[i])
theorem NeedsAt.lt {w : World} {A : Option Addr} {l : List Int} (h : NeedsAt w A l) (h0 : 0 < l.length) (a : Addr) (ha : A = some a) : a.block < w.heap.size := by
  obtain ⟨b, o, rfl, hc⟩ := h h0
  cases ha
  exact block_of_cell (hc 0 h0)
theorem NeedsAt.below {w w' : World} {A : Option Addr} {l : List Int} (h : NeedsAt w A l) (hb : Below w.heap.size w w') : NeedsAt w' A l := fun h0 => by
  obtain ⟨b, o, rfl, hc⟩ := h h0
  have hl : b < w.heap.size := block_of_cell (hc 0 h0)
  refine ⟨b, o, rfl, fun i hi => ?_⟩
  rw [hb.cell (p := ⟨b, o + i, none⟩) hl]; exact hc i hi
theorem StrsIs.belowS {w w' : World} {A : Option Addr} {ls : List (List By)} (h : StrsIs w A ls) (hb : Below w.heap.size w w') : StrsIs w' A ls := h.below hb (fun h0 a ha => h.lt h0 a ha)
/-- one Out, by its four slots -/
def OutV4 (w : World) (x : OutV) (A R M : Option Addr) : Prop :=
  SrcIs w A x.arch ∧ StrsIs w R x.refs ∧ NeedsAt w M x.needs
theorem OutV4.below {w w' : World} {x : OutV} {A R M : Option Addr} (h : OutV4 w x A R M) (hb : Below w.heap.size w w') : OutV4 w' x A R M := ⟨h.1.below hb, h.2.1.belowS hb, h.2.2.below hb⟩
def OutCells (w : World) (b o : Nat) (x : OutV) : Prop := ∃ A ca R cr M cm, w.cell? ⟨b, o, none⟩ = some (vs x.name) ∧ w.cell? ⟨b, o + 1, none⟩ = some (.slice A x.arch.length ca) ∧ w.cell? ⟨b, o + 2, none⟩ = some (.slice R x.refs.length cr) ∧
  w.cell? ⟨b, o + 3, none⟩ = some (.slice M x.needs.length cm) ∧ OutV4 w x A R M
theorem OutCells.below {w w' : World} {b o : Nat} {x : OutV} (h : OutCells w b o x) (hb : Below w.heap.size w w') : OutCells w' b o x := by
  obtain ⟨A, ca, R, cr, M, cm, h0, h1, h2, h3, h4⟩ := h
  have hl : b < w.heap.size := block_of_cell h0
  have hh : ∀ q, w'.cell? ⟨b, q, none⟩ = w.cell? ⟨b, q, none⟩ := fun q => hb.cell (p := ⟨b, q, none⟩) hl
  exact ⟨A, ca, R, cr, M, cm, by rw [hh]; exact h0, by rw [hh]; exact h1, by rw [hh]; exact h2, by rw [hh]; exact h3, h4.below hb⟩
def OutsAt (w : World) (O : Option Addr) (l : List OutV) : Prop := 0 < l.length → ∃ b o, O = some ⟨b, o, none⟩ ∧ ∀ i (h : i < l.length), OutCells w b (o + i * 4) l[i]
theorem OutsAt.below {w w' : World} {O : Option Addr} {l : List OutV} (h : OutsAt w O l) (hb : Below w.heap.size w w') : OutsAt w' O l := fun h0 => by
  obtain ⟨b, o, rfl, hc⟩ := h h0
  exact ⟨b, o, rfl, fun i hi => (hc i hi).below hb⟩
theorem OutsAt.nil (w : World) (O : Option Addr) : OutsAt w O [] := fun h => absurd h (by simp)
theorem StrsIs.nil (w : World) (O : Option Addr) : StrsIs w O [] := fun h => absurd h (by simp)
theorem SrcIs.nil (w : World) (O : Option Addr) : SrcIs w O [] := fun h => absurd h (by simp)
theorem NeedsAt.nil (w : World) (O : Option Addr) : NeedsAt w O [] := fun h => absurd h (by simp)
/-- a request as a value, with what it points at -/
def ReqIs (w : World) (v : Value) (r : ReqV) : Prop := ∃ A ca R cr O co, v = .agg #[vb r.kind, vs r.name, vs r.path, .slice A r.arch.length ca, .slice R r.refs.length cr, .slice O r.outs.length co] ∧ SrcIs w A r.arch ∧ StrsIs w R r.refs ∧ OutsAt w O r.outs
theorem ReqIs.below {w w' : World} {v : Value} {r : ReqV} (h : ReqIs w v r) (hb : Below w.heap.size w w') : ReqIs w' v r := by
  obtain ⟨A, ca, R, cr, O, co, he, h1, h2, h3⟩ := h
  exact ⟨A, ca, R, cr, O, co, he, h1.below hb, h2.belowS hb, h3.below hb⟩

def LayPost (w : World) (base g : Nat) (v : Value) (l : List By) (e : Ending) (w' : World) : Prop := e = .returned (.tuple #[]) ∧ ∃ v', WrIs w' base g v' l ∧ WrStep g v v' w w'
theorem WrIs.glt {w : World} {base g : Nat} {v : Value} {l : List By} (h : WrIs w base g v l) : g < w.heap.size := h.blk.lt
theorem WrIs.base_lt {w : World} {base g : Nat} {v : Value} {l : List By} (h : WrIs w base g v l) : base ≤ w.heap.size := by have := h.lo; have := h.glt; omega
theorem textB_length (s : List By) : (textB s).length = 2 + s.length := by unfold textB; rw [List.length_append, numB_length]
theorem itemB_length (n a : List By) (rs : List (List By)) : (itemB n a rs).length = (2 + n.length) + (2 + a.length) + (1 + (rs.flatMap textB).length) := by
  unfold itemB textsB; simp only [List.length_append, textB_length, List.length_cons, List.length_nil]
set_option maxHeartbeats 2000000 in
set_option maxRecDepth 100000 in
theorem layitem_any (w0 : World) (base g : Nat) (v : Value) (l n a : List By) (rs : List (List By)) (A : Option Addr) (ca : Nat) (R : Option Addr) (cr : Nat) (hrs : rs.length ≤ 255) (hbd : l.length + (itemB n a rs).length ≤ 1000000) (w : World)
    (h : WrIs w base g v l) (hA : SrcIs w0 A a) (hR : StrsIs w0 R rs) (hb0 : Below w0.heap.size w0 w) (hw0 : w0.heap.size ≤ base) :
    Calls Tryd.prog 42 #[.pointer (some ⟨g, 0, none⟩), vs n, .slice A a.length ca, .slice R rs.length cr] w (LayPost w base g v (l ++ itemB n a rs)) := by
  rw [itemB_length] at hbd
  have H := Lib.hid h
  have HCV : Hid (∀ W, Below base w W → (convert 37 9 (.slice A a.length ca)).run Tryd.prog W = .ok (vs a) W) := fun W hW => run_text_src (hA.below (hb0.trans (hW.mono hw0)))
  have HR := Lib.hid hR
  have HRS : Hid (∀ W, Below base w W → StrsIs W R rs) := fun W hW => HR.out.belowS (hb0.trans (hW.mono hw0))
  have HRL : Hid (0 < rs.length → ∀ x, R = some x → x.block < base) := fun h0 x hx => Nat.lt_of_lt_of_le (HR.out.lt h0 x hx) hw0
  have hbs := h.base_lt
  clear hA hR hb0 hw0 h
  have H0 : Hid (WrIs w.drew base g v l) := H.out.below (Below.refl _ _).drew
  have HD : Hid (Below base w w.drew) := (Below.refl _ _).drew
  have k0 := HCV.out w.drew HD.out
  go_enter Tryd.func42, Tryd.ntmps42
  go_upto_region 0 with fail
  go_region_held3 (fun W => (convert 37 9 (.slice A a.length ca)).run Tryd.prog W = .ok (vs a) W)
    (first | with_reducible exact k0 | with_reducible exact k1 | with_reducible exact k2 | with_reducible exact k3)
    (first
      | (go_at_call 41
         with_reducible refine (wtext_any base g v l n ?hh w.drew H0.out).mono ?_
         case hh => omega
         rintro e w2 ⟨rfl, v2, h1, h2⟩
         have HB2 : Hid (Below base w w2) := HD.out.trans (h2.below H0.out hbs)
         have H2 := Lib.hid h1
         have HS2 : Hid (WrStep g v v2 w w2) := (WrStep.of_below (Below.refl _ _).drew).trans h2
         have k1 := HCV.out w2 HB2.out
         clear h1 h2)
      | (go_at_call 41
         with_reducible refine (wtext_any base g v2 (l ++ textB n) a ?hh w2 H2.out).mono ?_
         case hh => simp only [List.length_append, textB_length]; omega
         rintro e w3 ⟨rfl, v3, h1, h2⟩
         have HB3 : Hid (Below base w w3) := HB2.out.trans (h2.below H2.out H2.out.base_lt)
         have H3 := Lib.hid h1
         have HS3 : Hid (WrStep g v v3 w w3) := HS2.out.trans h2
         have k2 := HCV.out w3 HB3.out
         clear h1 h2)
      | (go_at_call 61
         refine (wtexts_any base g v3 (l ++ textB n ++ textB a) R cr rs hrs ?hh w3 H3.out (HRS.out w3 HB3.out) HRL.out).mono ?_
         case hh => simp only [List.length_append, textB_length]; omega
         rintro e w4 ⟨rfl, v4, h1, h2⟩
         have H4 := Lib.hid h1
         have HS4 : Hid (WrStep g v v4 w w4) := HS3.out.trans h2
         have k3 := HCV.out w4 (HB3.out.trans (h2.below H3.out H3.out.base_lt))
         clear h1 h2)
      | fail)
  all_goals
    go_wp2_with fail
    refine bodyPost_end (v := .tuple #[]) (by simp [results, Tryd.results42]) rfl ⟨rfl, v4, ?_, HS4.out⟩
    unfold itemB
    rw [← List.append_assoc, ← List.append_assoc]
    exact H4.out
end Go.Proofs.YtggmogjgaoobjaaDoor

/- The contracts of readItem and readNeeds. -/
namespace Go.Proofs.YtggmogjgaoobjaaDoor
open Go.RowKit BaseMath WireMath ReqMath

theorem textsGo_len : ∀ (k : Nat) (acc : List (List By)) (r : Rd), (textsGo k acc r).1.length ≤ acc.length + k ∧ (textsGo k acc r).2.p.length ≤ r.p.length
  | 0, acc, r => by simp [textsGo]
  | k + 1, acc, r => by
    unfold textsGo; split
    · simp
    · have h := textsGo_len k (acc ++ [textR r]) (textA r)
      have h2 := textA_len r
      simp at h; exact ⟨by omega, by omega⟩
theorem textsA_len (m : Int) (r : Rd) : (textsA m r).p.length ≤ r.p.length := by
  unfold textsA textsAll
  refine Nat.le_trans (textsGo_len _ _ _).2 ?_
  unfold texts0; split
  · exact Nat.zero_le _
  · exact after_len 1 r
theorem itemA_len (r : Rd) : (itemA r).p.length ≤ r.p.length := Nat.le_trans (textsA_len _ _) (Nat.le_trans (textA_len _) (textA_len _))
theorem ok_itemA {r : Rd} (h : r.ok) : (itemA r).ok := ok_textsA (ok_textA (ok_textA h)) 16
/-- the data of a slice lies in new blocks -/
def New (n : Nat) (A : Option Addr) : Prop := ∀ a, A = some a → n ≤ a.block
theorem RdIs.lt {w : World} {T : TypeId} {top g : Nat} {r : Rd} (h : RdIs w T top g r) : g < w.heap.size := by obtain ⟨_, _, hb, _⟩ := h.ex; exact hb.lt
theorem SrcIs.onlyN {w w' : World} {A : Option Addr} {p : List By} {g n : Nat} (h : SrcIs w A p) (ho : OnlyAt g w w') (hn : New n A) (hg : g < n) : SrcIs w' A p := h.only ho (fun _ a ha => by have := hn a ha; omega)
theorem StrsIs.onlyN {w w' : World} {A : Option Addr} {p : List (List By)} {g n : Nat} (h : StrsIs w A p) (ho : OnlyAt g w w') (hn : New n A) (hg : g < n) : StrsIs w' A p := fun h0 => by
  obtain ⟨b, o, rfl, hc⟩ := h h0
  have hb : b < w.heap.size := block_of_cell (hc 0 h0)
  have := hn _ rfl
  simp only at this
  refine ⟨b, o, rfl, fun k hk => ?_⟩
  rw [World.cell?_of_block (w := w) (a := ⟨b, o + k, none⟩) (ho.other b hb (by omega))]; exact hc k hk
/-- what readItem comes to -/
def ItemPost (w : World) (T : TypeId) (top g : Nat) (r : Rd) (e : Ending) (w' : World) : Prop :=
  ∃ A ca R cr, e = .returned (.tuple #[vs (iname r), .slice A (iarch r).length ca, .slice R (irefs r).length cr]) ∧ SrcIs w' A (iarch r) ∧ New w.heap.size A ∧ StrsIs w' R (irefs r) ∧ New w.heap.size R ∧ RdIs w' T top g (itemA r) ∧ OnlyAt g w w'
set_option maxHeartbeats 2000000 in
set_option maxRecDepth 100000 in
theorem readitem_any (top g : Nat) (r : Rd) (hr : r.p.length ≤ 100000) (hok : r.ok) (w : World) (h : RdIs w 141 top g r) :
    Calls Tryd.prog 50 #[.pointer (some ⟨g, 0, none⟩)] w (ItemPost w 141 top g r) := by
  have H := Lib.hid h; have HK2 := Lib.hid (ok_textA (ok_textA hok))
  have hgw := h.lt
  have hl1 := textA_len r
  have hl2 := textA_len (textA r)
  have HD0 : Hid (textR r = iname r) := rfl
  have HD1 : Hid (textR (textA r) = iarch r) := rfl
  have HD2 : Hid (textsR 16 (textA (textA r)) = irefs r) := rfl
  have HD3 : Hid (textsA 16 (textA (textA r)) = itemA r) := rfl
  clear h hok
  go_enter Tryd.func50, Tryd.ntmps50
  go_wp2_with fail
  refine (rtext_any top g r (by omega) w H.out).mono ?_
  rintro e w1 ⟨rfl, h1, h2⟩
  have HR1 := Lib.hid h1; have HO1 := Lib.hid h2
  clear h1 h2
  go_wp2_with fail
  refine (rtext_any top g (textA r) (by omega) w1 HR1.out).mono ?_
  rintro e w2 ⟨rfl, h1, h2⟩
  obtain ⟨c, w3, hcv, hsrc, hb⟩ := str_bytes (textR (textA r)) w2
  have hs2 : w.heap.size ≤ w2.heap.size := Nat.le_trans HO1.out.size h2.size
  have hg3 : g < w2.heap.size := by omega
  have HR3 := Lib.hid (h1.below hb hg3)
  have HO3 : Hid (OnlyAt g w w3) := (HO1.out.trans h2).trans (OnlyAt.of_below hb)
  have HS3 := Lib.hid hsrc
  have hs3 := hb.size
  clear h1 h2 hsrc hb HR1
  go_wp2_with fail
  refine (rtexts_any top g 16 (textA (textA r)) (by omega) HK2.out w3 HR3.out).mono ?_
  rintro e w4 ⟨v4, rfl, ho4, h1, h2⟩
  obtain ⟨R, cr, rfl, hR, hRn⟩ := own_strs ho4
  have HR4 := Lib.hid h1; have HO4 := Lib.hid (HO3.out.trans h2)
  have HS4 : Hid (SrcIs w4 (some ⟨w2.heap.size, 0, none⟩) (textR (textA r))) := HS3.out.onlyN h2 (n := w.heap.size) (fun a ha => by cases ha; exact hs2) hgw
  have HRR := Lib.hid hR
  have HRN : Hid (New w.heap.size R) := fun a ha => by have := (hRn a ha).1; omega
  clear h1 h2 ho4 hR hRn HR3 HS3
  go_wp2_with fail
  refine bodyPost_ret (v := .tuple #[vs (iname r), .slice (some ⟨w2.heap.size, 0, none⟩) (iarch r).length c, .slice R (irefs r).length cr]) (by simp [results, Tryd.results50, go_sem, HD0.out, HD1.out, HD2.out]) rfl ⟨_, _, _, _, rfl, HS4.out, (fun a ha => by cases ha; exact hs2), HRR.out, HRN.out, HR4.out, HO4.out⟩
theorem info3i : (Tryd.prog.info? 3).map (fun i => (i.zero, i.size, i.bytes)) = some (some (.int .i64 0), 1, 8) := by kernel_rfl
theorem made_zeroI (n : Nat) (z : Value) : madeCells #[z] n = (List.replicate n z).toArray := by
  apply Array.ext
  · simp [madeCells]
  · intro i h1 h2
    simp [madeCells, Nat.mod_one]
theorem run_mkI (l : Nat) (hc : l ≤ 1000) (w : World) : (Instr.makeSlice 55 (.int .i64 l) (.int .i64 l)).run Tryd.prog w = .ok (.slice (some ⟨w.heap.size, 0, none⟩) l l) (w.alloc (.cells (List.replicate l (.int .i64 0)).toArray 3)) := by
  obtain ⟨i, hi, hz, hs, hb⟩ := info_parts info3i
  have := run_make (P := Tryd.prog) w 55 3 i (.int .i64 0) Tryd.underlying55 hi hz .i64 .i64 l l (by omega) (by omega) (by rw [hb]; omega) (by omega)
  rw [this, hs]
  simp only [Int.toNat_natCast, Nat.mul_one]
  rw [show (Value.int .i64 0).cells = #[Value.int .i64 0] from rfl, made_zeroI]
abbrev vi (n : Int) : Value := .int .i64 n
/-- while the needs are read -/
structure NdRel (w : World) (top g m n place : Nat) (all : Option (List Int × Rd)) (L k : Nat) (wr : World) : Prop where
  ex : ∃ (acc : List Int) (rest : List Value) (r : Rd), acc.length = k ∧ rest.length = n - k ∧ Blk wr m 3 (acc.map vi ++ rest) ∧ RdIs wr 141 top g r ∧ r.ok ∧ r.p.length ≤ L ∧ needsGo place (n - k) acc r = all
  only : OnlyAt g w wr
theorem needsGo_step (place n k : Nat) (acc : List Int) (r : Rd) (hk : k < n) (h : numR 1 r < place) : needsGo place (n - k) acc r = needsGo place (n - (k + 1)) (acc ++ [(numR 1 r : Int)]) (after 1 r) := by
  rw [show n - k = (n - (k + 1)) + 1 by omega]
  conv => lhs; unfold needsGo
  rw [if_neg (by omega)]
theorem needsGo_none (place n k : Nat) (acc : List Int) (r : Rd) (hk : k < n) (h : place ≤ numR 1 r) : needsGo place (n - k) acc r = none := by
  rw [show n - k = (n - (k + 1)) + 1 by omega]
  unfold needsGo
  rw [if_pos h]
/-- what readNeeds comes to -/
def NeedsPost (w : World) (T : TypeId) (top g : Nat) (all : Option (List Int × Rd)) (L : Nat) (e : Ending) (w' : World) : Prop :=
  OnlyAt g w w' ∧ ((all = none ∧ e = .returned (.tuple #[.slice none 0 0, .bool false])) ∨
    ∃ ns r M cm, all = some (ns, r) ∧ e = .returned (.tuple #[.slice M ns.length cm, .bool true]) ∧ NeedsAt w' M ns ∧ New w.heap.size M ∧ RdIs w' T top g r ∧ r.ok ∧ r.p.length ≤ L)
set_option maxHeartbeats 4000000 in
set_option maxRecDepth 100000 in
theorem readneeds_any (top g place : Nat) (r : Rd) (hr : r.p.length ≤ 100000) (hok : r.ok) (w : World) (h : RdIs w 141 top g r) :
    Calls Tryd.prog 89 #[.pointer (some ⟨g, 0, none⟩), .int .i64 place] w (NeedsPost w 141 top g (needsR place r) r.p.length) := by
  have H := Lib.hid h; have HK := Lib.hid (ok_after hok 1)
  have hgw := h.lt
  have hlt : numR 1 r < 256 := numR_lt 1 r
  have hal := after_len 1 r
  clear h hok
  go_enter Tryd.func89, Tryd.ntmps89
  go_wp2_with fail
  refine (byte_any top g r (by omega) w H.out).mono ?_
  rintro e w1 ⟨rfl, h1, h2⟩
  have HR1 := Lib.hid h1; have HO1 := Lib.hid h2
  have hsz1 := h2.size
  clear h1 h2
  by_cases hn : 4 ≤ numR 1 r
  · have HA : Hid (needsR place r = none) := by show _ = _; unfold needsR; rw [if_pos hn]
    generalize numR 1 r = n at *
    have hn' : (4 : Int) ≤ n := by omega
    go_wp2_with fail
    go_ret2
    exact ⟨HO1.out, .inl ⟨HA.out, rfl⟩⟩
  · have HA : Hid (needsGo place (numR 1 r) [] (after 1 r) = needsR place r) := by show _ = _; unfold needsR; rw [if_neg hn]
    generalize needsR place r = all at *
    generalize numR 1 r = n at *
    have hn' : ¬ (4 : Int) ≤ n := by omega
    have HMK := run_mkI n (by omega) w1
    obtain ⟨z, hz⟩ : ∃ z, z = List.replicate n (Value.int .i64 0) := ⟨_, rfl⟩
    rw [← hz] at HMK
    have hzl : z.length = n := by rw [hz]; simp
    have HX : Hid (NdRel w top g w1.heap.size n place all r.p.length 0 (w1.alloc (.cells z.toArray 3))) := by
      refine ⟨⟨[], z, after 1 r, rfl, by omega, ?_, HR1.out.below ((Below.refl _ _).alloc (Nat.le_refl _) _) HR1.out.lt, HK.out, hal, HA.out⟩, HO1.out.alloc _⟩
      have := Blk.new w1 3 z.toArray
      simpa using this
    clear hz HR1
    go_wp2_with fail
    go_loopw [18] (fun vv wr => ∃ k : Nat, k ≤ n ∧ vv = .int .i64 k ∧ Hid (NdRel w top g w1.heap.size n place all r.p.length k wr)) (fun vv _ => n - (intOf vv).toNat)
    case atStart => exact ⟨0, Nat.zero_le _, rfl, HX.out⟩
    case round =>
      clear HX
      obtain ⟨k, hk, rfl, HXX⟩ := hrel
      rename World => W0
      obtain ⟨acc, rest, r1, hacc, hrest, hblk, hr1, hok1, hlen, hgo⟩ := HXX.out.ex
      have HON := Lib.hid HXX.out.only
      have HR := Lib.hid hr1; have HK1 := Lib.hid hok1; have HGO := Lib.hid hgo; have HACC := Lib.hid hacc; have HREST := Lib.hid hrest; have HBLK := Lib.hid hblk
      clear HXX hacc hrest hblk hr1 hok1 hgo
      by_cases hkn : k < n
      · have hb256 : numR 1 r1 < 256 := numR_lt 1 r1
        have hal1 := after_len 1 r1
        go_wp2_with fail
        refine (byte_any top g r1 (by omega) W0 HR.out).mono ?_
        rintro e w2 ⟨rfl, h1, h2⟩
        have HR2 := Lib.hid h1
        have HON2 := Lib.hid (HON.out.trans h2)
        have hb2 : Blk w2 w1.heap.size 3 (acc.map vi ++ rest) := Blk.only HBLK.out h2 (by omega : w1.heap.size ≠ g)
        have c0 := hb2.cell k; have f0 := hb2.frozen k
        obtain ⟨y, rest', hre⟩ : ∃ y rest', rest = y :: rest' := by
          cases hrr : rest with
          | nil => have := HREST.out; rw [hrr] at this; simp at this; omega
          | cons y t => exact ⟨y, t, rfl⟩
        subst hre
        have hck : (acc.map vi ++ y :: rest')[k]? = some y := by
          rw [List.getElem?_append_right (by simp [HACC.out])]; simp [HACC.out]
        rw [hck] at c0
        have hset : (acc.map vi ++ y :: rest').set k (vi (numR 1 r1 : Nat)) = (acc ++ [((numR 1 r1 : Nat) : Int)]).map vi ++ rest' := by
          rw [List.set_append_right _ _ (by simp [HACC.out])]; simp [HACC.out]
        have hb3 : Blk _ _ _ _ := hb2.set k (vi (numR 1 r1 : Nat))
        rw [hset] at hb3
        have hg2 : g < w2.heap.size := h1.lt
        have HR3 : Hid (RdIs (w2.setCell ⟨w1.heap.size, k, none⟩ (vi (numR 1 r1 : Nat))) 141 top g (after 1 r1)) := h1.only ((OnlyAt.refl w1.heap.size w2).setCell k _) (by omega) (by have := h1.le; omega)
        have HON3 : Hid (OnlyAt g w (w2.setCell ⟨w1.heap.size, k, none⟩ (vi (numR 1 r1 : Nat)))) := by
          have ho := HON2.out
          exact ⟨ho.os, ho.tape, ho.output, by rw [World.size_setCell]; exact ho.size, fun c hc hne => by rw [Below.heap_setCell w2 ⟨w1.heap.size, k, none⟩ _ c (by simp; omega)]; exact ho.other c hc hne⟩
        have HB3 := Lib.hid hb3
        have HSTEP : Hid (numR 1 r1 < place → needsGo place (n - (k + 1)) (acc ++ [((numR 1 r1 : Nat) : Int)]) (after 1 r1) = all) := fun hp => by rw [← needsGo_step place n k acc r1 hkn hp]; exact HGO.out
        have HNONE : Hid (place ≤ numR 1 r1 → all = none) := fun hp => by rw [← HGO.out]; exact needsGo_none place n k acc r1 hkn hp
        have HK3 := Lib.hid (ok_after HK1.out 1)
        have d0 := hb3.cell k
        have hck2 : ((acc ++ [((numR 1 r1 : Nat) : Int)]).map vi ++ rest')[k]? = some (vi (numR 1 r1 : Nat)) := by
          rw [List.getElem?_append_left (by simp [HACC.out])]; simp [HACC.out]
        rw [hck2] at d0
        clear h1 h2 hb2 hb3 hset hck hck2 HBLK HR HON HGO HK1
        generalize numR 1 r1 = b at *
        generalize after 1 r1 = r2 at *
        by_cases hp : place ≤ b
        · have hp' : (place : Int) ≤ b := by omega
          go_wp2_with fail
          go_ret2
          exact ⟨HON3.out, .inl ⟨HNONE.out hp, rfl⟩⟩
        · have hp' : ¬ (place : Int) ≤ b := by omega
          have HX2 : Hid (NdRel w top g w1.heap.size n place all r.p.length (k + 1) (w2.setCell ⟨w1.heap.size, k, none⟩ (vi b))) := ⟨⟨acc ++ [(b : Int)], rest', r2, by simp [HACC.out], by have := HREST.out; simp at this; omega, HB3.out, HR3.out, HK3.out, by omega, HSTEP.out (by omega)⟩, HON3.out⟩
          clear HB3 HR3 HK3 HSTEP HNONE HON3 HON2 HR2
          go_wp2_with fail
          go_roundw
          case rel => exact ⟨k + 1, by omega, by go_num, HX2.out⟩
          case measure => simp [intOf]; omega
      · obtain rfl : k = n := by omega
        have HE : Hid (all = some (acc, r1)) := by
          show _ = _
          rw [← HGO.out, Nat.sub_self]; rfl
        have HN : Hid (NeedsAt W0 (some ⟨w1.heap.size, 0, none⟩) acc) := fun _ => ⟨w1.heap.size, 0, rfl, fun i hi => by rw [Nat.zero_add, Blk.cell HBLK.out, List.getElem?_append_left (by simpa using hi)]; simp [hi]⟩
        go_wp2_with fail
        go_ret2
        exact ⟨HON.out, .inr ⟨acc, r1, some ⟨w1.heap.size, 0, none⟩, k, HE.out, by rw [HACC.out]; rfl, HN.out, (fun a ha => by cases ha; exact hsz1), HR.out, HK1.out, hlen⟩⟩
end Go.Proofs.YtggmogjgaoobjaaDoor

/- The contract of readOuts. -/
namespace Go.Proofs.YtggmogjgaoobjaaDoor
open Go.RowKit BaseMath WireMath ReqMath

theorem NeedsAt.onlyN {w w' : World} {A : Option Addr} {p : List Int} {g n : Nat} (h : NeedsAt w A p) (ho : OnlyAt g w w') (hn : New n A) (hg : g < n) : NeedsAt w' A p := fun h0 => by
  obtain ⟨b, o, rfl, hc⟩ := h h0
  have hb : b < w.heap.size := block_of_cell (hc 0 h0)
  have := hn _ rfl
  simp only at this
  refine ⟨b, o, rfl, fun k hk => ?_⟩
  rw [World.cell?_of_block (w := w) (a := ⟨b, o + k, none⟩) (ho.other b hb (by omega))]; exact hc k hk
theorem New.mono {n n' : Nat} {A : Option Addr} (h : New n' A) (hn : n ≤ n') : New n A := fun a ha => Nat.le_trans hn (h a ha)
/-- an Out in a row of cells at block m, its data behind m -/
def OutC (W : World) (m : Nat) (cs : List Value) (o : Nat) (x : OutV) : Prop := ∃ A ca R cr M cm, cs[o]? = some (vs x.name) ∧ cs[o + 1]? = some (.slice A x.arch.length ca) ∧ cs[o + 2]? = some (.slice R x.refs.length cr) ∧ cs[o + 3]? = some (.slice M x.needs.length cm) ∧
  OutV4 W x A R M ∧ New (m + 1) A ∧ New (m + 1) R ∧ New (m + 1) M
theorem OutC.only {W W' : World} {m g : Nat} {cs : List Value} {o : Nat} {x : OutV} (h : OutC W m cs o x) (ho : OnlyAt g W W') (hg : g ≤ m) : OutC W' m cs o x := by
  obtain ⟨A, ca, R, cr, M, cm, h0, h1, h2, h3, h4, n1, n2, n3⟩ := h
  exact ⟨A, ca, R, cr, M, cm, h0, h1, h2, h3, ⟨h4.1.onlyN ho n1 (by omega), h4.2.1.onlyN ho n2 (by omega), h4.2.2.onlyN ho n3 (by omega)⟩, n1, n2, n3⟩
theorem OutC.set {W : World} {m : Nat} {cs : List Value} {o p : Nat} {x : OutV} (h : OutC W m cs o x) (v : Value) (hp : o + 4 ≤ p) : OutC W m (cs.set p v) o x := by
  obtain ⟨A, ca, R, cr, M, cm, h0, h1, h2, h3, h4⟩ := h
  have hh : ∀ q, q < p → (cs.set p v)[q]? = cs[q]? := fun q hq => List.getElem?_set_ne (by omega)
  exact ⟨A, ca, R, cr, M, cm, by rw [hh _ (by omega)]; exact h0, by rw [hh _ (by omega)]; exact h1, by rw [hh _ (by omega)]; exact h2, by rw [hh _ (by omega)]; exact h3, h4⟩
theorem OnlyAt.setNew {g m p : Nat} {w W : World} (ho : OnlyAt g w W) (hm : w.heap.size ≤ m) (v : Value) : OnlyAt g w (W.setCell ⟨m, p, none⟩ v) :=
  ⟨ho.os, ho.tape, ho.output, by rw [World.size_setCell]; exact ho.size, fun c hc hne => by rw [Below.heap_setCell W ⟨m, p, none⟩ _ c (by simp; omega)]; exact ho.other c hc hne⟩
theorem info57 : (Tryd.prog.info? 57).map (fun i => (i.zero, i.size, i.bytes)) = some (some (.agg #[.string ⟨#[]⟩, .slice none 0 0, .slice none 0 0, .slice none 0 0]), 4, 88) := by kernel_rfl
theorem run_mkO (l : Nat) (hc : l ≤ 1000) (w : World) : ∃ z : List Value, z.length = l * 4 ∧ (Instr.makeSlice 38 (.int .i64 l) (.int .i64 l)).run Tryd.prog w = .ok (.slice (some ⟨w.heap.size, 0, none⟩) l l) (w.alloc (.cells z.toArray 57)) := by
  obtain ⟨i, hi, hz, hs, hb⟩ := info_parts info57
  have := run_make (P := Tryd.prog) w 38 57 i _ Tryd.underlying38 hi hz .i64 .i64 l l (by omega) (by omega) (by rw [hb]; omega) (by omega)
  rw [hs] at this
  simp only [Int.toNat_natCast] at this
  refine ⟨_, ?_, by rw [this]⟩
  simp [madeCells]
structure OtRel (w : World) (top g m n : Nat) (all : Option (List OutV × Rd)) (L k : Nat) (wr : World) : Prop where
  ex : ∃ (acc : List OutV) (cs : List Value) (r : Rd), acc.length = k ∧ cs.length = n * 4 ∧ Blk wr m 57 cs ∧ (∀ i (h : i < acc.length), OutC wr m cs (i * 4) acc[i]) ∧ RdIs wr 141 top g r ∧ r.ok ∧ r.p.length ≤ L ∧ outsGo (n - k) k acc r = all
  only : OnlyAt g w wr
theorem outsGo_some (n k : Nat) (acc : List OutV) (r : Rd) (hk : k < n) {ns : List Int} {r' : Rd} (h : needsR k (itemA r) = some (ns, r')) : outsGo (n - k) k acc r = outsGo (n - (k + 1)) (k + 1) (acc ++ [⟨iname r, iarch r, irefs r, ns⟩]) r' := by
  rw [show n - k = (n - (k + 1)) + 1 by omega]
  conv => lhs; unfold outsGo
  rw [h]
theorem outsGo_none (n k : Nat) (acc : List OutV) (r : Rd) (hk : k < n) (h : needsR k (itemA r) = none) : outsGo (n - k) k acc r = none := by
  rw [show n - k = (n - (k + 1)) + 1 by omega]
  unfold outsGo
  rw [h]
/-- Outs in memory, all of whose data lie in blocks from n on -/
def OutsN (w : World) (n : Nat) (O : Option Addr) (l : List OutV) : Prop := 0 < l.length → ∃ b o, O = some ⟨b, o, none⟩ ∧ n ≤ b ∧ ∀ i (h : i < l.length), ∃ A ca R cr M cm, w.cell? ⟨b, o + i * 4, none⟩ = some (vs l[i].name) ∧ w.cell? ⟨b, o + i * 4 + 1, none⟩ = some (.slice A l[i].arch.length ca) ∧
  w.cell? ⟨b, o + i * 4 + 2, none⟩ = some (.slice R l[i].refs.length cr) ∧ w.cell? ⟨b, o + i * 4 + 3, none⟩ = some (.slice M l[i].needs.length cm) ∧ OutV4 w l[i] A R M ∧ New n A ∧ New n R ∧ New n M
theorem OutsN.at {w : World} {n : Nat} {O : Option Addr} {l : List OutV} (h : OutsN w n O l) : OutsAt w O l := fun h0 => by
  obtain ⟨b, o, hO, -, hc⟩ := h h0
  refine ⟨b, o, hO, fun i hi => ?_⟩
  obtain ⟨A, ca, R, cr, M, cm, h0, h1, h2, h3, h4, -⟩ := hc i hi
  exact ⟨A, ca, R, cr, M, cm, h0, h1, h2, h3, h4⟩
theorem OutsN.nil (w : World) (n : Nat) (O : Option Addr) : OutsN w n O [] := fun h => absurd h (by simp)
theorem OutsN.only {w w' : World} {n g : Nat} {O : Option Addr} {l : List OutV} (h : OutsN w n O l) (ho : OnlyAt g w w') (hg : g < n) : OutsN w' n O l := fun h0 => by
  obtain ⟨b, o, hO, hb, hc⟩ := h h0
  refine ⟨b, o, hO, hb, fun i hi => ?_⟩
  obtain ⟨A, ca, R, cr, M, cm, h0, h1, h2, h3, h4, n1, n2, n3⟩ := hc i hi
  have hbl : b < w.heap.size := block_of_cell h0
  have hh : ∀ q, w'.cell? ⟨b, q, none⟩ = w.cell? ⟨b, q, none⟩ := fun q => World.cell?_of_block (w := w) (a := ⟨b, q, none⟩) (ho.other b hbl (by omega))
  exact ⟨A, ca, R, cr, M, cm, by rw [hh]; exact h0, by rw [hh]; exact h1, by rw [hh]; exact h2, by rw [hh]; exact h3, ⟨h4.1.onlyN ho n1 hg, h4.2.1.onlyN ho n2 hg, h4.2.2.onlyN ho n3 hg⟩, n1, n2, n3⟩
theorem OutsN.mono {w : World} {n n' : Nat} {O : Option Addr} {l : List OutV} (h : OutsN w n' O l) (hn : n ≤ n') : OutsN w n O l := fun h0 => by
  obtain ⟨b, o, hO, hb, hc⟩ := h h0
  refine ⟨b, o, hO, by omega, fun i hi => ?_⟩
  obtain ⟨A, ca, R, cr, M, cm, h0, h1, h2, h3, h4, n1, n2, n3⟩ := hc i hi
  exact ⟨A, ca, R, cr, M, cm, h0, h1, h2, h3, h4, n1.mono hn, n2.mono hn, n3.mono hn⟩
/-- what readOuts comes to -/
def OutsPost (w : World) (T : TypeId) (top g : Nat) (all : Option (List OutV × Rd)) (L : Nat) (e : Ending) (w' : World) : Prop :=
  OnlyAt g w w' ∧ ((all = none ∧ e = .returned (.tuple #[.slice none 0 0, .bool false])) ∨
    ∃ os r O co, all = some (os, r) ∧ e = .returned (.tuple #[.slice O os.length co, .bool true]) ∧ OutsN w' w.heap.size O os ∧ RdIs w' T top g r ∧ r.ok ∧ r.p.length ≤ L)
theorem outs_of {W : World} {m : Nat} {cs : List Value} {acc : List OutV} (hb : Blk W m 57 cs) (h : ∀ i (h : i < acc.length), OutC W m cs (i * 4) acc[i]) : OutsN W m (some ⟨m, 0, none⟩) acc := fun _ => by
  refine ⟨m, 0, rfl, Nat.le_refl _, fun i hi => ?_⟩
  obtain ⟨A, ca, R, cr, M, cm, h0, h1, h2, h3, h4, n1, n2, n3⟩ := h i hi
  rw [Nat.zero_add]
  exact ⟨A, ca, R, cr, M, cm, by rw [hb.cell]; exact h0, by rw [hb.cell]; exact h1, by rw [hb.cell]; exact h2, by rw [hb.cell]; exact h3, h4, n1.mono (by omega), n2.mono (by omega), n3.mono (by omega)⟩
set_option maxHeartbeats 4000000 in
set_option maxRecDepth 100000 in
theorem readouts_any (top g : Nat) (r : Rd) (hr : r.p.length ≤ 100000) (hok : r.ok) (w : World) (h : RdIs w 141 top g r) :
    Calls Tryd.prog 51 #[.pointer (some ⟨g, 0, none⟩)] w (OutsPost w 141 top g (outsR r) r.p.length) := by
  have H := Lib.hid h; have HK := Lib.hid (ok_after hok 1)
  have hgw := h.lt
  have hlt : numR 1 r < 256 := numR_lt 1 r
  have hal := after_len 1 r
  clear h hok
  go_enter Tryd.func51, Tryd.ntmps51
  go_wp2_with fail
  refine (byte_any top g r (by omega) w H.out).mono ?_
  rintro e w1 ⟨rfl, h1, h2⟩
  have HR1 := Lib.hid h1; have HO1 := Lib.hid h2
  have hsz1 := h2.size
  clear h1 h2
  by_cases hn : numR 1 r = 0 ∨ 4 < numR 1 r
  · have HA : Hid (outsR r = none) := by show _ = _; unfold outsR; rw [if_pos hn]
    generalize numR 1 r = n at *
    rcases hn with rfl | hn
    · go_wp2_with fail
      go_ret2
      exact ⟨HO1.out, .inl ⟨HA.out, rfl⟩⟩
    · have hn' : (4 : Int) < n := by omega
      have hn0 : ((n : Int) == 0) = false := by rw [beq_eq_false_iff_ne]; omega
      go_wp2_with fail
      go_ret2
      exact ⟨HO1.out, .inl ⟨HA.out, rfl⟩⟩
  · have HA : Hid (outsGo (numR 1 r) 0 [] (after 1 r) = outsR r) := by show _ = _; unfold outsR; rw [if_neg hn]
    generalize outsR r = all at *
    generalize numR 1 r = n at *
    have hn' : ¬ (4 : Int) < n := by omega
    have hn0 : ((n : Int) == 0) = false := by rw [beq_eq_false_iff_ne]; omega
    obtain ⟨z, hzl, HMK⟩ := run_mkO n (by omega) w1
    have HX : Hid (OtRel w top g w1.heap.size n all r.p.length 0 (w1.alloc (.cells z.toArray 57))) := by
      refine ⟨⟨[], z, after 1 r, rfl, hzl, ?_, (fun i hi => absurd hi (by simp)), HR1.out.below ((Below.refl _ _).alloc (Nat.le_refl _) _) HR1.out.lt, HK.out, hal, HA.out⟩, HO1.out.alloc _⟩
      have := Blk.new w1 57 z.toArray
      simpa using this
    clear hzl HR1
    go_wp2_with fail
    clear HMK
    go_loopw [23] (fun vv wr => ∃ k : Nat, k ≤ n ∧ vv = .int .i64 k ∧ Hid (OtRel w top g w1.heap.size n all r.p.length k wr)) (fun vv _ => n - (intOf vv).toNat)
    case atStart => exact ⟨0, Nat.zero_le _, rfl, HX.out⟩
    case round =>
      clear HX
      obtain ⟨k, hk, rfl, HXX⟩ := hrel
      rename World => W0
      obtain ⟨acc, cs, r1, hacc, hcs, hblk, hout, hr1, hok1, hlen, hgo⟩ := HXX.out.ex
      have HON := Lib.hid HXX.out.only
      have HR := Lib.hid hr1; have HK1 := Lib.hid hok1; have HGO := Lib.hid hgo; have HACC := Lib.hid hacc; have HCS := Lib.hid hcs; have HBLK := Lib.hid hblk; have HOUT := Lib.hid hout
      have hmW := Blk.lt hblk
      clear HXX hacc hcs hblk hr1 hok1 hgo hout
      by_cases hkn : k < n
      · go_wp2_with fail
        refine (readitem_any top g r1 (by omega) HK1.out W0 HR.out).mono ?_
        rintro e w2 ⟨A, ca, R, cr, rfl, hA, hAn, hR, hRn, h1, h2⟩
        have hb2 : Blk w2 w1.heap.size 57 cs := Blk.only HBLK.out h2 (by omega : w1.heap.size ≠ g)
        have c0 := hb2.cell (k * 4); have c1 := hb2.cell (k * 4 + 1); have c2 := hb2.cell (k * 4 + 2)
        have f0 := hb2.frozen (k * 4); have f1 := hb2.frozen (k * 4 + 1); have f2 := hb2.frozen (k * 4 + 2)
        have hcl := HCS.out
        rw [List.getElem?_eq_getElem (by omega)] at c0 c1 c2
        have hb3 : Blk _ w1.heap.size 57 _ := ((hb2.set (k * 4) (vs (iname r1))).set (k * 4 + 1) (.slice A (iarch r1).length ca)).set (k * 4 + 2) (.slice R (irefs r1).length cr)
        have ho3 := ((OnlyAt.refl w1.heap.size w2).setCell (k * 4) (vs (iname r1))).setCell (k * 4 + 1) (.slice A (iarch r1).length ca) |>.setCell (k * 4 + 2) (.slice R (irefs r1).length cr)
        have HR3 : Hid (RdIs _ 141 top g (itemA r1)) := h1.only ho3 (by omega : g ≠ w1.heap.size) (by have := h1.le; omega)
        have HON3 : Hid (OnlyAt g w _) := ((((HON.out.trans h2).setNew hsz1 (p := k * 4) (vs (iname r1))).setNew hsz1 (p := k * 4 + 1) (.slice A (iarch r1).length ca)).setNew hsz1 (p := k * 4 + 2) (.slice R (irefs r1).length cr))
        have hA3 := hA.onlyN ho3 (hAn.mono (by omega : w1.heap.size + 1 ≤ W0.heap.size)) (by omega)
        have hR3 := hR.onlyN ho3 (hRn.mono (by omega : w1.heap.size + 1 ≤ W0.heap.size)) (by omega)
        have hO3 : ∀ i (h : i < acc.length), OutC _ w1.heap.size _ (i * 4) acc[i] := fun i hi => ((((HOUT.out i hi).only h2 (by omega)).only ho3 (by omega)).set (p := k * 4) (vs (iname r1)) (by have := HACC.out; omega)).set (p := k * 4 + 1) (.slice A (iarch r1).length ca) (by have := HACC.out; omega) |>.set (p := k * 4 + 2) (.slice R (irefs r1).length cr) (by have := HACC.out; omega)
        have HB3 := Lib.hid hb3; have HA3 := Lib.hid hA3; have HRR3 := Lib.hid hR3; have HO3 := Lib.hid hO3
        have hszW : W0.heap.size ≤ w2.heap.size := h2.size
        have HAN : Hid (New (w1.heap.size + 1) A) := hAn.mono (by omega)
        have HRN : Hid (New (w1.heap.size + 1) R) := hRn.mono (by omega)
        have hil := itemA_len r1
        have HKI := Lib.hid (ok_itemA HK1.out)
        have HSOME : Hid (∀ ns r', needsR k (itemA r1) = some (ns, r') → outsGo (n - (k + 1)) (k + 1) (acc ++ [⟨iname r1, iarch r1, irefs r1, ns⟩]) r' = all) := fun ns r' hq => by rw [← outsGo_some n k acc r1 hkn hq]; exact HGO.out
        have HNONE : Hid (needsR k (itemA r1) = none → all = none) := fun hq => by rw [← HGO.out]; exact outsGo_none n k acc r1 hkn hq
        clear hb3 hA3 hR3 hO3 hA hAn hR hRn h1 h2 ho3 hb2 HBLK HOUT HR HON HGO
        generalize iname r1 = nm at *
        generalize iarch r1 = ar at *
        generalize irefs r1 = rf at *
        generalize itemA r1 = r2 at *
        go_wp2_with fail
        refine (readneeds_any top g k r2 (by omega) HKI.out _ HR3.out).mono ?_
        rintro e w4 ⟨ho4, hcase⟩
        have HON4 := Lib.hid (HON3.out.trans ho4)
        have hb4 : Blk w4 w1.heap.size 57 _ := Blk.only HB3.out ho4 (by omega : w1.heap.size ≠ g)
        have HO4 : Hid (∀ i (h : i < acc.length), OutC w4 w1.heap.size _ (i * 4) acc[i]) := fun i hi => (HO3.out i hi).only ho4 (by omega)
        have HA4 := Lib.hid (HA3.out.onlyN ho4 HAN.out (by omega))
        have HRR4 := Lib.hid (HRR3.out.onlyN ho4 HRN.out (by omega))
        have hsz4 := ho4.size
        have hsz3 : w1.heap.size + 1 ≤ (((w2.setCell ⟨w1.heap.size, k * 4, none⟩ (vs nm)).setCell ⟨w1.heap.size, k * 4 + 1, none⟩ (.slice A ar.length ca)).setCell ⟨w1.heap.size, k * 4 + 2, none⟩ (.slice R rf.length cr)).heap.size := by
          simp only [World.size_setCell]; omega
        have HB4 := Lib.hid hb4
        clear ho4 hb4 HB3 HO3 HA3 HRR3 HR3 HON3 c0 c1 c2 f0 f1 f2
        rcases hcase with ⟨hnone, rfl⟩ | ⟨ns, r3, M, cm, hsome, rfl, hM, hMn, hr3, hok3, hl3⟩
        · have HE := Lib.hid (HNONE.out hnone)
          clear hnone
          go_wp2_with fail
          go_ret2
          exact ⟨HON4.out, .inl ⟨HE.out, rfl⟩⟩
        · have HE := Lib.hid (HSOME.out ns r3 hsome)
          clear hsome
          have b4 : Blk w4 w1.heap.size 57 _ := HB4.out
          have c3 := b4.cell (k * 4 + 3); have f3 := b4.frozen (k * 4 + 3)
          have hcl2 : (((cs.set (k * 4) (vs nm)).set (k * 4 + 1) (.slice A ar.length ca)).set (k * 4 + 2) (.slice R rf.length cr)).length = n * 4 := by simp; exact hcl
          obtain ⟨y3, hy3⟩ : ∃ y, w4.cell? ⟨w1.heap.size, k * 4 + 3, none⟩ = some y := ⟨_, by rw [c3, List.getElem?_eq_getElem (by omega)]⟩
          clear c3
          have hb5 : Blk _ w1.heap.size 57 _ := b4.set (k * 4 + 3) (.slice M ns.length cm)
          have ho5 := (OnlyAt.refl w1.heap.size w4).setCell (k * 4 + 3) (.slice M ns.length cm)
          have hMn' : New (w1.heap.size + 1) M := fun a ha => Nat.le_trans hsz3 (hMn a ha)
          have HX5 : Hid (OtRel w top g w1.heap.size n all r.p.length (k + 1) (w4.setCell ⟨w1.heap.size, k * 4 + 3, none⟩ (.slice M ns.length cm))) := by
            refine ⟨⟨acc ++ [⟨nm, ar, rf, ns⟩], _, r3, by simp [HACC.out], ?_, hb5, ?_, hr3.only ho5 (by omega) (by have := hr3.le; omega), hok3, by omega, HE.out⟩, HON4.out.setNew hsz1 _⟩
            · rw [List.length_set]; exact hcl2
            · intro i hi
              by_cases hik : i < acc.length
              · rw [List.getElem_append_left hik]
                exact ((HO4.out i hik).only ho5 (Nat.le_refl _)).set (p := k * 4 + 3) _ (by have := HACC.out; omega)
              · have hik2 : i = acc.length := by simp at hi; omega
                subst hik2
                rw [List.getElem_append_right (Nat.le_refl _)]
                simp only [Nat.sub_self, List.getElem_cons_zero]
                have hak : acc.length = k := HACC.out
                rw [hak]
                refine ⟨A, ca, R, cr, M, cm, ?_, ?_, ?_, ?_, ⟨HA4.out.onlyN ho5 HAN.out (by omega), HRR4.out.onlyN ho5 HRN.out (by omega), hM.onlyN ho5 hMn' (by omega)⟩, HAN.out, HRN.out, hMn'⟩
                · simp [List.getElem?_set, hcl]; omega
                · simp [List.getElem?_set, hcl]; omega
                · simp [List.getElem?_set, hcl]; omega
                · simp [List.getElem?_set, hcl]; omega
          clear hb5 ho5 hM hMn hMn' hr3 hok3 b4 HB4 HO4 HA4 HRR4 HON4 HE HSOME HNONE hcl2
          go_wp2_with fail
          go_roundw
          case rel => exact ⟨k + 1, by omega, by go_num, HX5.out⟩
          case measure => simp [intOf]; omega
      · obtain rfl : k = n := by omega
        have HE : Hid (all = some (acc, r1)) := by
          show _ = _
          rw [← HGO.out, Nat.sub_self]; rfl
        have HN : Hid (OutsN W0 w.heap.size (some ⟨w1.heap.size, 0, none⟩) acc) := (outs_of HBLK.out HOUT.out).mono hsz1
        go_wp2_with fail
        go_ret2
        exact ⟨HON.out, .inr ⟨acc, r1, some ⟨w1.heap.size, 0, none⟩, k, HE.out, by rw [HACC.out]; rfl, HN.out, HR.out, HK1.out, hlen⟩⟩
end Go.Proofs.YtggmogjgaoobjaaDoor
