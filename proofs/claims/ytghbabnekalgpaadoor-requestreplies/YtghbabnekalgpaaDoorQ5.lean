/- The contracts of readItem and readNeeds. -/
import Derived.Test.YtghbabnekalgpaaDoorQ2
namespace Go.Proofs.YtghbabnekalgpaaDoor
open Go.RowKit BaseMath WireMath ReqMath

theorem textsGo_len : ∀ (k : Nat) (acc : List (List By)) (r : Rd), (textsGo k acc r).1.length ≤ acc.length + k ∧ (textsGo k acc r).2.p.length ≤ r.p.length
  | 0, acc, r => by simp [textsGo]
  | k + 1, acc, r => by
    unfold textsGo; split
    · simp
    · have h := textsGo_len k (acc ++ [textR r]) (textA r)
      have h2 := textA_len r
      simp at h; exact ⟨by omega, by omega⟩
theorem textsA_len (m : Int) (r : Rd) : (textsA m r).p.length ≤ r.p.length := by
  unfold textsA textsAll
  refine Nat.le_trans (textsGo_len _ _ _).2 ?_
  unfold texts0; split
  · exact Nat.zero_le _
  · exact after_len 1 r
theorem itemA_len (r : Rd) : (itemA r).p.length ≤ r.p.length := Nat.le_trans (textsA_len _ _) (Nat.le_trans (textA_len _) (textA_len _))
theorem ok_itemA {r : Rd} (h : r.ok) : (itemA r).ok := ok_textsA (ok_textA (ok_textA h)) 16
/-- the data of a slice lies in new blocks -/
def New (n : Nat) (A : Option Addr) : Prop := ∀ a, A = some a → n ≤ a.block
theorem RdIs.lt {w : World} {T : TypeId} {top g : Nat} {r : Rd} (h : RdIs w T top g r) : g < w.heap.size := by obtain ⟨_, _, hb, _⟩ := h.ex; exact hb.lt
theorem SrcIs.onlyN {w w' : World} {A : Option Addr} {p : List By} {g n : Nat} (h : SrcIs w A p) (ho : OnlyAt g w w') (hn : New n A) (hg : g < n) : SrcIs w' A p := h.only ho (fun _ a ha => by have := hn a ha; omega)
theorem StrsIs.onlyN {w w' : World} {A : Option Addr} {p : List (List By)} {g n : Nat} (h : StrsIs w A p) (ho : OnlyAt g w w') (hn : New n A) (hg : g < n) : StrsIs w' A p := fun h0 => by
  obtain ⟨b, o, rfl, hc⟩ := h h0
  have hb : b < w.heap.size := block_of_cell (hc 0 h0)
  have := hn _ rfl
  simp only at this
  refine ⟨b, o, rfl, fun k hk => ?_⟩
  rw [World.cell?_of_block (w := w) (a := ⟨b, o + k, none⟩) (ho.other b hb (by omega))]; exact hc k hk
/-- what readItem comes to -/
def ItemPost (w : World) (T : TypeId) (top g : Nat) (r : Rd) (e : Ending) (w' : World) : Prop :=
  ∃ A ca R cr, e = .returned (.tuple #[vs (iname r), .slice A (iarch r).length ca, .slice R (irefs r).length cr]) ∧ SrcIs w' A (iarch r) ∧ New w.heap.size A ∧ StrsIs w' R (irefs r) ∧ New w.heap.size R ∧ RdIs w' T top g (itemA r) ∧ OnlyAt g w w'
set_option maxHeartbeats 2000000 in
set_option maxRecDepth 100000 in
theorem readitem_any (top g : Nat) (r : Rd) (hr : r.p.length ≤ 100000) (hok : r.ok) (w : World) (h : RdIs w 141 top g r) :
    Calls Tryd.prog 50 #[.pointer (some ⟨g, 0, none⟩)] w (ItemPost w 141 top g r) := by
  have H := Lib.hid h; have HK2 := Lib.hid (ok_textA (ok_textA hok))
  have hgw := h.lt
  have hl1 := textA_len r
  have hl2 := textA_len (textA r)
  have HD0 : Hid (textR r = iname r) := rfl
  have HD1 : Hid (textR (textA r) = iarch r) := rfl
  have HD2 : Hid (textsR 16 (textA (textA r)) = irefs r) := rfl
  have HD3 : Hid (textsA 16 (textA (textA r)) = itemA r) := rfl
  clear h hok
  go_enter Tryd.func50, Tryd.ntmps50
  go_wp2_with fail
  refine (rtext_any top g r (by omega) w H.out).mono ?_
  rintro e w1 ⟨rfl, h1, h2⟩
  have HR1 := Lib.hid h1; have HO1 := Lib.hid h2
  clear h1 h2
  go_wp2_with fail
  refine (rtext_any top g (textA r) (by omega) w1 HR1.out).mono ?_
  rintro e w2 ⟨rfl, h1, h2⟩
  obtain ⟨c, w3, hcv, hsrc, hb⟩ := str_bytes (textR (textA r)) w2
  have hs2 : w.heap.size ≤ w2.heap.size := Nat.le_trans HO1.out.size h2.size
  have hg3 : g < w2.heap.size := by omega
  have HR3 := Lib.hid (h1.below hb hg3)
  have HO3 : Hid (OnlyAt g w w3) := (HO1.out.trans h2).trans (OnlyAt.of_below hb)
  have HS3 := Lib.hid hsrc
  have hs3 := hb.size
  clear h1 h2 hsrc hb HR1
  go_wp2_with fail
  refine (rtexts_any top g 16 (textA (textA r)) (by omega) HK2.out w3 HR3.out).mono ?_
  rintro e w4 ⟨v4, rfl, ho4, h1, h2⟩
  obtain ⟨R, cr, rfl, hR, hRn⟩ := own_strs ho4
  have HR4 := Lib.hid h1; have HO4 := Lib.hid (HO3.out.trans h2)
  have HS4 : Hid (SrcIs w4 (some ⟨w2.heap.size, 0, none⟩) (textR (textA r))) := HS3.out.onlyN h2 (n := w.heap.size) (fun a ha => by cases ha; exact hs2) hgw
  have HRR := Lib.hid hR
  have HRN : Hid (New w.heap.size R) := fun a ha => by have := (hRn a ha).1; omega
  clear h1 h2 ho4 hR hRn HR3 HS3
  go_wp2_with fail
  refine bodyPost_ret (v := .tuple #[vs (iname r), .slice (some ⟨w2.heap.size, 0, none⟩) (iarch r).length c, .slice R (irefs r).length cr]) (by simp [results, Tryd.results50, go_sem, HD0.out, HD1.out, HD2.out]) rfl ⟨_, _, _, _, rfl, HS4.out, (fun a ha => by cases ha; exact hs2), HRR.out, HRN.out, HR4.out, HO4.out⟩
theorem info3i : (Tryd.prog.info? 3).map (fun i => (i.zero, i.size, i.bytes)) = some (some (.int .i64 0), 1, 8) := by kernel_rfl
theorem made_zeroI (n : Nat) (z : Value) : madeCells #[z] n = (List.replicate n z).toArray := by
  apply Array.ext
  · simp [madeCells]
  · intro i h1 h2
    simp [madeCells, Nat.mod_one]
theorem run_mkI (l : Nat) (hc : l ≤ 1000) (w : World) : (Instr.makeSlice 55 (.int .i64 l) (.int .i64 l)).run Tryd.prog w = .ok (.slice (some ⟨w.heap.size, 0, none⟩) l l) (w.alloc (.cells (List.replicate l (.int .i64 0)).toArray 3)) := by
  obtain ⟨i, hi, hz, hs, hb⟩ := info_parts info3i
  have := run_make (P := Tryd.prog) w 55 3 i (.int .i64 0) Tryd.underlying55 hi hz .i64 .i64 l l (by omega) (by omega) (by rw [hb]; omega) (by omega)
  rw [this, hs]
  simp only [Int.toNat_natCast, Nat.mul_one]
  rw [show (Value.int .i64 0).cells = #[Value.int .i64 0] from rfl, made_zeroI]
abbrev vi (n : Int) : Value := .int .i64 n
/-- while the needs are read -/
structure NdRel (w : World) (top g m n place : Nat) (all : Option (List Int × Rd)) (L k : Nat) (wr : World) : Prop where
  ex : ∃ (acc : List Int) (rest : List Value) (r : Rd), acc.length = k ∧ rest.length = n - k ∧ Blk wr m 3 (acc.map vi ++ rest) ∧ RdIs wr 141 top g r ∧ r.ok ∧ r.p.length ≤ L ∧ needsGo place (n - k) acc r = all
  only : OnlyAt g w wr
theorem needsGo_step (place n k : Nat) (acc : List Int) (r : Rd) (hk : k < n) (h : numR 1 r < place) : needsGo place (n - k) acc r = needsGo place (n - (k + 1)) (acc ++ [(numR 1 r : Int)]) (after 1 r) := by
  rw [show n - k = (n - (k + 1)) + 1 by omega]
  conv => lhs; unfold needsGo
  rw [if_neg (by omega)]
theorem needsGo_none (place n k : Nat) (acc : List Int) (r : Rd) (hk : k < n) (h : place ≤ numR 1 r) : needsGo place (n - k) acc r = none := by
  rw [show n - k = (n - (k + 1)) + 1 by omega]
  unfold needsGo
  rw [if_pos h]
/-- what readNeeds comes to -/
def NeedsPost (w : World) (T : TypeId) (top g : Nat) (all : Option (List Int × Rd)) (L : Nat) (e : Ending) (w' : World) : Prop :=
  OnlyAt g w w' ∧ ((all = none ∧ e = .returned (.tuple #[.slice none 0 0, .bool false])) ∨
    ∃ ns r M cm, all = some (ns, r) ∧ e = .returned (.tuple #[.slice M ns.length cm, .bool true]) ∧ NeedsAt w' M ns ∧ New w.heap.size M ∧ RdIs w' T top g r ∧ r.ok ∧ r.p.length ≤ L)
set_option maxHeartbeats 4000000 in
set_option maxRecDepth 100000 in
theorem readneeds_any (top g place : Nat) (r : Rd) (hr : r.p.length ≤ 100000) (hok : r.ok) (w : World) (h : RdIs w 141 top g r) :
    Calls Tryd.prog 89 #[.pointer (some ⟨g, 0, none⟩), .int .i64 place] w (NeedsPost w 141 top g (needsR place r) r.p.length) := by
  have H := Lib.hid h; have HK := Lib.hid (ok_after hok 1)
  have hgw := h.lt
  have hlt : numR 1 r < 256 := numR_lt 1 r
  have hal := after_len 1 r
  clear h hok
  go_enter Tryd.func89, Tryd.ntmps89
  go_wp2_with fail
  refine (byte_any top g r (by omega) w H.out).mono ?_
  rintro e w1 ⟨rfl, h1, h2⟩
  have HR1 := Lib.hid h1; have HO1 := Lib.hid h2
  have hsz1 := h2.size
  clear h1 h2
  by_cases hn : 4 ≤ numR 1 r
  · have HA : Hid (needsR place r = none) := by show _ = _; unfold needsR; rw [if_pos hn]
    generalize numR 1 r = n at *
    have hn' : (4 : Int) ≤ n := by omega
    go_wp2_with fail
    go_ret2
    exact ⟨HO1.out, .inl ⟨HA.out, rfl⟩⟩
  · have HA : Hid (needsGo place (numR 1 r) [] (after 1 r) = needsR place r) := by show _ = _; unfold needsR; rw [if_neg hn]
    generalize needsR place r = all at *
    generalize numR 1 r = n at *
    have hn' : ¬ (4 : Int) ≤ n := by omega
    have HMK := run_mkI n (by omega) w1
    obtain ⟨z, hz⟩ : ∃ z, z = List.replicate n (Value.int .i64 0) := ⟨_, rfl⟩
    rw [← hz] at HMK
    have hzl : z.length = n := by rw [hz]; simp
    have HX : Hid (NdRel w top g w1.heap.size n place all r.p.length 0 (w1.alloc (.cells z.toArray 3))) := by
      refine ⟨⟨[], z, after 1 r, rfl, by omega, ?_, HR1.out.below ((Below.refl _ _).alloc (Nat.le_refl _) _) HR1.out.lt, HK.out, hal, HA.out⟩, HO1.out.alloc _⟩
      have := Blk.new w1 3 z.toArray
      simpa using this
    clear hz HR1
    go_wp2_with fail
    go_loopw [18] (fun vv wr => ∃ k : Nat, k ≤ n ∧ vv = .int .i64 k ∧ Hid (NdRel w top g w1.heap.size n place all r.p.length k wr)) (fun vv _ => n - (intOf vv).toNat)
    case atStart => exact ⟨0, Nat.zero_le _, rfl, HX.out⟩
    case round =>
      clear HX
      obtain ⟨k, hk, rfl, HXX⟩ := hrel
      rename World => W0
      obtain ⟨acc, rest, r1, hacc, hrest, hblk, hr1, hok1, hlen, hgo⟩ := HXX.out.ex
      have HON := Lib.hid HXX.out.only
      have HR := Lib.hid hr1; have HK1 := Lib.hid hok1; have HGO := Lib.hid hgo; have HACC := Lib.hid hacc; have HREST := Lib.hid hrest; have HBLK := Lib.hid hblk
      clear HXX hacc hrest hblk hr1 hok1 hgo
      by_cases hkn : k < n
      · have hb256 : numR 1 r1 < 256 := numR_lt 1 r1
        have hal1 := after_len 1 r1
        go_wp2_with fail
        refine (byte_any top g r1 (by omega) W0 HR.out).mono ?_
        rintro e w2 ⟨rfl, h1, h2⟩
        have HR2 := Lib.hid h1
        have HON2 := Lib.hid (HON.out.trans h2)
        have hb2 : Blk w2 w1.heap.size 3 (acc.map vi ++ rest) := Blk.only HBLK.out h2 (by omega : w1.heap.size ≠ g)
        have c0 := hb2.cell k; have f0 := hb2.frozen k
        obtain ⟨y, rest', hre⟩ : ∃ y rest', rest = y :: rest' := by
          cases hrr : rest with
          | nil => have := HREST.out; rw [hrr] at this; simp at this; omega
          | cons y t => exact ⟨y, t, rfl⟩
        subst hre
        have hck : (acc.map vi ++ y :: rest')[k]? = some y := by
          rw [List.getElem?_append_right (by simp [HACC.out])]; simp [HACC.out]
        rw [hck] at c0
        have hset : (acc.map vi ++ y :: rest').set k (vi (numR 1 r1 : Nat)) = (acc ++ [((numR 1 r1 : Nat) : Int)]).map vi ++ rest' := by
          rw [List.set_append_right _ _ (by simp [HACC.out])]; simp [HACC.out]
        have hb3 : Blk _ _ _ _ := hb2.set k (vi (numR 1 r1 : Nat))
        rw [hset] at hb3
        have hg2 : g < w2.heap.size := h1.lt
        have HR3 : Hid (RdIs (w2.setCell ⟨w1.heap.size, k, none⟩ (vi (numR 1 r1 : Nat))) 141 top g (after 1 r1)) := h1.only ((OnlyAt.refl w1.heap.size w2).setCell k _) (by omega) (by have := h1.le; omega)
        have HON3 : Hid (OnlyAt g w (w2.setCell ⟨w1.heap.size, k, none⟩ (vi (numR 1 r1 : Nat)))) := by
          have ho := HON2.out
          exact ⟨ho.os, ho.tape, ho.output, by rw [World.size_setCell]; exact ho.size, fun c hc hne => by rw [Below.heap_setCell w2 ⟨w1.heap.size, k, none⟩ _ c (by simp; omega)]; exact ho.other c hc hne⟩
        have HB3 := Lib.hid hb3
        have HSTEP : Hid (numR 1 r1 < place → needsGo place (n - (k + 1)) (acc ++ [((numR 1 r1 : Nat) : Int)]) (after 1 r1) = all) := fun hp => by rw [← needsGo_step place n k acc r1 hkn hp]; exact HGO.out
        have HNONE : Hid (place ≤ numR 1 r1 → all = none) := fun hp => by rw [← HGO.out]; exact needsGo_none place n k acc r1 hkn hp
        have HK3 := Lib.hid (ok_after HK1.out 1)
        have d0 := hb3.cell k
        have hck2 : ((acc ++ [((numR 1 r1 : Nat) : Int)]).map vi ++ rest')[k]? = some (vi (numR 1 r1 : Nat)) := by
          rw [List.getElem?_append_left (by simp [HACC.out])]; simp [HACC.out]
        rw [hck2] at d0
        clear h1 h2 hb2 hb3 hset hck hck2 HBLK HR HON HGO HK1
        generalize numR 1 r1 = b at *
        generalize after 1 r1 = r2 at *
        by_cases hp : place ≤ b
        · have hp' : (place : Int) ≤ b := by omega
          go_wp2_with fail
          go_ret2
          exact ⟨HON3.out, .inl ⟨HNONE.out hp, rfl⟩⟩
        · have hp' : ¬ (place : Int) ≤ b := by omega
          have HX2 : Hid (NdRel w top g w1.heap.size n place all r.p.length (k + 1) (w2.setCell ⟨w1.heap.size, k, none⟩ (vi b))) := ⟨⟨acc ++ [(b : Int)], rest', r2, by simp [HACC.out], by have := HREST.out; simp at this; omega, HB3.out, HR3.out, HK3.out, by omega, HSTEP.out (by omega)⟩, HON3.out⟩
          clear HB3 HR3 HK3 HSTEP HNONE HON3 HON2 HR2
          go_wp2_with fail
          go_roundw
          case rel => exact ⟨k + 1, by omega, by go_num, HX2.out⟩
          case measure => simp [intOf]; omega
      · obtain rfl : k = n := by omega
        have HE : Hid (all = some (acc, r1)) := by
          show _ = _
          rw [← HGO.out, Nat.sub_self]; rfl
        have HN : Hid (NeedsAt W0 (some ⟨w1.heap.size, 0, none⟩) acc) := fun _ => ⟨w1.heap.size, 0, rfl, fun i hi => by rw [Nat.zero_add, Blk.cell HBLK.out, List.getElem?_append_left (by simpa using hi)]; simp [hi]⟩
        go_wp2_with fail
        go_ret2
        exact ⟨HON.out, .inr ⟨acc, r1, some ⟨w1.heap.size, 0, none⟩, k, HE.out, by rw [HACC.out]; rfl, HN.out, (fun a ha => by cases ha; exact hsz1), HR.out, HK1.out, hlen⟩⟩
end Go.Proofs.YtghbabnekalgpaaDoor
