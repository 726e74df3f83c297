/- The walk of RequestMany. -/
import Derived.Test.YtggmogjgaoobjaaDoorXCT21
import Derived.Test.YtggmogjgaoobjaaDoorXCT22
import Derived.Test.YtggmogjgaoobjaaDoorXCT25
namespace Go.Proofs.YtggmogjgaoobjaaDoor
open Go.RowKit BaseMath WireMath ReqMath

/-- an Out as the law lays it -/
def manyO (o : OutV) : Prop := o.name = [110] ∧ o.arch = [] ∧ (∃ m, m ≤ 19 ∧ o.refs = List.replicate m [114]) ∧ o.needs.length ≤ 5
theorem manyO_len {o : OutV} (h : manyO o) : (outB o).length ≤ 80 ∧ o.refs.length ≤ 255 := by
  obtain ⟨h1, h2, ⟨m, hm, h3⟩, h4⟩ := h
  rw [outB_length, itemB_length, h1, h2, h3, flat_rep]
  simp; omega
theorem manyO_flat : ∀ l : List OutV, (∀ x ∈ l, manyO x) → (l.flatMap outB).length ≤ 80 * l.length
  | [], _ => by simp
  | x :: l, h => by
    have h1 := (manyO_len (h x (by simp))).1
    have h2 := manyO_flat l (fun y hy => h y (by simp [hy]))
    rw [List.flatMap_cons, List.length_append, List.length_cons]; omega
/-- what stands ahead of a round -/
structure MRel (w : World) (q k : Nat) (wr : World) : Prop where
  ex : ∃ (acc : List OutV) (cells : List Value) (v : Value), acc.length = k ∧ cells.length = k * 4 ∧ wr.ownsRow (q + 1) 57 4 v k cells ∧ Blk wr q 40 [.int .u8 7, .string ⟨#[]⟩, .string ⟨#[]⟩, ns, ns, v] ∧ (∀ i (h : i < acc.length), OutD wr q v cells (i * 4) acc[i]) ∧ (∀ x ∈ acc, manyO x)
  below : Below w.heap.size w wr
theorem own_block {w : World} {base e n : Nat} {v : Value} {xs : List Value} (h : w.ownsRow base e 1 v n xs) (h0 : 0 < n) : ∃ g cap cur, v = .slice (some ⟨g, 0, none⟩) n cap ∧ base ≤ g ∧ w.heap[g]? = some (.cells cur e (0, 0)) ∧ n ≤ cap ∧ cap ≤ maxLen ∧ cur.size = cap ∧ cur.toList.take (n * 1) = xs := by
  rcases h.2 with ⟨_, h1⟩ | ⟨g, cap, cur, hv, hg, hc, hn, hm, hs, ht⟩
  · omega
  · exact ⟨g, cap, cur, hv, hg, hc, hn, hm, by rw [hs, Nat.mul_one], ht⟩
theorem row_of_blk {w : World} {base g n cap : Nat} {e : TypeId} {xs tl : List Value} (hb : Blk w g e (xs ++ tl)) (hg : base ≤ g) (hl : xs.length = n) (ht : tl.length = cap - n) (hn : n ≤ cap) (hm : cap ≤ maxLen) : w.ownsRow base e 1 (.slice (some ⟨g, 0, none⟩) n cap) n xs := by
  refine ⟨by simp [hl], .inr ⟨g, cap, (xs ++ tl).toArray, rfl, hg, hb, hn, hm, by simp; omega, ?_⟩⟩
  rw [Nat.mul_one, ← hl]; simp
/-- a byte's rest as a number -/
theorem rest_of (k : By) (m : Nat) (hm : 0 < m) : ∃ n : Nat, n < m ∧ n = k.toNat % m ∧ ((k.toNat : Int) % (m : Int)) = (n : Int) ∧ Int.tmod (k.toNat : Int) (m : Int) = (n : Int) := by
  refine ⟨k.toNat % m, Nat.mod_lt _ hm, rfl, by rw [Int.natCast_emod], ?_⟩
  rw [Int.tmod_eq_emod_of_nonneg (by omega), Int.natCast_emod]
set_option maxHeartbeats 8000000 in
set_option maxRecDepth 100000 in
theorem many_walk (o r' d x : By) (w : World) (ht : KTab w) :
    Calls Tryd.prog 6 #[vb o, vb r', vb d, vb x] w fun e w' => e = .returned (.bool true) ∧ Below w.heap.size w w' := by
  have HT := Lib.hid ht; clear ht
  have h1 : o.toNat < 256 := o.toNat_lt
  have h2 : r'.toNat < 256 := r'.toNat_lt
  have h3 : d.toNat < 256 := d.toNat_lt
  have h4 : x.toNat < 256 := x.toNat_lt
  go_enter Tryd.func6, Tryd.ntmps6
  go_wp2_with fail
  refine (lone_any w HT.out).mono ?_
  rintro e w1 ⟨rfl, hb1⟩
  have HB1 := Lib.hid hb1
  have HWW : Hid (w.heap.size ≤ w1.heap.size) := hb1.size
  have HX : Hid (MRel w w1.heap.size 0 (w1.alloc (.cells #[.int .u8 7, .string ⟨#[]⟩, .string ⟨#[]⟩, ns, ns, ns] 40))) :=
    ⟨⟨[], [], .slice none 0 0, rfl, rfl, World.ownsRow_nil _ _ _ _, Blk.new w1 40 _, (fun i hi => absurd hi (by simp)), (fun x hx => by cases hx)⟩, hb1.alloc hb1.size _⟩
  clear hb1
  go_wp2_with fail
  go_loopw [10] (fun vv wr => ∃ k : Nat, k ≤ o.toNat % 7 ∧ vv = .int .i64 k ∧ Hid (MRel w w1.heap.size k wr)) (fun vv _ => o.toNat % 7 - (intOf vv).toNat)
  case atStart => exact ⟨0, Nat.zero_le _, rfl, HX.out⟩
  case round =>
    clear HX
    obtain ⟨k, hk, rfl, HXX⟩ := hrel
    rename World => W0
    obtain ⟨acc, cells, v0, hacc, hcl, hown, hbox, hD, hM⟩ := HXX.out.ex
    obtain ⟨O1, oc, hv⟩ := own_form hown
    subst hv
    have HB := Lib.hid HXX.out.below
    have HACC := Lib.hid hacc; have HCL := Lib.hid hcl; have HOWN := Lib.hid hown; have HBOX := Lib.hid hbox; have HDD := Lib.hid hD; have HM := Lib.hid hM
    have hqW : w1.heap.size < W0.heap.size := Blk.lt hbox
    have HROW : Hid (∀ c, (Value.slice O1 k oc).ownBlock = some c → w1.heap.size + 1 ≤ c ∧ c < W0.heap.size) := fun c hc => hown.lt c hc
    clear HXX hacc hcl hown hbox hD hM
    by_cases hkn : k < o.toNat % 7
    · have ht : (k : Int) < (o.toNat : Int) % 7 := by omega
      have hbx : Blk (W0.alloc (.cells #[.string ⟨#[110]⟩, ns, ns, ns] 57)) W0.heap.size 57 [.string ⟨#[110]⟩, ns, ns, ns] := Blk.new W0 57 _
      have HI1 : Hid (∃ R c, Blk (W0.alloc (.cells #[.string ⟨#[110]⟩, ns, ns, ns] 57)) W0.heap.size 57 [.string ⟨#[110]⟩, ns, .slice R 0 c, ns] ∧ (W0.alloc (.cells #[.string ⟨#[110]⟩, ns, ns, ns] 57)).ownsRow (W0.heap.size + 1) 9 1 (.slice R 0 c) 0 ((List.replicate 0 ([114] : List By)).map vs) ∧ Below W0.heap.size W0 (W0.alloc (.cells #[.string ⟨#[110]⟩, ns, ns, ns] 57))) :=
        ⟨none, 0, hbx, World.ownsRow_nil _ _ _ _, (Below.refl _ _).alloc (Nat.le_refl _) _⟩
      clear hbx
      go_wp2_with fail
      go_loopw [12] (fun vv wr => ∃ j : Nat, j ≤ r'.toNat % 20 ∧ vv = .int .i64 j ∧ Hid (∃ R c, Blk wr W0.heap.size 57 [.string ⟨#[110]⟩, ns, .slice R j c, ns] ∧ wr.ownsRow (W0.heap.size + 1) 9 1 (.slice R j c) j ((List.replicate j ([114] : List By)).map vs) ∧ Below W0.heap.size W0 wr)) (fun vv _ => r'.toNat % 20 - (intOf vv).toNat)
      case atStart => exact ⟨0, Nat.zero_le _, rfl, HI1.out⟩
      case round =>
        clear HI1
        obtain ⟨j, hj, rfl, HYY⟩ := hrel
        rename World => V0
        obtain ⟨R, rc, hb, hownR, hbe⟩ := HYY.out
        have HBX := Lib.hid hb; have HOR := Lib.hid hownR; have HBE := Lib.hid hbe
        have hbV : W0.heap.size < V0.heap.size := Blk.lt hb
        clear HYY hb hownR hbe
        by_cases hjm : j < r'.toNat % 20
        · have hjt : (j : Int) < (r'.toNat : Int) % 20 := by omega
          have b2 := Blk.cell HBX.out 2; have f2 := Blk.frozen HBX.out 2
          simp only [List.getElem?_cons_zero, List.getElem?_cons_succ] at b2
          obtain ⟨i9, hi9, hz0, hz1, hz2⟩ := info_parts info9
          have HI := Lib.hid hi9; have HZ0 := Lib.hid hz0; have HZ1 := Lib.hid hz1; have HZ2 := Lib.hid hz2
          clear hi9 hz0 hz1 hz2
          go_wp2_with (refine wpList_append_own _ rfl (.tmp 37) (.tmp 38) 32 rfl (W0.heap.size + 1) 9 i9 (.string ⟨#[]⟩) 1 16 Tryd.underlying32 HI.out HZ0.out HZ1.out HZ2.out rfl (by decide) (.slice R j rc) j ((List.replicate j ([114] : List By)).map vs) rfl (HOR.out.alloc _) ⟨V0.heap.size, 0, none⟩ 1 1 [.string ⟨#[114]⟩] rfl rfl (new_cells V0 9 [.string ⟨#[114]⟩]) (by intro y hy; rw [List.mem_singleton.1 hy]; rfl) (by unfold maxLen; omega) (by omega) (by simp; omega) ?_)
          intro u1 v3 ho3 hg3 _
          have hrow : ∀ c, (Value.slice R j rc).ownBlock = some c → W0.heap.size + 1 ≤ c := fun c hc => (HOR.out.lt c hc).1
          have hbl3 : Below (W0.heap.size + 1) V0 v3 := ((Below.refl (W0.heap.size + 1) V0).alloc (by omega) _).grown hg3 (by simp; omega) hrow
          have hbx3 : Blk v3 W0.heap.size 57 _ := Blk.below HBX.out hbl3 (by omega)
          obtain ⟨O3, oc3, hu3⟩ := own_form ho3
          subst hu3
          have b2' := Blk.cell hbx3 2; have f2' := Blk.frozen hbx3 2
          simp only [List.getElem?_cons_zero, List.getElem?_cons_succ] at b2'
          have hcne : ∀ c, (Value.slice O3 (j + 1) oc3).ownBlock = some c → (v3.setCell ⟨W0.heap.size, 2, none⟩ (.slice O3 (j + 1) oc3)).heap[c]? = v3.heap[c]? := fun c hc => Below.heap_setCell v3 ⟨W0.heap.size, 2, none⟩ _ c (by have := (ho3.lt c hc).1; simp only; omega)
          have HX2 : Hid (∃ R c, Blk (v3.setCell ⟨W0.heap.size, 2, none⟩ (.slice O3 (j + 1) oc3)) W0.heap.size 57 [.string ⟨#[110]⟩, ns, .slice R (j + 1) c, ns] ∧ (v3.setCell ⟨W0.heap.size, 2, none⟩ (.slice O3 (j + 1) oc3)).ownsRow (W0.heap.size + 1) 9 1 (.slice R (j + 1) c) (j + 1) ((List.replicate (j + 1) ([114] : List By)).map vs) ∧ Below W0.heap.size W0 (v3.setCell ⟨W0.heap.size, 2, none⟩ (.slice O3 (j + 1) oc3))) := by
            refine ⟨O3, oc3, ?_, ?_, ?_⟩
            · have := hbx3.set 2 (.slice O3 (j + 1) oc3)
              simpa using this
            · have := ownsRow_keepG ho3 hcne
              rw [List.replicate_succ', List.map_append]; simpa using this
            · exact (HBE.out.trans (hbl3.mono (by omega))).setCell (by simp only; omega) _
          clear ho3 hg3 hrow hbl3 hbx3 hcne HBX HOR HBE b2 f2
          go_wp2_with fail
          go_roundw
          case rel => exact ⟨j + 1, by omega, by go_num, HX2.out⟩
          case measure => simp [intOf]; omega
        · have hjt : ¬ ((j : Int) < (r'.toNat : Int) % 20) := by omega
          have hj19 : j ≤ 19 := by omega
          have HI2 : Hid (∃ (M : List Int) (A : Option Addr) (c : Nat), M.length = 0 ∧ Blk V0 W0.heap.size 57 [.string ⟨#[110]⟩, ns, .slice R j rc, .slice A 0 c] ∧ V0.ownsRow V0.heap.size 3 1 (.slice A 0 c) 0 (M.map vi) ∧ OnlyAt W0.heap.size V0 V0) := ⟨[], none, 0, rfl, HBX.out, World.ownsRow_nil _ _ _ _, OnlyAt.refl _ _⟩
          clear HBX
          go_wp2_with fail
          go_loopw [13] (fun vv wr => ∃ i : Nat, i ≤ d.toNat % 6 ∧ vv = .int .i64 i ∧ Hid (∃ (M : List Int) (A : Option Addr) (c : Nat), M.length = i ∧ Blk wr W0.heap.size 57 [.string ⟨#[110]⟩, ns, .slice R j rc, .slice A i c] ∧ wr.ownsRow V0.heap.size 3 1 (.slice A i c) i (M.map vi) ∧ OnlyAt W0.heap.size V0 wr)) (fun vv _ => d.toNat % 6 - (intOf vv).toNat)
          case atStart => exact ⟨0, Nat.zero_le _, rfl, HI2.out⟩
          case round =>
            clear HI2
            obtain ⟨i, hi, rfl, HYY⟩ := hrel
            rename World => V1
            obtain ⟨M, A2, c2, hml, hb, hownM, hon⟩ := HYY.out
            have HBX2 := Lib.hid hb; have HOM := Lib.hid hownM; have HON := Lib.hid hon; have HML := Lib.hid hml
            have hV1 : V0.heap.size ≤ V1.heap.size := hon.size
            clear HYY hb hownM hon hml
            have hi5 : i ≤ 5 := by omega
            by_cases him : i < d.toNat % 6
            · have hit : (i : Int) < (d.toNat : Int) % 6 := by omega
              by_cases hk0 : 0 < k
              · have hk0' : (0 : Int) < (k : Int) := by omega
                obtain ⟨i3, hi3, hz0, hz1, hz2⟩ := info_parts info3i
                have HI := Lib.hid hi3; have HZ0 := Lib.hid hz0; have HZ1 := Lib.hid hz1; have HZ2 := Lib.hid hz2
                clear hi3 hz0 hz1 hz2
                have hk6 : k ≤ 6 := by omega
                have hc3 : x.toNat % 3 = 0 ∨ x.toNat % 3 = 1 ∨ x.toNat % 3 = 2 := by omega
                rcases hc3 with hc3 | hc3 | hc3
                · have hx3 : (x.toNat : Int) % 3 = 0 := by omega
                  clear hc3
                  have b3 := Blk.cell HBX2.out 3; have f3 := Blk.frozen HBX2.out 3
                  simp only [List.getElem?_cons_zero, List.getElem?_cons_succ] at b3
                  go_wp2_with (refine wpList_append_own _ rfl (.tmp 53) (.tmp 63) 55 rfl V0.heap.size 3 i3 (.int .i64 0) 1 8 Tryd.underlying55 HI.out HZ0.out HZ1.out HZ2.out rfl (by decide) (.slice A2 i c2) i (M.map vi) rfl (HOM.out.alloc _) ⟨V1.heap.size, 0, none⟩ 1 1 [vi ((k : Int) % 256)] rfl rfl (new_cells V1 3 [vi ((k : Int) % 256)]) (by intro y hy; rw [List.mem_singleton.1 hy]; rfl) (by unfold maxLen; omega) (by omega) (by simp; omega) ?_)
                  intro u1 v3 ho3 hg3 _
                  have hrow : ∀ c, (Value.slice A2 i c2).ownBlock = some c → V0.heap.size ≤ c := fun c hc => (HOM.out.lt c hc).1
                  have hbl3 : Below V0.heap.size V1 v3 := ((Below.refl V0.heap.size V1).alloc (by omega) _).grown hg3 (by simp; omega) hrow
                  have hbx3 : Blk v3 W0.heap.size 57 _ := Blk.below HBX2.out hbl3 (by omega)
                  obtain ⟨A3, c3, hu3⟩ := own_form ho3
                  subst hu3
                  have b3' := Blk.cell hbx3 3; have f3' := Blk.frozen hbx3 3
                  simp only [List.getElem?_cons_zero, List.getElem?_cons_succ] at b3'
                  have hcne : ∀ c, (Value.slice A3 (i + 1) c3).ownBlock = some c → (v3.setCell ⟨W0.heap.size, 3, none⟩ (.slice A3 (i + 1) c3)).heap[c]? = v3.heap[c]? := fun c hc => Below.heap_setCell v3 ⟨W0.heap.size, 3, none⟩ _ c (by have := (ho3.lt c hc).1; simp only; omega)
                  have ho4 := ownsRow_keepG ho3 hcne
                  have hb4 : Blk (v3.setCell ⟨W0.heap.size, 3, none⟩ (.slice A3 (i + 1) c3)) W0.heap.size 57 [.string ⟨#[110]⟩, ns, .slice R j rc, .slice A3 (i + 1) c3] := by
                    have := hbx3.set 3 (.slice A3 (i + 1) c3)
                    simpa using this
                  have hon4 : OnlyAt W0.heap.size V0 (v3.setCell ⟨W0.heap.size, 3, none⟩ (.slice A3 (i + 1) c3)) := ((HON.out.alloc _).grown hg3 hrow).setCell 3 _
                  have hln : (M.map vi ++ [vi ((k : Int) % 256)]).length = i + 1 := by simp [HML.out]
                  obtain ⟨g3, cap3, cur3, hv3, hg0, hc0, hn0, hm0, hs0, ht0⟩ := own_block ho4 (by omega)
                  injection hv3 with e1 e0 e2
                  subst e1 e2
                  clear e0
                  have hbk : Blk (v3.setCell ⟨W0.heap.size, 3, none⟩ (.slice (some ⟨g3, 0, none⟩) (i + 1) c3)) g3 3 (M.map vi ++ [vi ((k : Int) % 256)] ++ cur3.toList.drop (i + 1)) := by
                    unfold Blk; rw [Nat.mul_one] at ht0; rw [← ht0, List.take_append_drop]; exact hc0
                  have k0 := hbk.cell i; have kf := hbk.frozen i
                  have hki : (M.map vi ++ [vi ((k : Int) % 256)] ++ cur3.toList.drop (i + 1))[i]? = some (vi ((k : Int) % 256)) := by
                    rw [List.getElem?_append_left (by rw [hln]; omega), List.getElem?_append_right (by simp [HML.out])]; simp [HML.out]
                  rw [hki] at k0
                  have hbk2 := hbk.set i (vi ((k : Int) - 1))
                  have hset : (M.map vi ++ [vi ((k : Int) % 256)] ++ cur3.toList.drop (i + 1)).set i (vi ((k : Int) - 1)) = (M ++ [(k : Int) - 1]).map vi ++ cur3.toList.drop (i + 1) := by
                    rw [List.set_append_left _ _ (by rw [hln]; omega), List.set_append_right _ _ (by simp [HML.out])]; simp [HML.out]
                  rw [hset] at hbk2
                  have hgob : W0.heap.size < g3 := by omega
                  have hb5 : Blk ((v3.setCell ⟨W0.heap.size, 3, none⟩ (.slice (some ⟨g3, 0, none⟩) (i + 1) c3)).setCell ⟨g3, i, none⟩ (vi ((k : Int) - 1))) W0.heap.size 57 _ := hb4.other (by simp only; omega) _
                  have hon5 : OnlyAt W0.heap.size V0 ((v3.setCell ⟨W0.heap.size, 3, none⟩ (.slice (some ⟨g3, 0, none⟩) (i + 1) c3)).setCell ⟨g3, i, none⟩ (vi ((k : Int) - 1))) := hon4.setNew hg0 _
                  have ho5 : ((v3.setCell ⟨W0.heap.size, 3, none⟩ (.slice (some ⟨g3, 0, none⟩) (i + 1) c3)).setCell ⟨g3, i, none⟩ (vi ((k : Int) - 1))).ownsRow V0.heap.size 3 1 (.slice (some ⟨g3, 0, none⟩) (i + 1) c3) (i + 1) ((M ++ [(k : Int) - 1]).map vi) :=
                    row_of_blk hbk2 hg0 (by simp [HML.out]) (by rw [List.length_drop, Array.length_toList, hs0]) hn0 hm0
                  have HX2 : Hid (∃ (M : List Int) (A : Option Addr) (c : Nat), M.length = i + 1 ∧ Blk ((v3.setCell ⟨W0.heap.size, 3, none⟩ (.slice (some ⟨g3, 0, none⟩) (i + 1) c3)).setCell ⟨g3, i, none⟩ (vi ((k : Int) - 1))) W0.heap.size 57 [.string ⟨#[110]⟩, ns, .slice R j rc, .slice A (i + 1) c] ∧ ((v3.setCell ⟨W0.heap.size, 3, none⟩ (.slice (some ⟨g3, 0, none⟩) (i + 1) c3)).setCell ⟨g3, i, none⟩ (vi ((k : Int) - 1))).ownsRow V0.heap.size 3 1 (.slice A (i + 1) c) (i + 1) (M.map vi) ∧ OnlyAt W0.heap.size V0 ((v3.setCell ⟨W0.heap.size, 3, none⟩ (.slice (some ⟨g3, 0, none⟩) (i + 1) c3)).setCell ⟨g3, i, none⟩ (vi ((k : Int) - 1)))) :=
                    ⟨M ++ [(k : Int) - 1], some ⟨g3, 0, none⟩, c3, by simp [HML.out], hb5, ho5, hon5⟩
                  have h4c := hb4.cell 3
                  simp only [List.getElem?_cons_zero, List.getElem?_cons_succ] at h4c
                  clear ho3 hg3 hrow hbl3 hbx3 hcne ho4 hb4 hon4 HBX2 HOM HON b3 f3 hln hc0 ht0 hbk hki hbk2 hset hb5 hon5 ho5 hs0 hm0
                  go_wp2_with fail
                  go_roundw
                  case rel => exact ⟨i + 1, by omega, by go_num, HX2.out⟩
                  case measure => simp [intOf]; omega
                · have hx3 : (x.toNat : Int) % 3 = 1 := by omega
                  clear hc3
                  have b3 := Blk.cell HBX2.out 3; have f3 := Blk.frozen HBX2.out 3
                  simp only [List.getElem?_cons_zero, List.getElem?_cons_succ] at b3
                  go_wp2_with (refine wpList_append_own _ rfl (.tmp 53) (.tmp 63) 55 rfl V0.heap.size 3 i3 (.int .i64 0) 1 8 Tryd.underlying55 HI.out HZ0.out HZ1.out HZ2.out rfl (by decide) (.slice A2 i c2) i (M.map vi) rfl (HOM.out.alloc _) ⟨V1.heap.size, 0, none⟩ 1 1 [vi ((k : Int) % 256)] rfl rfl (new_cells V1 3 [vi ((k : Int) % 256)]) (by intro y hy; rw [List.mem_singleton.1 hy]; rfl) (by unfold maxLen; omega) (by omega) (by simp; omega) ?_)
                  intro u1 v3 ho3 hg3 _
                  have hrow : ∀ c, (Value.slice A2 i c2).ownBlock = some c → V0.heap.size ≤ c := fun c hc => (HOM.out.lt c hc).1
                  have hbl3 : Below V0.heap.size V1 v3 := ((Below.refl V0.heap.size V1).alloc (by omega) _).grown hg3 (by simp; omega) hrow
                  have hbx3 : Blk v3 W0.heap.size 57 _ := Blk.below HBX2.out hbl3 (by omega)
                  obtain ⟨A3, c3, hu3⟩ := own_form ho3
                  subst hu3
                  have b3' := Blk.cell hbx3 3; have f3' := Blk.frozen hbx3 3
                  simp only [List.getElem?_cons_zero, List.getElem?_cons_succ] at b3'
                  have hcne : ∀ c, (Value.slice A3 (i + 1) c3).ownBlock = some c → (v3.setCell ⟨W0.heap.size, 3, none⟩ (.slice A3 (i + 1) c3)).heap[c]? = v3.heap[c]? := fun c hc => Below.heap_setCell v3 ⟨W0.heap.size, 3, none⟩ _ c (by have := (ho3.lt c hc).1; simp only; omega)
                  have ho4 := ownsRow_keepG ho3 hcne
                  have hb4 : Blk (v3.setCell ⟨W0.heap.size, 3, none⟩ (.slice A3 (i + 1) c3)) W0.heap.size 57 [.string ⟨#[110]⟩, ns, .slice R j rc, .slice A3 (i + 1) c3] := by
                    have := hbx3.set 3 (.slice A3 (i + 1) c3)
                    simpa using this
                  have hon4 : OnlyAt W0.heap.size V0 (v3.setCell ⟨W0.heap.size, 3, none⟩ (.slice A3 (i + 1) c3)) := ((HON.out.alloc _).grown hg3 hrow).setCell 3 _
                  have HX2 : Hid (∃ (M : List Int) (A : Option Addr) (c : Nat), M.length = i + 1 ∧ Blk (v3.setCell ⟨W0.heap.size, 3, none⟩ (.slice A3 (i + 1) c3)) W0.heap.size 57 [.string ⟨#[110]⟩, ns, .slice R j rc, .slice A (i + 1) c] ∧ (v3.setCell ⟨W0.heap.size, 3, none⟩ (.slice A3 (i + 1) c3)).ownsRow V0.heap.size 3 1 (.slice A (i + 1) c) (i + 1) (M.map vi) ∧ OnlyAt W0.heap.size V0 (v3.setCell ⟨W0.heap.size, 3, none⟩ (.slice A3 (i + 1) c3))) :=
                    ⟨M ++ [((k : Int) % 256)], A3, c3, by simp [HML.out], hb4, by rw [List.map_append]; exact ho4, hon4⟩
                  clear ho3 hg3 hrow hbl3 hbx3 hcne ho4 hb4 hon4 HBX2 HOM HON b3 f3
                  go_wp2_with fail
                  go_roundw
                  case rel => exact ⟨i + 1, by omega, by go_num, HX2.out⟩
                  case measure => simp [intOf]; omega
                · have hx3 : (x.toNat : Int) % 3 = 2 := by omega
                  clear hc3
                  have b3 := Blk.cell HBX2.out 3; have f3 := Blk.frozen HBX2.out 3
                  simp only [List.getElem?_cons_zero, List.getElem?_cons_succ] at b3
                  go_wp2_with (refine wpList_append_own _ rfl (.tmp 53) (.tmp 63) 55 rfl V0.heap.size 3 i3 (.int .i64 0) 1 8 Tryd.underlying55 HI.out HZ0.out HZ1.out HZ2.out rfl (by decide) (.slice A2 i c2) i (M.map vi) rfl (HOM.out.alloc _) ⟨V1.heap.size, 0, none⟩ 1 1 [vi (((k : Int) + (i : Int)) % 256)] rfl rfl (new_cells V1 3 [vi (((k : Int) + (i : Int)) % 256)]) (by intro y hy; rw [List.mem_singleton.1 hy]; rfl) (by unfold maxLen; omega) (by omega) (by simp; omega) ?_)
                  intro u1 v3 ho3 hg3 _
                  have hrow : ∀ c, (Value.slice A2 i c2).ownBlock = some c → V0.heap.size ≤ c := fun c hc => (HOM.out.lt c hc).1
                  have hbl3 : Below V0.heap.size V1 v3 := ((Below.refl V0.heap.size V1).alloc (by omega) _).grown hg3 (by simp; omega) hrow
                  have hbx3 : Blk v3 W0.heap.size 57 _ := Blk.below HBX2.out hbl3 (by omega)
                  obtain ⟨A3, c3, hu3⟩ := own_form ho3
                  subst hu3
                  have b3' := Blk.cell hbx3 3; have f3' := Blk.frozen hbx3 3
                  simp only [List.getElem?_cons_zero, List.getElem?_cons_succ] at b3'
                  have hcne : ∀ c, (Value.slice A3 (i + 1) c3).ownBlock = some c → (v3.setCell ⟨W0.heap.size, 3, none⟩ (.slice A3 (i + 1) c3)).heap[c]? = v3.heap[c]? := fun c hc => Below.heap_setCell v3 ⟨W0.heap.size, 3, none⟩ _ c (by have := (ho3.lt c hc).1; simp only; omega)
                  have ho4 := ownsRow_keepG ho3 hcne
                  have hb4 : Blk (v3.setCell ⟨W0.heap.size, 3, none⟩ (.slice A3 (i + 1) c3)) W0.heap.size 57 [.string ⟨#[110]⟩, ns, .slice R j rc, .slice A3 (i + 1) c3] := by
                    have := hbx3.set 3 (.slice A3 (i + 1) c3)
                    simpa using this
                  have hon4 : OnlyAt W0.heap.size V0 (v3.setCell ⟨W0.heap.size, 3, none⟩ (.slice A3 (i + 1) c3)) := ((HON.out.alloc _).grown hg3 hrow).setCell 3 _
                  have HX2 : Hid (∃ (M : List Int) (A : Option Addr) (c : Nat), M.length = i + 1 ∧ Blk (v3.setCell ⟨W0.heap.size, 3, none⟩ (.slice A3 (i + 1) c3)) W0.heap.size 57 [.string ⟨#[110]⟩, ns, .slice R j rc, .slice A (i + 1) c] ∧ (v3.setCell ⟨W0.heap.size, 3, none⟩ (.slice A3 (i + 1) c3)).ownsRow V0.heap.size 3 1 (.slice A (i + 1) c) (i + 1) (M.map vi) ∧ OnlyAt W0.heap.size V0 (v3.setCell ⟨W0.heap.size, 3, none⟩ (.slice A3 (i + 1) c3))) :=
                    ⟨M ++ [(((k : Int) + (i : Int)) % 256)], A3, c3, by simp [HML.out], hb4, by rw [List.map_append]; exact ho4, hon4⟩
                  clear ho3 hg3 hrow hbl3 hbx3 hcne ho4 hb4 hon4 HBX2 HOM HON b3 f3
                  go_wp2_with fail
                  go_roundw
                  case rel => exact ⟨i + 1, by omega, by go_num, HX2.out⟩
                  case measure => simp [intOf]; omega
              · have hk0' : ¬ (0 : Int) < (k : Int) := by omega
                clear hk0
                have hbe1 : Below W0.heap.size W0 V1 := HBE.out.trans (HON.out.below (Nat.le_refl _) HBE.out.size)
                have hownR : V0.ownsRow (W0.heap.size + 1) 9 1 (.slice R j rc) (List.replicate j ([114] : List By)).length ((List.replicate j ([114] : List By)).map vs) := by rw [List.length_replicate]; exact HOR.out
                obtain ⟨R', cr', heq, hR, hRr⟩ := own_strs hownR
                injection heq with e1 e0 e2
                subst e1 e2
                clear e0
                have hR1 : StrsIs V1 R (List.replicate j ([114] : List By)) := hR.sameAt (fun a ha => HON.out.other _ (hRr a ha).2 (by have := (hRr a ha).1; omega))
                obtain ⟨A2', cm', heq, hM, hMr⟩ := own_ints HOM.out HML.out
                injection heq with e1 e0 e2
                subst e1 e2
                clear e0
                have hbq : Blk V1 w1.heap.size 40 _ := Blk.below HBOX.out hbe1 hqW
                have hownO : V1.ownsRow (w1.heap.size + 1) 57 4 (.slice O1 k oc) k cells := ownsRow_keepG HOWN.out (fun c hc => hbe1.block c (HOWN.out.lt c hc).2)
                have q5 := hbq.cell 5
                have b0 := Blk.cell HBX2.out 0; have b1 := Blk.cell HBX2.out 1; have b2 := Blk.cell HBX2.out 2; have b3 := Blk.cell HBX2.out 3
                simp only [List.getElem?_cons_zero, List.getElem?_cons_succ] at q5 b0 b1 b2 b3
                have HSR := Lib.hid hR1; have HBQ := Lib.hid hbq; have HOWNO := Lib.hid hownO; have HMD := Lib.hid hM; have HMR := Lib.hid hMr; have HBE1 := Lib.hid hbe1; have HRR := Lib.hid hRr
                have HBV : Hid (Below w.heap.size w V1) := HB.out.trans (hbe1.mono HB.out.size)
                have hV10 : W0.heap.size < V1.heap.size := by omega
                clear hownR hR hRr hR1 hM hMr hbq hownO hbe1 HBX2 HOM HON HOR HBE HOWN HBOX HB
                obtain ⟨i57, hi57, hz0, hz1, hz2⟩ := info_parts info57
                have HI := Lib.hid hi57; have HZ0 := Lib.hid hz0; have HZ1 := Lib.hid hz1; have HZ2 := Lib.hid hz2
                clear hi57 hz0 hz1 hz2
                have hk6 : k ≤ 6 := by omega
                go_wp2_with (refine wpList_append_own_at _ rfl (.tmp 76) (.tmp 78) 38 rfl (w1.heap.size + 1) 57 i57 (.agg #[.string ⟨#[]⟩, ns, ns, ns]) 4 88 Tryd.underlying38 HI.out HZ0.out HZ1.out HZ2.out rfl (by decide) (.slice O1 k oc) k cells rfl (HOWNO.out.alloc _) ⟨V1.heap.size, 0, none⟩ 1 1 [.string ⟨#[110]⟩, ns, .slice R j rc, .slice A2 i c2] rfl rfl (new_cells V1 57 [.string ⟨#[110]⟩, ns, .slice R j rc, .slice A2 i c2]) (by simp [Value.oneCell']) (by unfold maxLen; omega) (by omega) (by simp; omega) ?_)
                intro v' w' h2 hg _ h5
                obtain ⟨O4, oc4, hv4⟩ := own_form h2
                subst hv4
                have hvs : (V1.alloc (.cells #[.string ⟨#[110]⟩, ns, .slice R j rc, .slice A2 i c2] 57)).heap.size = V1.heap.size + 1 := by simp
                have hbelow : Below (w1.heap.size + 1) V1 w' := ((Below.refl (w1.heap.size + 1) V1).alloc (by omega) _).grown hg (by rw [hvs]; omega) (fun c hc => (HROW.out c hc).1)
                have hsz' : V1.heap.size ≤ w'.heap.size := hbelow.size
                have hbq' : Blk w' w1.heap.size 40 _ := Blk.below HBQ.out hbelow (by omega)
                have q5' := hbq'.cell 5; have g5' := hbq'.frozen 5
                simp only [List.getElem?_cons_zero, List.getElem?_cons_succ] at q5'
                have hfr : ∀ b, W0.heap.size < b → b < V1.heap.size → w1.heap.size < b ∧ b < (w'.setCell ⟨w1.heap.size, 5, none⟩ (.slice O4 (k + 1) oc4)).heap.size ∧ (Value.slice O4 (k + 1) oc4).ownBlock ≠ some b := fun b hb1 hb2 => by
                  refine ⟨by omega, by rw [World.size_setCell]; omega, fun e => ?_⟩
                  rcases h5 with h5 | h5
                  · rw [h5] at e; have := (HROW.out b e).2; omega
                  · rw [h5] at e; injection e with e; omega
                have hkeep : ∀ c, w1.heap.size < c → c < V1.heap.size → (Value.slice O1 k oc).ownBlock ≠ some c → (w'.setCell ⟨w1.heap.size, 5, none⟩ (.slice O4 (k + 1) oc4)).heap[c]? = V1.heap[c]? := fun c hc1 hc2 hne => by
                  rw [Below.heap_setCell w' ⟨w1.heap.size, 5, none⟩ _ c (by simp only; omega), hg.block c (by rw [hvs]; omega) (fun e => hne e.symm), Below.heap_alloc V1 _ c hc2]
                have hsame : ∀ b, W0.heap.size < b → b < V1.heap.size → (w'.setCell ⟨w1.heap.size, 5, none⟩ (.slice O4 (k + 1) oc4)).heap[b]? = V1.heap[b]? := fun b hb1 hb2 => hkeep b (by omega) hb2 (fun e => by have := (HROW.out b e).2; omega)
                have hKEEP : Keep w1.heap.size (.slice O1 k oc) (.slice O4 (k + 1) oc4) W0 (w'.setCell ⟨w1.heap.size, 5, none⟩ (.slice O4 (k + 1) oc4)) := by
                  refine ⟨by rw [World.size_setCell]; omega, fun c hc1 hc2 hne => ?_, fun c hc => ?_⟩
                  · rw [hkeep c hc1 (by omega) hne]; exact HBE1.out.block c hc2
                  · rcases h5 with h5 | h5
                    · exact .inl (by rw [← h5]; exact hc)
                    · rw [h5] at hc; injection hc with hc; exact .inr (by omega)
                have hcne : ∀ c, (Value.slice O4 (k + 1) oc4).ownBlock = some c → (w'.setCell ⟨w1.heap.size, 5, none⟩ (.slice O4 (k + 1) oc4)).heap[c]? = w'.heap[c]? := fun c hc => Below.heap_setCell w' ⟨w1.heap.size, 5, none⟩ _ c (by have := (h2.lt c hc).1; simp only; omega)
                have HX9 : Hid (MRel w w1.heap.size (k + 1) (w'.setCell ⟨w1.heap.size, 5, none⟩ (.slice O4 (k + 1) oc4))) := by
                  refine ⟨⟨acc ++ [⟨[110], [], List.replicate j [114], M⟩], cells ++ [.string ⟨#[110]⟩, ns, .slice R j rc, .slice A2 i c2], .slice O4 (k + 1) oc4, by simp [HACC.out], by rw [List.length_append, HCL.out]; simp; omega, ownsRow_keepG h2 hcne, ?_, ?_, ?_⟩, ?_⟩
                  · have := hbq'.set 5 (.slice O4 (k + 1) oc4)
                    simpa using this
                  · intro i' hi'
                    by_cases hik : i' < acc.length
                    · rw [List.getElem_append_left hik]
                      exact ((HDD.out i' hik).keep hKEEP).app _
                    · have hik2 : i' = acc.length := by simp at hi'; omega
                      subst hik2
                      rw [List.getElem_append_right (Nat.le_refl _)]
                      simp only [Nat.sub_self, List.getElem_cons_zero]
                      have hcl2 : cells.length = acc.length * 4 := by rw [HCL.out, HACC.out]
                      refine ⟨none, 0, R, rc, A2, c2, ?_, ?_, ?_, ?_, ⟨SrcIs.nil _ _, HSR.out.sameAt (fun a ha => hsame _ (by have := (HRR.out a ha).1; omega) (by have := (HRR.out a ha).2; omega)), HMD.out.sameAt (fun a ha => hsame _ (by have := (HMR.out a ha).1; omega) (HMR.out a ha).2)⟩, (fun a ha => by cases ha), fun a ha => hfr _ (by have := (HRR.out a ha).1; omega) (by have := (HRR.out a ha).2; omega), fun a ha => hfr _ (by have := (HMR.out a ha).1; omega) (HMR.out a ha).2⟩
                      · rw [List.getElem?_append_right (by omega), hcl2, Nat.sub_self]; rfl
                      · rw [List.getElem?_append_right (by omega), hcl2, show acc.length * 4 + 1 - acc.length * 4 = 1 by omega]; rfl
                      · rw [List.getElem?_append_right (by omega), hcl2, show acc.length * 4 + 2 - acc.length * 4 = 2 by omega]; simp
                      · rw [List.getElem?_append_right (by omega), hcl2, show acc.length * 4 + 3 - acc.length * 4 = 3 by omega]; simp [HML.out]
                  · intro y hy
                    rcases List.mem_append.1 hy with h1 | h1
                    · exact HM.out y h1
                    · rw [List.mem_singleton.1 h1]
                      exact ⟨rfl, rfl, ⟨j, hj19, rfl⟩, by show M.length ≤ 5; rw [HML.out]; omega⟩
                  · exact (HBV.out.trans (hbelow.mono (by have := HWW.out; omega))).setCell (by have := HWW.out; simp only; omega) _
                clear h2 hg h5 hvs hbelow hbq' hfr hkeep hsame hKEEP hcne HSR HBQ HOWNO HMD HMR HBE1 HRR HBV q5 b0 b1 b2 b3 HDD
                go_wp2_with fail
                go_roundw
                case rel => exact ⟨k + 1, by omega, by go_num, HX9.out⟩
                case measure => simp [intOf]; omega
            · have hit : ¬ ((i : Int) < (d.toNat : Int) % 6) := by omega
              have hbe1 : Below W0.heap.size W0 V1 := HBE.out.trans (HON.out.below (Nat.le_refl _) HBE.out.size)
              have hownR : V0.ownsRow (W0.heap.size + 1) 9 1 (.slice R j rc) (List.replicate j ([114] : List By)).length ((List.replicate j ([114] : List By)).map vs) := by rw [List.length_replicate]; exact HOR.out
              obtain ⟨R', cr', heq, hR, hRr⟩ := own_strs hownR
              injection heq with e1 e0 e2
              subst e1 e2
              clear e0
              have hR1 : StrsIs V1 R (List.replicate j ([114] : List By)) := hR.sameAt (fun a ha => HON.out.other _ (hRr a ha).2 (by have := (hRr a ha).1; omega))
              obtain ⟨A2', cm', heq, hM, hMr⟩ := own_ints HOM.out HML.out
              injection heq with e1 e0 e2
              subst e1 e2
              clear e0
              have hbq : Blk V1 w1.heap.size 40 _ := Blk.below HBOX.out hbe1 hqW
              have hownO : V1.ownsRow (w1.heap.size + 1) 57 4 (.slice O1 k oc) k cells := ownsRow_keepG HOWN.out (fun c hc => hbe1.block c (HOWN.out.lt c hc).2)
              have q5 := hbq.cell 5
              have b0 := Blk.cell HBX2.out 0; have b1 := Blk.cell HBX2.out 1; have b2 := Blk.cell HBX2.out 2; have b3 := Blk.cell HBX2.out 3
              simp only [List.getElem?_cons_zero, List.getElem?_cons_succ] at q5 b0 b1 b2 b3
              have HSR := Lib.hid hR1; have HBQ := Lib.hid hbq; have HOWNO := Lib.hid hownO; have HMD := Lib.hid hM; have HMR := Lib.hid hMr; have HBE1 := Lib.hid hbe1; have HRR := Lib.hid hRr
              have HBV : Hid (Below w.heap.size w V1) := HB.out.trans (hbe1.mono HB.out.size)
              have hV10 : W0.heap.size < V1.heap.size := by omega
              clear hownR hR hRr hR1 hM hMr hbq hownO hbe1 HBX2 HOM HON HOR HBE HOWN HBOX HB
              obtain ⟨i57, hi57, hz0, hz1, hz2⟩ := info_parts info57
              have HI := Lib.hid hi57; have HZ0 := Lib.hid hz0; have HZ1 := Lib.hid hz1; have HZ2 := Lib.hid hz2
              clear hi57 hz0 hz1 hz2
              have hk6 : k ≤ 6 := by omega
              go_wp2_with (refine wpList_append_own_at _ rfl (.tmp 76) (.tmp 78) 38 rfl (w1.heap.size + 1) 57 i57 (.agg #[.string ⟨#[]⟩, ns, ns, ns]) 4 88 Tryd.underlying38 HI.out HZ0.out HZ1.out HZ2.out rfl (by decide) (.slice O1 k oc) k cells rfl (HOWNO.out.alloc _) ⟨V1.heap.size, 0, none⟩ 1 1 [.string ⟨#[110]⟩, ns, .slice R j rc, .slice A2 i c2] rfl rfl (new_cells V1 57 [.string ⟨#[110]⟩, ns, .slice R j rc, .slice A2 i c2]) (by simp [Value.oneCell']) (by unfold maxLen; omega) (by omega) (by simp; omega) ?_)
              intro v' w' h2 hg _ h5
              obtain ⟨O4, oc4, hv4⟩ := own_form h2
              subst hv4
              have hvs : (V1.alloc (.cells #[.string ⟨#[110]⟩, ns, .slice R j rc, .slice A2 i c2] 57)).heap.size = V1.heap.size + 1 := by simp
              have hbelow : Below (w1.heap.size + 1) V1 w' := ((Below.refl (w1.heap.size + 1) V1).alloc (by omega) _).grown hg (by rw [hvs]; omega) (fun c hc => (HROW.out c hc).1)
              have hsz' : V1.heap.size ≤ w'.heap.size := hbelow.size
              have hbq' : Blk w' w1.heap.size 40 _ := Blk.below HBQ.out hbelow (by omega)
              have q5' := hbq'.cell 5; have g5' := hbq'.frozen 5
              simp only [List.getElem?_cons_zero, List.getElem?_cons_succ] at q5'
              have hfr : ∀ b, W0.heap.size < b → b < V1.heap.size → w1.heap.size < b ∧ b < (w'.setCell ⟨w1.heap.size, 5, none⟩ (.slice O4 (k + 1) oc4)).heap.size ∧ (Value.slice O4 (k + 1) oc4).ownBlock ≠ some b := fun b hb1 hb2 => by
                refine ⟨by omega, by rw [World.size_setCell]; omega, fun e => ?_⟩
                rcases h5 with h5 | h5
                · rw [h5] at e; have := (HROW.out b e).2; omega
                · rw [h5] at e; injection e with e; omega
              have hkeep : ∀ c, w1.heap.size < c → c < V1.heap.size → (Value.slice O1 k oc).ownBlock ≠ some c → (w'.setCell ⟨w1.heap.size, 5, none⟩ (.slice O4 (k + 1) oc4)).heap[c]? = V1.heap[c]? := fun c hc1 hc2 hne => by
                rw [Below.heap_setCell w' ⟨w1.heap.size, 5, none⟩ _ c (by simp only; omega), hg.block c (by rw [hvs]; omega) (fun e => hne e.symm), Below.heap_alloc V1 _ c hc2]
              have hsame : ∀ b, W0.heap.size < b → b < V1.heap.size → (w'.setCell ⟨w1.heap.size, 5, none⟩ (.slice O4 (k + 1) oc4)).heap[b]? = V1.heap[b]? := fun b hb1 hb2 => hkeep b (by omega) hb2 (fun e => by have := (HROW.out b e).2; omega)
              have hKEEP : Keep w1.heap.size (.slice O1 k oc) (.slice O4 (k + 1) oc4) W0 (w'.setCell ⟨w1.heap.size, 5, none⟩ (.slice O4 (k + 1) oc4)) := by
                refine ⟨by rw [World.size_setCell]; omega, fun c hc1 hc2 hne => ?_, fun c hc => ?_⟩
                · rw [hkeep c hc1 (by omega) hne]; exact HBE1.out.block c hc2
                · rcases h5 with h5 | h5
                  · exact .inl (by rw [← h5]; exact hc)
                  · rw [h5] at hc; injection hc with hc; exact .inr (by omega)
              have hcne : ∀ c, (Value.slice O4 (k + 1) oc4).ownBlock = some c → (w'.setCell ⟨w1.heap.size, 5, none⟩ (.slice O4 (k + 1) oc4)).heap[c]? = w'.heap[c]? := fun c hc => Below.heap_setCell w' ⟨w1.heap.size, 5, none⟩ _ c (by have := (h2.lt c hc).1; simp only; omega)
              have HX9 : Hid (MRel w w1.heap.size (k + 1) (w'.setCell ⟨w1.heap.size, 5, none⟩ (.slice O4 (k + 1) oc4))) := by
                refine ⟨⟨acc ++ [⟨[110], [], List.replicate j [114], M⟩], cells ++ [.string ⟨#[110]⟩, ns, .slice R j rc, .slice A2 i c2], .slice O4 (k + 1) oc4, by simp [HACC.out], by rw [List.length_append, HCL.out]; simp; omega, ownsRow_keepG h2 hcne, ?_, ?_, ?_⟩, ?_⟩
                · have := hbq'.set 5 (.slice O4 (k + 1) oc4)
                  simpa using this
                · intro i' hi'
                  by_cases hik : i' < acc.length
                  · rw [List.getElem_append_left hik]
                    exact ((HDD.out i' hik).keep hKEEP).app _
                  · have hik2 : i' = acc.length := by simp at hi'; omega
                    subst hik2
                    rw [List.getElem_append_right (Nat.le_refl _)]
                    simp only [Nat.sub_self, List.getElem_cons_zero]
                    have hcl2 : cells.length = acc.length * 4 := by rw [HCL.out, HACC.out]
                    refine ⟨none, 0, R, rc, A2, c2, ?_, ?_, ?_, ?_, ⟨SrcIs.nil _ _, HSR.out.sameAt (fun a ha => hsame _ (by have := (HRR.out a ha).1; omega) (by have := (HRR.out a ha).2; omega)), HMD.out.sameAt (fun a ha => hsame _ (by have := (HMR.out a ha).1; omega) (HMR.out a ha).2)⟩, (fun a ha => by cases ha), fun a ha => hfr _ (by have := (HRR.out a ha).1; omega) (by have := (HRR.out a ha).2; omega), fun a ha => hfr _ (by have := (HMR.out a ha).1; omega) (HMR.out a ha).2⟩
                    · rw [List.getElem?_append_right (by omega), hcl2, Nat.sub_self]; rfl
                    · rw [List.getElem?_append_right (by omega), hcl2, show acc.length * 4 + 1 - acc.length * 4 = 1 by omega]; rfl
                    · rw [List.getElem?_append_right (by omega), hcl2, show acc.length * 4 + 2 - acc.length * 4 = 2 by omega]; simp
                    · rw [List.getElem?_append_right (by omega), hcl2, show acc.length * 4 + 3 - acc.length * 4 = 3 by omega]; simp [HML.out]
                · intro y hy
                  rcases List.mem_append.1 hy with h1 | h1
                  · exact HM.out y h1
                  · rw [List.mem_singleton.1 h1]
                    exact ⟨rfl, rfl, ⟨j, hj19, rfl⟩, by show M.length ≤ 5; rw [HML.out]; omega⟩
                · exact (HBV.out.trans (hbelow.mono (by have := HWW.out; omega))).setCell (by have := HWW.out; simp only; omega) _
              clear h2 hg h5 hvs hbelow hbq' hfr hkeep hsame hKEEP hcne HSR HBQ HOWNO HMD HMR HBE1 HRR HBV q5 b0 b1 b2 b3 HDD
              go_wp2_with fail
              go_roundw
              case rel => exact ⟨k + 1, by omega, by go_num, HX9.out⟩
              case measure => simp [intOf]; omega
    · have ht : ¬ ((k : Int) < (o.toNat : Int) % 7) := by omega
      have hk6 : k ≤ 6 := by omega
      obtain ⟨O', co', heq, hO⟩ := outs_own HOWN.out HACC.out HDD.out
      injection heq with e1 e0 e2
      subst e1 e2
      obtain ⟨rv, hrv⟩ : ∃ rv : ReqV, rv = ⟨7, [], [], [], [], acc⟩ := ⟨_, rfl⟩
      have hrq : ReqIs W0 (.agg #[.int .u8 7, .string ⟨#[]⟩, .string ⟨#[]⟩, ns, ns, .slice O1 k oc]) rv := by
        rw [hrv]
        exact ⟨none, 0, none, 0, O1, oc, by rw [e0]; rfl, SrcIs.nil _ _, StrsIs.nil _ _, hO.at⟩
      have hlr : (encB rv).length ≤ 600 := by
        have hf := manyO_flat acc HM.out
        have hl : acc.length = k := HACC.out
        rw [hrv]
        have h : restB (hasK (7 : By).toNat) ⟨7, [], [], [], [], acc⟩ = outsB acc := rfl
        unfold encB
        rw [h, List.length_append]
        unfold outsB
        simp only [List.length_append, List.length_cons, List.length_nil]; omega
      have HLR := Lib.hid hlr
      have HRV : Hid (∀ U, Below W0.heap.size W0 U → Calls Tryd.prog 17 #[.agg #[.int .u8 7, .string ⟨#[]⟩, .string ⟨#[]⟩, ns, ns, .slice O1 k oc]] U (EncPost U (encB rv))) := fun U hU => rencode_any rv _ (by rw [hrv]; simp) (by rw [hrv]; exact fun y hy => (manyO_len (HM.out y hy)).2) (by omega) U (hrq.below hU)
      clear hrq hlr hO e0 hrv HOWN HDD HACC HCL HM
      have HI1 : Hid (∃ R c, Blk (W0.alloc (.cells #[.int .u8 1, .string ⟨#[110]⟩, .string ⟨#[]⟩, ns, ns, ns] 40)) W0.heap.size 40 [.int .u8 1, .string ⟨#[110]⟩, .string ⟨#[]⟩, ns, .slice R 0 c, ns] ∧ (W0.alloc (.cells #[.int .u8 1, .string ⟨#[110]⟩, .string ⟨#[]⟩, ns, ns, ns] 40)).ownsRow (W0.heap.size + 1) 9 1 (.slice R 0 c) 0 ((List.replicate 0 ([114] : List By)).map vs) ∧ Below W0.heap.size W0 (W0.alloc (.cells #[.int .u8 1, .string ⟨#[110]⟩, .string ⟨#[]⟩, ns, ns, ns] 40))) :=
        ⟨none, 0, Blk.new W0 40 _, World.ownsRow_nil _ _ _ _, (Below.refl _ _).alloc (Nat.le_refl _) _⟩
      go_wp2_with fail
      go_loopw [15] (fun vv wr => ∃ j : Nat, j ≤ r'.toNat % 20 ∧ vv = .int .i64 j ∧ Hid (∃ R c, Blk wr W0.heap.size 40 [.int .u8 1, .string ⟨#[110]⟩, .string ⟨#[]⟩, ns, .slice R j c, ns] ∧ wr.ownsRow (W0.heap.size + 1) 9 1 (.slice R j c) j ((List.replicate j ([114] : List By)).map vs) ∧ Below W0.heap.size W0 wr)) (fun vv _ => r'.toNat % 20 - (intOf vv).toNat)
      case atStart => exact ⟨0, Nat.zero_le _, rfl, HI1.out⟩
      case round =>
        clear HI1
        obtain ⟨j, hj, rfl, HYY⟩ := hrel
        rename World => V0
        obtain ⟨R, rc, hb, hownR, hbe⟩ := HYY.out
        have HBX := Lib.hid hb; have HOR := Lib.hid hownR; have HBE := Lib.hid hbe
        have hbV : W0.heap.size < V0.heap.size := Blk.lt hb
        clear HYY hb hownR hbe
        by_cases hjm : j < r'.toNat % 20
        · have hjt : (j : Int) < (r'.toNat : Int) % 20 := by omega
          have b4 := Blk.cell HBX.out 4; have f4 := Blk.frozen HBX.out 4
          simp only [List.getElem?_cons_zero, List.getElem?_cons_succ] at b4
          obtain ⟨i9, hi9, hz0, hz1, hz2⟩ := info_parts info9
          have HI := Lib.hid hi9; have HZ0 := Lib.hid hz0; have HZ1 := Lib.hid hz1; have HZ2 := Lib.hid hz2
          clear hi9 hz0 hz1 hz2
          go_wp2_with (refine wpList_append_own _ rfl (.tmp 90) (.tmp 91) 32 rfl (W0.heap.size + 1) 9 i9 (.string ⟨#[]⟩) 1 16 Tryd.underlying32 HI.out HZ0.out HZ1.out HZ2.out rfl (by decide) (.slice R j rc) j ((List.replicate j ([114] : List By)).map vs) rfl (HOR.out.alloc _) ⟨V0.heap.size, 0, none⟩ 1 1 [.string ⟨#[114]⟩] rfl rfl (new_cells V0 9 [.string ⟨#[114]⟩]) (by intro y hy; rw [List.mem_singleton.1 hy]; rfl) (by unfold maxLen; omega) (by omega) (by simp; omega) ?_)
          intro u1 v3 ho3 hg3 _
          have hrow : ∀ c, (Value.slice R j rc).ownBlock = some c → W0.heap.size + 1 ≤ c := fun c hc => (HOR.out.lt c hc).1
          have hbl3 : Below (W0.heap.size + 1) V0 v3 := ((Below.refl (W0.heap.size + 1) V0).alloc (by omega) _).grown hg3 (by simp; omega) hrow
          have hbx3 : Blk v3 W0.heap.size 40 _ := Blk.below HBX.out hbl3 (by omega)
          obtain ⟨O3, oc3, hu3⟩ := own_form ho3
          subst hu3
          have b4' := Blk.cell hbx3 4; have f4' := Blk.frozen hbx3 4
          simp only [List.getElem?_cons_zero, List.getElem?_cons_succ] at b4'
          have hcne : ∀ c, (Value.slice O3 (j + 1) oc3).ownBlock = some c → (v3.setCell ⟨W0.heap.size, 4, none⟩ (.slice O3 (j + 1) oc3)).heap[c]? = v3.heap[c]? := fun c hc => Below.heap_setCell v3 ⟨W0.heap.size, 4, none⟩ _ c (by have := (ho3.lt c hc).1; simp only; omega)
          have HX2 : Hid (∃ R c, Blk (v3.setCell ⟨W0.heap.size, 4, none⟩ (.slice O3 (j + 1) oc3)) W0.heap.size 40 [.int .u8 1, .string ⟨#[110]⟩, .string ⟨#[]⟩, ns, .slice R (j + 1) c, ns] ∧ (v3.setCell ⟨W0.heap.size, 4, none⟩ (.slice O3 (j + 1) oc3)).ownsRow (W0.heap.size + 1) 9 1 (.slice R (j + 1) c) (j + 1) ((List.replicate (j + 1) ([114] : List By)).map vs) ∧ Below W0.heap.size W0 (v3.setCell ⟨W0.heap.size, 4, none⟩ (.slice O3 (j + 1) oc3))) := by
            refine ⟨O3, oc3, ?_, ?_, ?_⟩
            · have := hbx3.set 4 (.slice O3 (j + 1) oc3)
              simpa using this
            · have := ownsRow_keepG ho3 hcne
              rw [List.replicate_succ', List.map_append]; simpa using this
            · exact (HBE.out.trans (hbl3.mono (by omega))).setCell (by simp only; omega) _
          clear ho3 hg3 hrow hbl3 hbx3 hcne HBX HOR HBE b4 f4
          go_wp2_with fail
          go_roundw
          case rel => exact ⟨j + 1, by omega, by go_num, HX2.out⟩
          case measure => simp [intOf]; omega
        · have hjt : ¬ ((j : Int) < (r'.toNat : Int) % 20) := by omega
          have hj19 : j ≤ 19 := by omega
          have hownR : V0.ownsRow (W0.heap.size + 1) 9 1 (.slice R j rc) (List.replicate j ([114] : List By)).length ((List.replicate j ([114] : List By)).map vs) := by rw [List.length_replicate]; exact HOR.out
          obtain ⟨R', cr', heq, hR, -⟩ := own_strs hownR
          injection heq with e1 e0 e2
          subst e1 e2
          have HB4 : Hid (Below w.heap.size w V0) := HB.out.trans (HBE.out.mono HB.out.size)
          have HCA : Hid (Calls Tryd.prog 17 #[.agg #[.int .u8 1, .string ⟨#[110]⟩, .string ⟨#[]⟩, ns, .slice R j rc, ns]] V0 (EncPost V0 (encB (manyA j)))) := rencode_any (manyA j) (.agg #[.int .u8 1, .string ⟨#[110]⟩, .string ⟨#[]⟩, ns, .slice R j rc, ns]) (by simp [manyA]; omega) (by simp [manyA]) (by rw [many_len]; omega) V0 ⟨none, 0, R, rc, none, 0, by simp [manyA, vb], SrcIs.nil _ _, hR, OutsAt.nil _ _⟩
          have HLA : Hid ((encB (manyA j)).length ≤ 100) := by show _ ≤ _; rw [many_len]; omega
          have a0 := Blk.cell HBX.out 0; have a1 := Blk.cell HBX.out 1; have a2 := Blk.cell HBX.out 2; have a3 := Blk.cell HBX.out 3; have a4 := Blk.cell HBX.out 4; have a5 := Blk.cell HBX.out 5
          simp only [List.getElem?_cons_zero, List.getElem?_cons_succ] at a0 a1 a2 a3 a4 a5
          clear e0 hownR hR HBX HOR
          by_cases h16 : j ≤ 16
          · have hb16 : (r'.toNat : Int) % 20 ≤ 16 := by omega
            go_wp2_with fail
            clear a0 a1 a2 a3 a4 a5
            have hd6 : (decV (encB (manyA j))).2 = 0 := many_ok j h16
            obtain ⟨dv, hdv⟩ : ∃ dv, decV (encB (manyA j)) = (dv, (0 : Int)) := ⟨(decV (encB (manyA j))).1, by rw [← hd6]⟩
            have HDV := Lib.hid hdv
            clear hd6 hdv
            generalize hqq : encB (manyA j) = qa at *
            clear hqq
            refine HCA.out.mono ?_
            rintro e w5 ⟨v5, rfl, hr5⟩
            obtain ⟨A5, c5, rfl, hs5, hn5, hc5, -⟩ := hr5.src
            have HB5 : Hid (Below w.heap.size w w5) := HB4.out.trans (hr5.below.mono HB4.out.size)
            have HB05 : Hid (Below W0.heap.size W0 w5) := HBE.out.trans (hr5.below.mono HBE.out.size)
            have HC2 : Hid (Calls Tryd.prog 18 #[.slice A5 qa.length c5] w5 (DecPost w5 (decV qa))) := decode_any A5 c5 qa (by have := HLA.out; omega) hn5 w5 (HT.out.belowS HB5.out) hs5
            clear hr5 hs5 hn5 hc5 HCA HB4 HBE
            rw [HDV.out] at HC2
            go_wp2_with fail
            refine HC2.out.mono ?_
            rintro e w6 ⟨hb6, v6, rfl, hv6⟩
            obtain ⟨A6, a6, R6, r6, O6, o6, rfl, -⟩ := hv6
            have ha7 : Below w6.heap.size w6 (w6.alloc (.cells #[vb dv.kind, vs dv.name, vs dv.path, .slice A6 dv.arch.length a6, .slice R6 dv.refs.length r6, .slice O6 dv.outs.length o6] 40)) := (Below.refl _ _).alloc (Nat.le_refl _) _
            have HB6 : Hid (Below w.heap.size w w6) := HB5.out.trans (hb6.mono HB5.out.size)
            have HB06 : Hid (Below W0.heap.size W0 w6) := HB05.out.trans (hb6.mono HB05.out.size)
            have HB7 : Hid (Below w.heap.size w (w6.alloc (.cells #[vb dv.kind, vs dv.name, vs dv.path, .slice A6 dv.arch.length a6, .slice R6 dv.refs.length r6, .slice O6 dv.outs.length o6] 40))) := HB6.out.trans (ha7.mono HB6.out.size)
            have HB07 : Hid (Below W0.heap.size W0 (w6.alloc (.cells #[vb dv.kind, vs dv.name, vs dv.path, .slice A6 dv.arch.length a6, .slice R6 dv.refs.length r6, .slice O6 dv.outs.length o6] 40))) := HB06.out.trans (ha7.mono HB06.out.size)
            have hq7 : Blk (w6.alloc (.cells #[vb dv.kind, vs dv.name, vs dv.path, .slice A6 dv.arch.length a6, .slice R6 dv.refs.length r6, .slice O6 dv.outs.length o6] 40)) w1.heap.size 40 [.int .u8 7, .string ⟨#[]⟩, .string ⟨#[]⟩, ns, ns, .slice O1 k oc] := Blk.below HBOX.out HB07.out hqW
            have q0 := hq7.cell 0; have q1 := hq7.cell 1; have q2 := hq7.cell 2; have q3 := hq7.cell 3; have q4 := hq7.cell 4; have q5 := hq7.cell 5
            simp only [List.getElem?_cons_zero, List.getElem?_cons_succ] at q0 q1 q2 q3 q4 q5
            clear hb6 ha7 hq7 HC2 HDV HB5 HB05
            go_wp2_with fail
            clear q0 q1 q2 q3 q4 q5
            refine (HRV.out _ HB07.out).mono ?_
            rintro e w8 ⟨v8, rfl, hr8⟩
            obtain ⟨A8, c8, rfl, hs8, hn8, hc8, -⟩ := hr8.src
            have HB8 : Hid (Below w.heap.size w w8) := HB7.out.trans (hr8.below.mono HB7.out.size)
            have HS8 := Lib.hid hs8; have HN8 := Lib.hid hn8
            clear hr8 hs8 hn8
            generalize encB rv = qr at *
            go_wp2_with fail
            refine (decodes_any A8 c8 qr (by have := HLR.out; omega) HN8.out hc8 w8 (HT.out.belowS HB8.out) HS8.out).mono ?_
            rintro e w9 ⟨rfl, hb9⟩
            have HB9 : Hid (Below w.heap.size w w9) := HB8.out.trans (hb9.mono HB8.out.size)
            clear hb9
            go_wp2_with fail
            go_ret
            exact ⟨rfl, HB9.out⟩
          · have hb16 : (decide ((r'.toNat : Int) % 20 ≤ 16)) = false := decide_eq_false (by omega)
            go_wp2_with fail
            clear a0 a1 a2 a3 a4 a5
            have hd6 : (decV (encB (manyA j))).2 = 2 := many_no j (by omega) (by omega)
            obtain ⟨dv, hdv⟩ : ∃ dv, decV (encB (manyA j)) = (dv, (2 : Int)) := ⟨(decV (encB (manyA j))).1, by rw [← hd6]⟩
            have HDV := Lib.hid hdv
            clear hd6 hdv
            generalize hqq : encB (manyA j) = qa at *
            clear hqq
            refine HCA.out.mono ?_
            rintro e w5 ⟨v5, rfl, hr5⟩
            obtain ⟨A5, c5, rfl, hs5, hn5, hc5, -⟩ := hr5.src
            have HB5 : Hid (Below w.heap.size w w5) := HB4.out.trans (hr5.below.mono HB4.out.size)
            have HB05 : Hid (Below W0.heap.size W0 w5) := HBE.out.trans (hr5.below.mono HBE.out.size)
            have HC2 : Hid (Calls Tryd.prog 18 #[.slice A5 qa.length c5] w5 (DecPost w5 (decV qa))) := decode_any A5 c5 qa (by have := HLA.out; omega) hn5 w5 (HT.out.belowS HB5.out) hs5
            clear hr5 hs5 hn5 hc5 HCA HB4 HBE
            rw [HDV.out] at HC2
            go_wp2_with fail
            refine HC2.out.mono ?_
            rintro e w6 ⟨hb6, v6, rfl, hv6⟩
            obtain ⟨A6, a6, R6, r6, O6, o6, rfl, -⟩ := hv6
            have ha7 : Below w6.heap.size w6 (w6.alloc (.cells #[vb dv.kind, vs dv.name, vs dv.path, .slice A6 dv.arch.length a6, .slice R6 dv.refs.length r6, .slice O6 dv.outs.length o6] 40)) := (Below.refl _ _).alloc (Nat.le_refl _) _
            have HB6 : Hid (Below w.heap.size w w6) := HB5.out.trans (hb6.mono HB5.out.size)
            have HB06 : Hid (Below W0.heap.size W0 w6) := HB05.out.trans (hb6.mono HB05.out.size)
            have HB7 : Hid (Below w.heap.size w (w6.alloc (.cells #[vb dv.kind, vs dv.name, vs dv.path, .slice A6 dv.arch.length a6, .slice R6 dv.refs.length r6, .slice O6 dv.outs.length o6] 40))) := HB6.out.trans (ha7.mono HB6.out.size)
            have HB07 : Hid (Below W0.heap.size W0 (w6.alloc (.cells #[vb dv.kind, vs dv.name, vs dv.path, .slice A6 dv.arch.length a6, .slice R6 dv.refs.length r6, .slice O6 dv.outs.length o6] 40))) := HB06.out.trans (ha7.mono HB06.out.size)
            have hq7 : Blk (w6.alloc (.cells #[vb dv.kind, vs dv.name, vs dv.path, .slice A6 dv.arch.length a6, .slice R6 dv.refs.length r6, .slice O6 dv.outs.length o6] 40)) w1.heap.size 40 [.int .u8 7, .string ⟨#[]⟩, .string ⟨#[]⟩, ns, ns, .slice O1 k oc] := Blk.below HBOX.out HB07.out hqW
            have q0 := hq7.cell 0; have q1 := hq7.cell 1; have q2 := hq7.cell 2; have q3 := hq7.cell 3; have q4 := hq7.cell 4; have q5 := hq7.cell 5
            simp only [List.getElem?_cons_zero, List.getElem?_cons_succ] at q0 q1 q2 q3 q4 q5
            clear hb6 ha7 hq7 HC2 HDV HB5 HB05
            go_wp2_with fail
            clear q0 q1 q2 q3 q4 q5
            refine (HRV.out _ HB07.out).mono ?_
            rintro e w8 ⟨v8, rfl, hr8⟩
            obtain ⟨A8, c8, rfl, hs8, hn8, hc8, -⟩ := hr8.src
            have HB8 : Hid (Below w.heap.size w w8) := HB7.out.trans (hr8.below.mono HB7.out.size)
            have HS8 := Lib.hid hs8; have HN8 := Lib.hid hn8
            clear hr8 hs8 hn8
            generalize encB rv = qr at *
            go_wp2_with fail
            refine (decodes_any A8 c8 qr (by have := HLR.out; omega) HN8.out hc8 w8 (HT.out.belowS HB8.out) HS8.out).mono ?_
            rintro e w9 ⟨rfl, hb9⟩
            have HB9 : Hid (Below w.heap.size w w9) := HB8.out.trans (hb9.mono HB8.out.size)
            clear hb9
            go_wp2_with fail
            go_ret
            exact ⟨rfl, HB9.out⟩
end Go.Proofs.YtggmogjgaoobjaaDoor
