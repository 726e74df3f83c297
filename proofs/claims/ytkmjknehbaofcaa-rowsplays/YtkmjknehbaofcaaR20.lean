/- The contracts of the reference's Set and Keys. -/
import Derived.Test.YtkmjknehbaofcaaR19
namespace Go.Proofs.Ytkmjknehbaofcaa
open Go.RowKit Go.Maps Go.WideShapes Go.MapKept Go.WideMaps Go.ChangeMaps BaseMath WireMath NameMath ScanMath

/-- an item is appended, at a step of a region that draws its order -/
theorem step_item {W : World} {base nb : Nat} {l : List It} {v : Value} {ops : Array Oper} {o : Oper} {a : Act} {K : Act → World → Prop} {Q : Exit → Act → World → Prop} {E : Prop}
    (hgd : o.guard = .none) (s x : Operand) (ho : o.op = .call { callee := .builtin .append, args := #[s, x], argTypes := #[26, 26] }) (hown : W.ownsRow base 71 2 v l.length (cellsI l)) (hs : a.eval s = v)
    (y : It) (hnb : Blk W nb 71 [vs y.1, .int .i64 y.2]) (hx : a.eval x = .slice (some ⟨nb, 0, .none⟩) 1 1) (hl : l.length ≤ 100000) (hbase : base ≤ W.heap.size)
    (h : ∀ A c w', ItsT w' A (l ++ [y]) → W.grownBy w' v.ownBlock → K (a.put o.dst (.slice A (l ++ [y]).length c)) w') : if Region.wanted o (yielded ops a.tmps) = true then Oper.wp Try.prog o a W K Q else E := by
  have hw : Region.wanted o (yielded ops a.tmps) = true := by simp [Region.wanted, hgd]
  rw [if_pos hw]
  obtain ⟨i0, hi, hz0, hz1, hz2⟩ := info_parts info71
  refine wp_append_own W s x 26 ho base 71 i0 (.agg #[.string ⟨#[]⟩, .int .i64 0]) 2 24 Try.underlying26 hi hz0 hz1 hz2 rfl (by decide) v l.length (cellsI l) hs hown ⟨nb, 0, .none⟩ 1 1 [vs y.1, .int .i64 y.2] hx rfl ?_ (by simp [Value.oneCell']) (by unfold maxLen; omega) (by omega) hbase ?_
  · intro j u hj
    rw [Addr.add_mid, Nat.zero_add, hnb.cell]; exact hj
  · intro v' w' h2 h3 _
    have h4 : w'.ownsRow base 71 2 v' (l.length + 1) (cellsI (l ++ [y])) := by rw [cellsI_snoc]; exact h2
    obtain ⟨A, c, rfl, hi⟩ := own_itsT h4 (by simp)
    exact h A c w' hi h3
set_option maxHeartbeats 8000000 in
set_option maxRecDepth 100000 in
theorem rset_any (mv : Value) (l : List It) (was : List (List It)) (k : List By) (x : Int) (w : World) (h : RT w mv l was) (hl : l.length ≤ 90000) (hwl : was.length ≤ 1000) :
    Calls Try.prog 13 #[mv, vs k, .int .i64 x] w (ThenPost w (withoutR l k ++ [(k, x)]) (was ++ [l])) := by
  have HRT := Lib.hid h
  obtain ⟨A, c, WA, wc, rfl, hA, hW⟩ := h
  have HA := Lib.hid hA; have HW := Lib.hid hW
  have hwol : (withoutR l k).length ≤ 90000 := by
    unfold withoutR
    have := List.length_filter_le (fun x : It => !decide (x.1 = k)) l
    omega
  clear hA hW
  go_enter Try.func13, Try.ntmps13
  have hB1 : Below w.heap.size w ((w.alloc (.cells #[.slice A l.length c, .slice WA was.length wc] 29)).alloc (.cells #[ns, ns] 29)) := ((Below.refl _ _).alloc (Nat.le_refl _) _).alloc (by simp) _
  have hbx : Blk ((w.alloc (.cells #[.slice A l.length c, .slice WA was.length wc] 29)).alloc (.cells #[ns, ns] 29)) w.heap.size 29 [.slice A l.length c, .slice WA was.length wc] := (Blk.new w 29 _).alloc _
  have hbr : Blk ((w.alloc (.cells #[.slice A l.length c, .slice WA was.length wc] 29)).alloc (.cells #[ns, ns] 29)) (w.heap.size + 1) 29 [ns, ns] := by
    have := Blk.new (w.alloc (.cells #[.slice A l.length c, .slice WA was.length wc] 29)) 29 #[ns, ns]
    simpa using this
  have HB1 := Lib.hid hB1; have HBX := Lib.hid hbx; have HBR := Lib.hid hbr
  clear hB1 hbx hbr
  go_upto_region 1 with fail
  generalize (w.alloc (.cells #[.slice A l.length c, .slice WA was.length wc] 29)).alloc (.cells #[ns, ns] 29) = w1 at *
  have hw1 : w.heap.size + 1 < w1.heap.size := Blk.lt HBR.out
  have HS : Hid (∀ W, Below w1.heap.size w1 W → W.cell? ⟨w.heap.size, 0, none⟩ = some (.slice A l.length c) ∧ W.cell? ⟨w.heap.size, 1, none⟩ = some (.slice WA was.length wc)) := fun W hW =>
    have hb : Blk W w.heap.size 29 _ := Blk.below HBX.out hW (by omega)
    ⟨hb.cell 0, hb.cell 1⟩
  have HWO : Hid (∀ W, Below w1.heap.size w1 W → Calls Try.prog 36 #[.slice A l.length c, vs k] W fun e w' => ∃ v, e = .returned v ∧ ItRow W (withoutR l k) v w') := fun W hW => rwithout_any A c l k W (HA.out.kept (Kept2.of_below (HB1.out.trans (hW.mono HB1.out.size)))).its (by omega)
  have hbA : Below w1.heap.size w1 w1.drew := (Below.refl _ _).drew
  have hbB : Below w1.heap.size w1 (w1.alloc (.cells #[vs k, .int .i64 x] 71)).drew := ((Below.refl _ _).alloc (Nat.le_refl _) _).drew
  have hnB : Blk (w1.alloc (.cells #[vs k, .int .i64 x] 71)).drew w1.heap.size 71 [vs k, .int .i64 x] := Blk.new w1 71 _
  have k1 := HS.out _ hbA; have k2 := HS.out _ hbB
  have HBA := Lib.hid hbA; have HBB := Lib.hid hbB; have HNBB := Lib.hid hnB
  clear hbA hbB hnB
  go_region_held3 (fun W => W.cell? ⟨w.heap.size, 0, none⟩ = some (.slice A l.length c) ∧ W.cell? ⟨w.heap.size, 1, none⟩ = some (.slice WA was.length wc))
    (first | with_reducible exact k1 | with_reducible exact k2 | with_reducible exact k3 | with_reducible exact k4 | with_reducible exact k5 | with_reducible exact k6 | with_reducible exact k7)
    (first
      | (go_at_call 36
         with_reducible refine (HWO.out _ HBA.out).mono ?_
         rintro e w3 ⟨v3, rfl, hr3⟩
         have hb3 : Below w1.heap.size w1 w3 := HBA.out.trans hr3.below
         have hb4 : Below w1.heap.size w1 (w3.alloc (.cells #[vs k, .int .i64 x] 71)) := hb3.alloc hb3.size _
         have k3 := HS.out w3 hb3; have k4 := HS.out _ hb4
         have HROW : Hid ((w3.alloc (.cells #[vs k, .int .i64 x] 71)).ownsRow w1.drew.heap.size 71 2 v3 (withoutR l k).length (cellsI (withoutR l k))) := hr3.own.alloc _
         have HNB : Hid (Blk (w3.alloc (.cells #[vs k, .int .i64 x] 71)) w3.heap.size 71 [vs k, .int .i64 x]) := Blk.new w3 71 _
         have HBS : Hid (w1.drew.heap.size ≤ (w3.alloc (.cells #[vs k, .int .i64 x] 71)).heap.size) := by show _ ≤ _; have := hr3.below.size; simp at this ⊢; omega
         have HB4 := Lib.hid hb4
         have HLO : Hid (w1.heap.size ≤ w1.drew.heap.size) := Nat.le_refl _
         clear hr3 hb3 hb4)
      | (go_at_call 36
         with_reducible refine (HWO.out _ HBB.out).mono ?_
         rintro e w3 ⟨v3, rfl, hr3⟩
         have hb3 : Below w1.heap.size w1 w3 := HBB.out.trans (hr3.below.mono (by simp))
         have k3 := HS.out w3 hb3
         have HROW : Hid (w3.ownsRow (w1.alloc (.cells #[vs k, .int .i64 x] 71)).drew.heap.size 71 2 v3 (withoutR l k).length (cellsI (withoutR l k))) := hr3.own
         have HNB : Hid (Blk w3 w1.heap.size 71 [vs k, .int .i64 x]) := Blk.below HNBB.out hr3.below (by simp)
         have HBS : Hid ((w1.alloc (.cells #[vs k, .int .i64 x] 71)).drew.heap.size ≤ w3.heap.size) := hr3.below.size
         have HB4 := Lib.hid hb3
         have HLO : Hid (w1.heap.size ≤ (w1.alloc (.cells #[vs k, .int .i64 x] 71)).drew.heap.size) := by show _ ≤ _; simp
         clear hr3 hb3)
      | (refine step_item (by rfl) (.tmp 11) (.tmp 15) (by rfl) HROW.out (by rfl) (k, x) HNB.out (by rfl) (by omega) HBS.out ?_
         intro A5 c5 w5 hi5 hg5
         have hb5 : Below w1.heap.size w1 w5 := HB4.out.grown hg5 (Nat.le_trans HLO.out HBS.out) (fun r hr => Nat.le_trans HLO.out (HROW.out.lt r hr).1)
         have k5 := HS.out w5 hb5
         have HTH : Hid (Calls Try.prog 35 #[.agg #[.slice A l.length c, .slice WA was.length wc], .slice A5 ((withoutR l k).length + 1) c5] w5 (ThenPost w5 (withoutR l k ++ [(k, x)]) (was ++ [l]))) := by
           have := rthen_any _ l (withoutR l k ++ [(k, x)]) was A5 c5 w5 (HRT.out.kept (Kept2.of_below (HB1.out.trans (hb5.mono HB1.out.size)))) hi5 hwl
           rw [List.length_append] at this
           exact this
         have HB5 := Lib.hid hb5
         clear hi5 hg5 hb5)
      | (go_at_call 35
         with_reducible refine HTH.out.mono ?_
         rintro e w6 ⟨⟨v6, rfl, hrt6⟩, hb6⟩
         obtain ⟨A6, c6, WA6, wc6, rfl, hi6, hw6⟩ := hrt6
         have hb16 : Below w1.heap.size w1 w6 := HB5.out.trans (hb6.mono HB5.out.size)
         have k6 := HS.out w6 hb16
         have HBR6 : Hid (Blk w6 (w.heap.size + 1) 29 [ns, ns]) := Blk.below HBR.out hb16 hw1
         have HBX6 : Hid (Blk w6 w.heap.size 29 [.slice A l.length c, .slice WA was.length wc]) := Blk.below HBX.out hb16 (by omega)
         have HB6 := Lib.hid (HB1.out.trans (hb16.mono HB1.out.size))
         have hbx7 : Blk ((w6.setCell ⟨w.heap.size + 1, 0, none⟩ (.slice A6 ((withoutR l k).length + 1) c6)).setCell ⟨w.heap.size + 1, 1, none⟩ (.slice WA6 (was.length + 1) wc6)) w.heap.size 29 [.slice A l.length c, .slice WA was.length wc] := (HBX6.out.other (by simp only; omega) _).other (by simp only; omega) _
         have k7 : ((w6.setCell ⟨w.heap.size + 1, 0, none⟩ (.slice A6 ((withoutR l k).length + 1) c6)).setCell ⟨w.heap.size + 1, 1, none⟩ (.slice WA6 (was.length + 1) wc6)).cell? ⟨w.heap.size, 0, none⟩ = some (.slice A l.length c) ∧ ((w6.setCell ⟨w.heap.size + 1, 0, none⟩ (.slice A6 ((withoutR l k).length + 1) c6)).setCell ⟨w.heap.size + 1, 1, none⟩ (.slice WA6 (was.length + 1) wc6)).cell? ⟨w.heap.size, 1, none⟩ = some (.slice WA was.length wc) := ⟨hbx7.cell 0, hbx7.cell 1⟩
         have g0 := HBR6.out.frozen 0; have g1 := HBR6.out.frozen 1
         have r0 := HBR6.out.cell 0; have r1 := HBR6.out.cell 1
         simp only [List.getElem?_cons_zero, List.getElem?_cons_succ] at r0 r1
         have HI6 := Lib.hid hi6; have HW6 := Lib.hid hw6
         clear hb6 hi6 hw6 hb16 hbx7)
      | fail)
  all_goals
    have hbr7 : Blk ((w6.setCell ⟨w.heap.size + 1, 0, none⟩ (.slice A6 ((withoutR l k).length + 1) c6)).setCell ⟨w.heap.size + 1, 1, none⟩ (.slice WA6 (was.length + 1) wc6)) (w.heap.size + 1) 29 [.slice A6 ((withoutR l k).length + 1) c6, .slice WA6 (was.length + 1) wc6] := by
      have := (HBR6.out.set 0 (.slice A6 ((withoutR l k).length + 1) c6)).set 1 (.slice WA6 (was.length + 1) wc6)
      simpa using this
    have hkp : Kept2 w6 ((w6.setCell ⟨w.heap.size + 1, 0, none⟩ (.slice A6 ((withoutR l k).length + 1) c6)).setCell ⟨w.heap.size + 1, 1, none⟩ (.slice WA6 (was.length + 1) wc6)) := kept_two HBR6.out
    have hb7 : Below w.heap.size w ((w6.setCell ⟨w.heap.size + 1, 0, none⟩ (.slice A6 ((withoutR l k).length + 1) c6)).setCell ⟨w.heap.size + 1, 1, none⟩ (.slice WA6 (was.length + 1) wc6)) := (HB6.out.setCell (by simp only; omega) _).setCell (by simp only; omega) _
    have HFI : Hid (RT ((w6.setCell ⟨w.heap.size + 1, 0, none⟩ (.slice A6 ((withoutR l k).length + 1) c6)).setCell ⟨w.heap.size + 1, 1, none⟩ (.slice WA6 (was.length + 1) wc6)) (.agg #[.slice A6 ((withoutR l k).length + 1) c6, .slice WA6 (was.length + 1) wc6]) (withoutR l k ++ [(k, x)]) (was ++ [l])) := ⟨A6, c6, WA6, wc6, by simp, HI6.out.kept hkp, HW6.out.1.kept hkp, HW6.out.2⟩
    have HB7 := Lib.hid hb7
    have d0 := hbr7.cell 0; have d1 := hbr7.cell 1
    simp only [List.getElem?_cons_zero, List.getElem?_cons_succ] at d0 d1
    clear hbr7 hkp hb7 k1 k2 k3 k5 k6 k7 g0 g1 r0 r1
    generalize (w6.setCell ⟨w.heap.size + 1, 0, none⟩ (.slice A6 ((withoutR l k).length + 1) c6)).setCell ⟨w.heap.size + 1, 1, none⟩ (.slice WA6 (was.length + 1) wc6) = W9 at *
    go_wp2_with fail
    exact bodyPost_ret (v := .agg #[.slice A6 ((withoutR l k).length + 1) c6, .slice WA6 (was.length + 1) wc6]) (by simp [results, Try.results13, go_sem, *]) rfl ⟨⟨_, rfl, HFI.out⟩, HB7.out⟩
set_option maxHeartbeats 4000000 in
set_option maxRecDepth 100000 in
theorem rkeys_any (mv : Value) (l : List It) (was : List (List It)) (w : World) (h : RT w mv l was) (hl : l.length ≤ 90000) :
    Calls Try.prog 25 #[mv] w fun e w' => ∃ v, e = .returned v ∧ RiseRel w (rise (keysR l)) v w' := by
  obtain ⟨A, c, WA, wc, rfl, hA, hW⟩ := h
  have HA := Lib.hid hA
  clear hA hW
  go_enter Try.func25, Try.ntmps25
  have hB1 : Below w.heap.size w (w.alloc (.cells #[.slice A l.length c, .slice WA was.length wc] 29)) := (Below.refl _ _).alloc (Nat.le_refl _) _
  have hbx : Blk (w.alloc (.cells #[.slice A l.length c, .slice WA was.length wc] 29)) w.heap.size 29 [.slice A l.length c, .slice WA was.length wc] := Blk.new w 29 _
  have HB1 := Lib.hid hB1; have HBX := Lib.hid hbx
  clear hB1 hbx
  go_upto_region 1 with fail
  generalize w.alloc (.cells #[.slice A l.length c, .slice WA was.length wc] 29) = w1 at *
  have hw1 : w.heap.size < w1.heap.size := Blk.lt HBX.out
  go_wp2_with fail
  go_loopw [3, 4] (fun vl vi wr => ∃ i : Nat, i ≤ l.length ∧ vi = .int .i64 i ∧ Hid (RowRel w1 9 ((keysR (l.take i)).map vs) vl wr)) (fun _ vi _ => l.length - (intOf vi).toNat)
  case atStart => exact ⟨0, Nat.zero_le _, rfl, RowRel.none _ _⟩
  case round =>
    obtain ⟨i, hi, rfl, HR⟩ := hrel
    rename World => W0
    have hbx0 : Blk W0 w.heap.size 29 [.slice A l.length c, .slice WA was.length wc] := Blk.below HBX.out HR.out.below hw1
    have x0 := hbx0.cell 0
    simp only [List.getElem?_cons_zero] at x0
    have HBW : Hid (Below w.heap.size w W0) := HB1.out.trans (HR.out.below.mono HB1.out.size)
    clear hbx0
    by_cases hlt : i < l.length
    · obtain ⟨b, o, rfl, hc⟩ := (HA.out.kept (Kept2.of_below HBW.out)).its (by omega)
      obtain ⟨k0, k1⟩ := hc i hlt
      have HK : Hid ((keysR (l.take (i + 1))).map vs = (keysR (l.take i)).map vs ++ [vs l[i].1]) := by
        show _ = _
        unfold keysR
        rw [List.take_succ_eq_append_getElem hlt, List.map_append, List.map_append]; rfl
      have hkl : ((keysR (l.take i)).map vs).length ≤ 90000 := by unfold keysR; simp; omega
      clear hc
      generalize l[i].1 = s at *
      go_wp2_with (refine wpList_push Try.underlying45 info9 rfl (by decide) rfl (.tmp 12) (.tmp 19) rfl HR.out rfl [vs s] 1 rfl rfl rfl (by omega) ?_)
      intro v5 w5 hr5
      have HX : Hid (RowRel w1 9 ((keysR (l.take (i + 1))).map vs) v5 w5) := by show RowRel _ _ _ _ _; rw [HK.out]; exact hr5
      clear hr5 HR HK k0 k1 hkl x0
      go_wp2_with fail
      go_roundw
      case rel => first | exact ⟨i + 1, by omega, by go_num, HX.out⟩ | ((repeat apply Exists.intro); refine ⟨?_, rfl⟩; exact ⟨i + 1, by omega, by go_num, HX.out⟩)
      case measure => simp [intOf]; omega
    · obtain rfl : i = l.length := by omega
      have hr := HR.out
      rw [List.take_length] at hr
      obtain ⟨A5, c5, hv5, hs5, -⟩ := own_strs (l := keysR l) (n := (keysR l).length) (by have := hr.own; rwa [List.length_map] at this) rfl
      subst hv5
      have HRS : Hid (Calls Try.prog 33 #[.slice A5 (keysR l).length c5] W0 fun e w' => ∃ v, e = .returned v ∧ RiseRel W0 (rise (keysR l)) v w') := rise_any A5 c5 (keysR l) (by unfold keysR; simp; omega) W0 hs5
      generalize (keysR l).length = nk at *
      clear hr hs5 HR
      go_wp2_with fail
      refine HRS.out.mono ?_
      rintro e w9 ⟨v9, rfl, hr9⟩
      have HR9 : Hid (RiseRel w (rise (keysR l)) v9 w9) := ⟨HBW.out.trans (hr9.below.mono HBW.out.size), hr9.row⟩
      clear hr9
      go_wp2_with fail
      go_ret
      exact ⟨_, rfl, HR9.out⟩
end Go.Proofs.Ytkmjknehbaofcaa
