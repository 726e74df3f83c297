/- The reference's tables in memory; the contract of then. -/
import Derived.Test.YtkmjknehbaofcaaR17
import Derived.Test.YtkmjknehbaofcaaBlk
import Derived.Laws.AppendOwnNone
namespace Go.Proofs.Ytkmjknehbaofcaa
open Go.RowKit Go.Maps Go.WideShapes Go.MapKept Go.WideMaps Go.ChangeMaps BaseMath WireMath NameMath ScanMath

theorem new_cells (W : World) (e : TypeId) (l : List Value) : ∀ j u, l[j]? = some u → (W.alloc (.cells l.toArray e)).cell? ((⟨W.heap.size, 0, none⟩ : Addr).add j) = some u := fun j u hj => by
  rw [Addr.add_mid, Nat.zero_add, (Blk.new W e l.toArray).cell]; exact hj
abbrev ns : Value := .slice none 0 0
/-- blocks of items and of lists of items stay -/
def Kept2 (w w' : World) : Prop := ∀ (b : Nat) (cs : Array Value) (t : TypeId), (t = 71 ∨ t = 26) → w.heap[b]? = some (Obj.cells cs t (0, 0)) → w'.heap[b]? = some (Obj.cells cs t (0, 0))
theorem Kept2.of_below {w w' : World} (h : Below w.heap.size w w') : Kept2 w w' := fun b _ _ _ hb => (h.block b (Array.getElem?_eq_some_iff.1 hb).1).trans hb
theorem Kept2.of_step {base : Nat} {w w' : World} (h : Step base w w') : Kept2 w w' := fun b cs t ht hb => h.other b _ hb (by rcases ht with rfl | rfl <;> simp) (by rcases ht with rfl | rfl <;> simp) (by simp)
theorem Kept2.trans {a b c : World} (h : Kept2 a b) (k : Kept2 b c) : Kept2 a c := fun q cs t ht hb => k q cs t ht (h q cs t ht hb)
theorem Kept2.set {w : World} {q i : Nat} {T : TypeId} {cs : List Value} (hb : Blk w q T cs) (h1 : T ≠ 71) (h2 : T ≠ 26) (v : Value) : Kept2 w (w.setCell ⟨q, i, none⟩ v) := fun b cs' t ht h => by
  rw [Below.heap_setCell w ⟨q, i, none⟩ v b (fun e => by
    simp only at e; subst e; unfold Blk at hb; rw [h] at hb; injection hb with hb; injection hb with _ h3
    rcases ht with rfl | rfl
    · exact h1 h3.symm
    · exact h2 h3.symm)]
  exact h
def ItsT (w : World) (A : Option Addr) (l : List It) : Prop := 0 < l.length → ∃ b o cs, A = some ⟨b, o, none⟩ ∧ w.heap[b]? = some (.cells cs 71 (0, 0)) ∧ ∀ i (h : i < l.length), cs[o + i * 2]? = some (vs l[i].1) ∧ cs[o + i * 2 + 1]? = some (.int .i64 l[i].2)
theorem ItsT.kept {w w' : World} {A : Option Addr} {l : List It} (h : ItsT w A l) (k : Kept2 w w') : ItsT w' A l := fun h0 => by
  obtain ⟨b, o, cs, e, hb, hc⟩ := h h0
  exact ⟨b, o, cs, e, k b cs 71 (.inl rfl) hb, hc⟩
theorem ItsT.its {w : World} {A : Option Addr} {l : List It} (h : ItsT w A l) : ItsAt w A l := fun h0 => by
  obtain ⟨b, o, cs, e, hb, hc⟩ := h h0
  refine ⟨b, o, e, fun i hi => ?_⟩
  rw [cell_of_row w b _ cs 71 (0, 0) hb, cell_of_row w b _ cs 71 (0, 0) hb]; exact hc i hi
theorem ItsT.nil (w : World) (A : Option Addr) : ItsT w A [] := fun h => absurd h (by simp)
theorem cellsI_get : ∀ (l : List It) (i : Nat) (h : i < l.length), (cellsI l)[i * 2]? = some (vs l[i].1) ∧ (cellsI l)[i * 2 + 1]? = some (.int .i64 l[i].2)
  | x :: l, 0, _ => ⟨rfl, rfl⟩
  | x :: l, i + 1, h => by
    have := cellsI_get l i (by simpa using h)
    have e : cellsI (x :: l) = [vs x.1, .int .i64 x.2] ++ cellsI l := rfl
    rw [e, show (i + 1) * 2 = 2 + i * 2 by omega, show 2 + i * 2 + 1 = 2 + (i * 2 + 1) by omega, List.getElem?_append_right (by simp), List.getElem?_append_right (by simp)]
    simpa using this
theorem own_itsT {w : World} {base n : Nat} {v : Value} {l : List It} (h : w.ownsRow base 71 2 v n (cellsI l)) (hn : l.length = n) : ∃ A c, v = .slice A l.length c ∧ ItsT w A l := by
  rcases h.2 with ⟨hv, h0⟩ | ⟨g, cap, cur, hv, hg, hc, hnc, _, hs, ht⟩
  · have : l = [] := List.eq_nil_of_length_eq_zero (by omega)
    subst this
    exact ⟨none, 0, hv, ItsT.nil _ _⟩
  · refine ⟨some ⟨g, 0, none⟩, cap, by rw [hv, hn], fun _ => ⟨g, 0, cur, rfl, hc, fun i hi => ?_⟩⟩
    obtain ⟨h1, h2⟩ := cellsI_get l i hi
    rw [← ht, List.getElem?_take_of_lt (by omega), Array.getElem?_toList] at h1 h2
    rw [Nat.zero_add]; exact ⟨h1, h2⟩
theorem ItRow.itsT {w w' : World} {l : List It} {v : Value} (h : ItRow w l v w') : ∃ A c, v = .slice A l.length c ∧ ItsT w' A l := own_itsT h.own rfl
/-- lists of items, as cells -/
def WasV (w : World) (vals : List Value) (was : List (List It)) : Prop := vals.length = was.length ∧ ∀ i (h : i < was.length), ∃ A c, vals[i]? = some (.slice A was[i].length c) ∧ ItsT w A was[i]
theorem WasV.kept {w w' : World} {vals : List Value} {was : List (List It)} (h : WasV w vals was) (k : Kept2 w w') : WasV w' vals was := ⟨h.1, fun i hi => by
  obtain ⟨A, c, h1, h2⟩ := h.2 i hi
  exact ⟨A, c, h1, h2.kept k⟩⟩
theorem WasV.snoc {w : World} {vals : List Value} {was : List (List It)} {A : Option Addr} {c : Nat} {l : List It} (h : WasV w vals was) (hl : ItsT w A l) : WasV w (vals ++ [.slice A l.length c]) (was ++ [l]) := by
  refine ⟨by simp [h.1], fun i hi => ?_⟩
  by_cases e : i < was.length
  · obtain ⟨A', c', h1, h2⟩ := h.2 i e
    rw [List.getElem_append_left e]
    exact ⟨A', c', by rw [List.getElem?_append_left (by rw [h.1]; exact e)]; exact h1, h2⟩
  · have hi2 : i = was.length := by simp at hi; omega
    subst hi2
    rw [List.getElem_append_right (Nat.le_refl _)]
    simp only [Nat.sub_self, List.getElem_cons_zero]
    exact ⟨A, c, by rw [List.getElem?_append_right (by rw [h.1]; omega), h.1, Nat.sub_self]; rfl, hl⟩
theorem WasV.one {w : World} {vals : List Value} {was : List (List It)} (h : WasV w vals was) : ∀ y ∈ vals, y.oneCell' = true := fun y hy => by
  obtain ⟨i, hi, rfl⟩ := List.getElem_of_mem hy
  obtain ⟨A, c, h1, -⟩ := h.2 i (by rw [← h.1]; exact hi)
  rw [List.getElem?_eq_getElem hi] at h1
  injection h1 with h1
  rw [h1]; rfl
theorem WasV.take {w : World} {vals : List Value} {was : List (List It)} (h : WasV w vals was) (m : Nat) : WasV w (vals.take m) (was.take m) := ⟨by simp [h.1], fun i hi => by
  have hi2 : i < m ∧ i < was.length := by simp at hi; omega
  obtain ⟨A, c, h1, h2⟩ := h.2 i hi2.2
  rw [List.getElem_take]
  exact ⟨A, c, by rw [List.getElem?_take_of_lt hi2.1]; exact h1, h2⟩⟩
def WasT (w : World) (WA : Option Addr) (was : List (List It)) : Prop := ∃ vals, WasV w vals was ∧ (0 < was.length → ∃ b o cs, WA = some ⟨b, o, none⟩ ∧ w.heap[b]? = some (.cells cs 26 (0, 0)) ∧ ∀ i, i < was.length → cs[o + i]? = vals[i]?)
theorem WasT.kept {w w' : World} {WA : Option Addr} {was : List (List It)} (h : WasT w WA was) (k : Kept2 w w') : WasT w' WA was := by
  obtain ⟨vals, h1, h2⟩ := h
  exact ⟨vals, h1.kept k, fun h0 => by obtain ⟨b, o, cs, e, hb, hc⟩ := h2 h0; exact ⟨b, o, cs, e, k b cs 26 (.inr rfl) hb, hc⟩⟩
theorem WasT.nil (w : World) (A : Option Addr) : WasT w A [] := ⟨[], ⟨rfl, fun i h => absurd h (by simp)⟩, fun h => absurd h (by simp)⟩
theorem own_wasT {w : World} {base n : Nat} {v : Value} {vals : List Value} {was : List (List It)} (h : w.ownsRow base 26 1 v n vals) (hv : WasV w vals was) (hn : was.length = n) : ∃ A c, v = .slice A was.length c ∧ WasT w A was ∧ (A = none → c = 0) ∧ was.length ≤ c := by
  rcases h.2 with ⟨hv', h0⟩ | ⟨g, cap, cur, hv', hg, hc, hnc, _, hs, ht⟩
  · have : was = [] := List.eq_nil_of_length_eq_zero (by omega)
    subst this
    exact ⟨none, 0, hv', WasT.nil _ _, fun _ => rfl, by simp⟩
  · refine ⟨some ⟨g, 0, none⟩, cap, by rw [hv', hn], ⟨vals, hv, fun _ => ⟨g, 0, cur, rfl, hc, fun i hi => ?_⟩⟩, (fun e => by cases e), by omega⟩
    rw [Nat.zero_add, ← ht, List.getElem?_take_of_lt (by omega), Array.getElem?_toList]
/-- a table of the reference by value -/
def RT (w : World) (mv : Value) (l : List It) (was : List (List It)) : Prop := ∃ A c WA wc, mv = .agg #[.slice A l.length c, .slice WA was.length wc] ∧ ItsT w A l ∧ WasT w WA was ∧ (WA = none → wc = 0) ∧ was.length ≤ wc
theorem RT.kept {w w' : World} {mv : Value} {l : List It} {was : List (List It)} (h : RT w mv l was) (k : Kept2 w w') : RT w' mv l was := by
  obtain ⟨A, c, WA, wc, e, h1, h2, h3⟩ := h
  exact ⟨A, c, WA, wc, e, h1.kept k, h2.kept k, h3⟩
theorem RT.nil (w : World) : RT w (.agg #[ns, ns]) [] [] := ⟨none, 0, none, 0, rfl, ItsT.nil _ _, WasT.nil _ _, fun _ => rfl, by simp⟩
theorem info29 : (Try.prog.info? 29).map (·.size) = some 2 := by kernel_rfl
theorem info26w : (Try.prog.info? 26).map (fun i => (i.zero, i.size, i.bytes)) = some (some (.slice none 0 0), 1, 24) := by kernel_rfl
def ThenPost (w : World) (l : List It) (was : List (List It)) (e : Ending) (w' : World) : Prop := (∃ v, e = .returned v ∧ RT w' v l was) ∧ Below w.heap.size w w'
set_option maxHeartbeats 4000000 in
set_option maxRecDepth 100000 in
theorem rthen_any (mv : Value) (l l' : List It) (was : List (List It)) (A' : Option Addr) (c' : Nat) (w : World) (h : RT w mv l was) (hl' : ItsT w A' l') (hwl : was.length ≤ 1000) :
    Calls Try.prog 35 #[mv, .slice A' l'.length c'] w (ThenPost w l' (was ++ [l])) := by
  obtain ⟨A, c, WA, wc, rfl, hA, ⟨vals, hV, hW⟩, hN, hwc⟩ := h
  have HA := Lib.hid hA; have HV := Lib.hid hV; have HW := Lib.hid hW; have HN := Lib.hid hN; have HL' := Lib.hid hl'
  have HVL := Lib.hid hV.1
  clear hA hV hW hN hl'
  go_enter Try.func35, Try.ntmps35
  have hB1 : Below w.heap.size w ((w.alloc (.cells #[.slice A l.length c, .slice WA was.length wc] 29)).alloc (.cells #[ns, ns] 29)) := ((Below.refl _ _).alloc (Nat.le_refl _) _).alloc (by simp) _
  have hbx : Blk ((w.alloc (.cells #[.slice A l.length c, .slice WA was.length wc] 29)).alloc (.cells #[ns, ns] 29)) w.heap.size 29 [.slice A l.length c, .slice WA was.length wc] := (Blk.new w 29 _).alloc _
  have hbr : Blk ((w.alloc (.cells #[.slice A l.length c, .slice WA was.length wc] 29)).alloc (.cells #[ns, ns] 29)) (w.heap.size + 1) 29 [ns, ns] := by
    have := Blk.new (w.alloc (.cells #[.slice A l.length c, .slice WA was.length wc] 29)) 29 #[ns, ns]
    simpa using this
  have HB1 := Lib.hid hB1; have HBX := Lib.hid hbx; have HBR := Lib.hid hbr
  clear hB1 hbx hbr
  go_upto_region 2 with fail
  generalize (w.alloc (.cells #[.slice A l.length c, .slice WA was.length wc] 29)).alloc (.cells #[ns, ns] 29) = w1 at *
  have x1 := HBX.out.cell 1
  simp only [List.getElem?_cons_zero, List.getElem?_cons_succ] at x1
  obtain ⟨i0, hi, hz0, hz1, hz2⟩ := info_parts info26w
  have HI := Lib.hid hi; have HZ0 := Lib.hid hz0; have HZ1 := Lib.hid hz1; have HZ2 := Lib.hid hz2
  clear hi hz0 hz1 hz2
  have hw1 : w.heap.size + 1 < w1.heap.size := Blk.lt HBR.out
  have HNX : Hid (∀ w2, Below w1.heap.size w1 w2 → Blk w2 w.heap.size 29 [.slice A l.length c, .slice WA was.length wc] ∧ Blk w2 (w.heap.size + 1) 29 [ns, ns] ∧ WasV w2 vals was ∧ ItsT w2 A l ∧ ItsT w2 A' l' ∧ Below w.heap.size w w2) := fun w2 hb =>
    have hbw := HB1.out.trans (hb.mono HB1.out.size)
    ⟨Blk.below HBX.out hb (by omega), Blk.below HBR.out hb hw1, HV.out.kept (Kept2.of_below hbw), HA.out.kept (Kept2.of_below hbw), HL'.out.kept (Kept2.of_below hbw), hbw⟩
  cases WA with
  | none =>
    have hwc0 := HN.out rfl
    subst hwc0
    have hw0 : was = [] := List.eq_nil_of_length_eq_zero (by omega)
    subst hw0
    have hv0 : vals = [] := List.eq_nil_of_length_eq_zero HVL.out
    subst hv0
    have HO : Hid (w1.ownsRow w1.heap.size 26 1 ns 0 []) := World.ownsRow_nil _ _ _ _
    have y0 := HBX.out.cell 0
    simp only [List.getElem?_cons_zero] at y0
    go_wp2_with (first
      | (refine wpList_append_own_none rfl (.tmp 6) (.tmp 8) 27 rfl w1.heap.size 26 i0 1 Try.underlying27 HI.out ns 0 [] rfl (World.ownsRow_nil _ _ _ _) rfl ?_)
      | (refine wpList_append_own _ rfl (.tmp 11) (.tmp 14) 27 rfl w1.heap.size 26 i0 ns 1 24 Try.underlying27 HI.out HZ0.out HZ1.out HZ2.out rfl (by decide) ns 0 [] rfl (HO.out.alloc _) ⟨w1.heap.size, 0, none⟩ 1 1 [.slice A l.length c] rfl rfl (new_cells w1 26 [.slice A l.length c]) (by intro y hy; rw [List.mem_singleton.1 hy]; rfl) (by unfold maxLen; omega) (by omega) (by simp) ?_)
      | fail)
    intro v5 w5 ho5 hg5 _
    have hb5 : Below w1.heap.size w1 w5 := ((Below.refl w1.heap.size w1).alloc (Nat.le_refl _) _).grown hg5 (by simp) (fun k hk => (HO.out.lt k hk).1)
    obtain ⟨k1, k2, k3, k4, k5, k6⟩ := HNX.out w5 hb5
    have hv5 : WasV w5 ([] ++ [.slice A l.length c]) ([] ++ [l]) := WasV.snoc k3 k4
    obtain ⟨A5, c5, rfl, hw5, hn5, hc5⟩ := own_wasT ho5 hv5 (by simp)
    have HFIN : Hid (RT w5 (.agg #[.slice A' l'.length c', .slice A5 ([] ++ [l]).length c5]) l' ([] ++ [l])) := ⟨A', c', A5, c5, rfl, k5, hw5, hn5, hc5⟩
    have HB5 := Lib.hid k6
    have HR5 := Lib.hid k2
    clear hb5 hv5 hw5 hn5 hc5 ho5 hg5 k1 k2 k3 k4 k5 k6 y0 HNX
    go_wp2_with (refine wpList_store_blk rfl (.tmp 4) (.tmp 16) rfl rfl (cs' := [.slice A' l'.length c', .slice A5 ([] ++ [l]).length c5]) rfl HR5.out rfl info29 rfl ?_)
    intro w8 hrs
    have d0 := hrs.blk.cell 0; have d1 := hrs.blk.cell 1
    simp only [List.getElem?_cons_zero, List.getElem?_cons_succ] at d0 d1
    have hb8 : Below w.heap.size w w8 := hrs.below _ _ HB5.out (by omega)
    have hk8 : Kept2 w5 w8 := fun b cs t ht hb => by
      rw [hrs.other b (fun e => by
        subst e
        have := HR5.out
        unfold Blk at this; rw [hb] at this; injection this with this; injection this with _ h3
        rcases ht with rfl | rfl
        · cases h3
        · cases h3)]
      exact hb
    have HF := Lib.hid (HFIN.out.kept hk8); have HB8 := Lib.hid hb8
    clear hrs hb8 hk8
    go_wp2_with fail
    exact bodyPost_ret (v := .agg #[.slice A' l'.length c', .slice A5 ([] ++ [l]).length c5]) (by simp [results, Try.results35, go_sem, *]) rfl ⟨⟨_, rfl, HF.out⟩, HB8.out⟩
  | some ad =>
    have HSRC : Hid (∀ j u, vals[j]? = some u → w1.cell? (ad.add j) = some u) := fun j u hj => by
      have hjl : j < was.length := by rw [← HVL.out]; exact (List.getElem?_eq_some_iff.1 hj).1
      obtain ⟨b, o, cs, e, hb, hc⟩ := HW.out (by omega)
      injection e with e
      subst e
      rw [Addr.add_mid, cell_of_row w1 b _ cs 26 (0, 0) (Kept2.of_below HB1.out b cs 26 (.inr rfl) hb), hc j hjl]; exact hj
    go_wp2_with (refine wpList_append_own _ rfl (.tmp 6) (.tmp 8) 27 rfl w1.heap.size 26 i0 ns 1 24 Try.underlying27 HI.out HZ0.out HZ1.out HZ2.out rfl (by decide) ns 0 [] rfl (World.ownsRow_nil _ _ _ _) ad was.length wc vals rfl (by rw [HVL.out, Nat.mul_one]) HSRC.out HV.out.one (by unfold maxLen; omega) (by omega) (Nat.le_refl _) ?_)
    intro v2 w2 ho2 hg2 _
    replace ho2 : w2.ownsRow w1.heap.size 26 1 v2 was.length vals := by simpa using ho2
    have HB12 : Hid (Below w1.heap.size w1 w2) := (Below.refl w1.heap.size w1).grown hg2 (Nat.le_refl _) (fun k hk => by cases hk)
    obtain ⟨O2, oc2, hv2⟩ : ∃ A c, v2 = .slice A was.length c := by
      rcases ho2.2 with ⟨rfl, h0⟩ | ⟨k, cap, cur, rfl, _⟩
      · exact ⟨none, 0, by rw [h0]⟩
      · exact ⟨_, _, rfl⟩
    subst hv2
    have HO := Lib.hid ho2
    have hw2 : w1.heap.size ≤ w2.heap.size := HB12.out.size
    have y0 := (Blk.below HBX.out HB12.out (by omega)).cell 0
    simp only [List.getElem?_cons_zero] at y0
    clear x1 ho2 hg2 HSRC
    go_wp2_with (refine wpList_append_own _ rfl (.tmp 11) (.tmp 14) 27 rfl w1.heap.size 26 i0 ns 1 24 Try.underlying27 HI.out HZ0.out HZ1.out HZ2.out rfl (by decide) (.slice O2 was.length oc2) was.length vals rfl (HO.out.alloc _) ⟨w2.heap.size, 0, none⟩ 1 1 [.slice A l.length c] rfl rfl (new_cells w2 26 [.slice A l.length c]) (by intro y hy; rw [List.mem_singleton.1 hy]; rfl) (by unfold maxLen; omega) (by omega) (by simp; omega) ?_)
    intro v5 w5 ho5 hg5 _
    have hb5 : Below w1.heap.size w1 w5 := (HB12.out.alloc hw2 _).grown hg5 (by simp; omega) (fun k hk => (HO.out.lt k hk).1)
    obtain ⟨k1, k2, k3, k4, k5, k6⟩ := HNX.out w5 hb5
    have hv5 : WasV w5 (vals ++ [.slice A l.length c]) (was ++ [l]) := WasV.snoc k3 k4
    obtain ⟨A5, c5, rfl, hw5, hn5, hc5⟩ := own_wasT ho5 hv5 (by simp)
    have HFIN : Hid (RT w5 (.agg #[.slice A' l'.length c', .slice A5 (was.length + 1) c5]) l' (was ++ [l])) := ⟨A', c', A5, c5, by simp, k5, hw5, hn5, hc5⟩
    have HB5 := Lib.hid k6
    have HR5 := Lib.hid k2
    clear hb5 hv5 hw5 hn5 hc5 ho5 hg5 k1 k2 k3 k4 k5 k6 y0 HNX
    go_wp2_with (refine wpList_store_blk rfl (.tmp 4) (.tmp 16) rfl rfl (cs' := [.slice A' l'.length c', .slice A5 (was.length + 1) c5]) rfl HR5.out rfl info29 rfl ?_)
    intro w8 hrs
    have d0 := hrs.blk.cell 0; have d1 := hrs.blk.cell 1
    simp only [List.getElem?_cons_zero, List.getElem?_cons_succ] at d0 d1
    have hb8 : Below w.heap.size w w8 := hrs.below _ _ HB5.out (by omega)
    have hk8 : Kept2 w5 w8 := fun b cs t ht hb => by
      rw [hrs.other b (fun e => by
        subst e
        have := HR5.out
        unfold Blk at this; rw [hb] at this; injection this with this; injection this with _ h3
        rcases ht with rfl | rfl
        · cases h3
        · cases h3)]
      exact hb
    have HF := Lib.hid (HFIN.out.kept hk8); have HB8 := Lib.hid hb8
    clear hrs hb8 hk8
    go_wp2_with fail
    exact bodyPost_ret (v := .agg #[.slice A' l'.length c', .slice A5 (was.length + 1) c5]) (by simp [results, Try.results35, go_sem, *]) rfl ⟨⟨_, rfl, HF.out⟩, HB8.out⟩
end Go.Proofs.Ytkmjknehbaofcaa
