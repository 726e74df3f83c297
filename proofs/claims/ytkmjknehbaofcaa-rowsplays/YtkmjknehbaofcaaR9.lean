/- The contract of Keys. -/
import Derived.Test.YtkmjknehbaofcaaR7
import Derived.Test.YtkmjknehbaofcaaN5
import Derived.Test.YtkmjknehbaofcaaN3b
import Derived.Test.YtkmjknehbaofcaaSMath
import Derived.Test.YtkmjknehbaofcaaIter
namespace Go.Proofs.Ytkmjknehbaofcaa
open Go.RowKit Go.Maps Go.WideShapes Go.MapKept Go.WideMaps Go.ChangeMaps BaseMath WireMath NameMath ScanMath

/-- the keys, rising -/
def keysD (D : DU) : List (List By) := rise (strKeys D)
theorem sort_nodup {l : List (List By)} (h : l.Nodup) : (l.mergeSort fun x y => decide (x ≤ y)) = rise l := by
  have hs := sorted_merge l
  have hp : (l.mergeSort fun x y => decide (x ≤ y)).Perm l := List.mergeSort_perm l _
  have hn : (l.mergeSort fun x y => decide (x ≤ y)).Nodup := hp.nodup_iff.2 h
  refine rises_ext ?_ (rise_rises _) fun q => ?_
  · unfold Rises
    rw [List.pairwise_iff_getElem]
    intro i j hi hj hij
    have h1 := hs i j (by omega) (by simpa using hj)
    rw [getElem!_pos _ i (by simpa using hi), getElem!_pos _ j (by simpa using hj)] at h1
    refine le_ne h1 fun e => ?_
    have := List.pairwise_iff_getElem.1 hn i j hi hj hij
    exact this (by simpa using e.symm)
  · rw [mem_rise]; exact hp.mem_iff
theorem keys_str {w : World} {b n : Nat} {D : DU} (h : w.ownsMap Try.prog 9 (plainElem (H := Unit) Try.prog 3) b n D) : ∃ es, D = .map es ∧ es.Pairwise (fun p q => p.1 ≠ q.1) ∧ ∀ p ∈ es, ∃ s : List By, p.1 = .string s := by
  obtain ⟨es, hes, hpw⟩ := h.tidy key9
  refine ⟨es, hes, hpw, fun p hp => ?_⟩
  obtain ⟨es0, clock, hb, F, hs, hD⟩ := h
  rw [hes] at hD
  injection hD with hD
  rw [hD] at hp
  have hp := (sorted_perm _).mem_iff.1 hp
  obtain ⟨x, hx, rfl⟩ := List.mem_map.1 hp
  obtain ⟨y, hy⟩ := F.reads x hx
  rw [Go.WideElems.rg_of hy]
  obtain ⟨s, -, hl, -⟩ := string_of_keyOf Try.underlying9 (Go.WideElems.rd_key hy)
  exact ⟨_, hl⟩
theorem mem_keys {w : World} {b n : Nat} {D : DU} (h : w.ownsMap Try.prog 9 (plainElem (H := Unit) Try.prog 3) b n D) (q : List By) : q ∈ strKeys D ↔ hasD D q = true := by
  obtain ⟨es, rfl, -, hk⟩ := keys_str h
  unfold strKeys hasD Maps.has
  rw [List.mem_map, List.any_eq_true]
  constructor
  · rintro ⟨p, hp, rfl⟩
    obtain ⟨s, hs⟩ := hk p hp
    exact ⟨p, hp, by rw [hs]; simp [strOf, Lit.sameKey]⟩
  · rintro ⟨p, hp, hq⟩
    obtain ⟨s, hs⟩ := hk p hp
    refine ⟨p, hp, ?_⟩
    rw [hs] at hq ⊢
    simpa [strOf, Lit.sameKey] using hq
theorem keys_nodup {w : World} {b n : Nat} {D : DU} (h : w.ownsMap Try.prog 9 (plainElem (H := Unit) Try.prog 3) b n D) : (strKeys D).Nodup := by
  obtain ⟨es, rfl, hpw, hk⟩ := keys_str h
  unfold strKeys List.Nodup
  rw [List.pairwise_map]
  refine hpw.imp_of_mem fun {p q} hp hq hne e => ?_
  obtain ⟨s, hs⟩ := hk p hp
  obtain ⟨t, ht⟩ := hk q hq
  rw [hs, ht] at hne e
  exact hne (by simpa [strOf] using e)
/-- texts in a block of texts -/
def StrT (w : World) (A : Option Addr) (l : List (List By)) : Prop := 0 < l.length → ∃ b o cs, A = some ⟨b, o, none⟩ ∧ w.heap[b]? = some (.cells cs 9 (0, 0)) ∧ ∀ k (h : k < l.length), cs[o + k]? = some (vs l[k])
theorem StrT.strs {w : World} {A : Option Addr} {l : List (List By)} (h : StrT w A l) : StrsIs w A l := fun h0 => by
  obtain ⟨b, o, cs, rfl, hb, hc⟩ := h h0
  exact ⟨b, o, rfl, fun k hk => by rw [cell_of_row w b _ cs 9 (0, 0) hb]; exact hc k hk⟩
theorem StrT.step {base : Nat} {w w' : World} {A : Option Addr} {l : List (List By)} (h : StrT w A l) (hs : Step base w w') : StrT w' A l := fun h0 => by
  obtain ⟨b, o, cs, rfl, hb, hc⟩ := h h0
  exact ⟨b, o, cs, rfl, hs.other b _ hb (by simp) (by simp) (by simp), hc⟩
theorem StrT.below {w w' : World} {A : Option Addr} {l : List (List By)} (h : StrT w A l) (hs : Below w.heap.size w w') : StrT w' A l := fun h0 => by
  obtain ⟨b, o, cs, rfl, hb, hc⟩ := h h0
  exact ⟨b, o, cs, rfl, (hs.block b (Array.getElem?_eq_some_iff.1 hb).1).trans hb, hc⟩
theorem own_strT {w : World} {base n : Nat} {A : Option Addr} {c : Nat} {l : List (List By)} (h : w.ownsRow base 9 1 (.slice A l.length c) n (l.map vs)) : StrT w A l := fun h0 => by
  rcases h.2 with ⟨hv, hn⟩ | ⟨g, cap, cur, hv, hb, hg, hnc, hcm, hcs, hct⟩
  · have := h.1; rw [List.length_map] at this; omega
  · injection hv with hA
    refine ⟨g, 0, cur, hA, hg, fun k hk => ?_⟩
    have hln := h.1
    rw [List.length_map] at hln
    have h2 : (l.map vs)[k]? = some (vs l[k]) := by simp [hk]
    rw [← hct, List.getElem?_take_of_lt (by omega), Array.getElem?_toList] at h2
    rw [Nat.zero_add]; exact h2
set_option maxHeartbeats 1000000 in
set_option maxRecDepth 100000 in
theorem keys_any {base : Nat} {w : World} {tb : Nat} {D : DU} {J : List Fo} {n : Nat} (h : Tab base w tb D J n) (hn : n ≤ 1000000) :
    Calls Try.prog 24 #[.pointer (some ⟨tb, 0, none⟩)] w fun e w' => ∃ A c, e = .returned (.slice A (keysD D).length c) ∧ StrsIs w' A (keysD D) ∧ StrT w' A (keysD D) ∧ (A = none → c = 0) ∧ Below w.heap.size w w' := by
  obtain ⟨mb, jv, h⟩ := h
  have c0 : w.cell? ⟨tb, 0, none⟩ = some (.map (some mb)) := h.blk.cell 0
  have HM := Lib.hid h.map
  have hsz := h.map.size_le
  have HN := Lib.hid (keys_nodup h.map)
  clear h
  go_enter Try.func24, Try.ntmps24
  go_wp2_with fail
  refine (callsIn_wide.1 (Try.maps_Keys_41 (some mb) w)).mono ?_
  rintro e w1 ⟨rfl, rfl⟩
  go_wp2_with fail
  refine (callsIn_wide.1 (Try.slices_Sorted_keys_40_41 mb n D (plainElem (H := Unit) Try.prog 3) w HM.out (by unfold maxLen; omega) (by omega))).mono ?_
  rintro e w2 ⟨v, ss, rfl, hS, hrow, -, hb⟩
  have hb2 : Below w.heap.size w w2 := ((Below.refl w.heap.size w).alloc (Nat.le_refl _) _).trans (hb.mono (by simp))
  have hss : (ss.mergeSort fun x y => decide (x ≤ y)) = keysD D := by
    rw [sort_nodup (hS.nodup_iff.2 HN.out)]
    show rise ss = rise (strKeys D)
    exact rises_ext (rise_rises _) (rise_rises _) fun q => by rw [mem_rise, mem_rise]; exact hS.mem_iff
  rw [hss] at hrow
  have hlen : (keysD D).length = ss.length := by rw [← hss, List.length_mergeSort]
  obtain ⟨A, c, rfl, hst, hnn, -, -⟩ := own_strs (l := keysD D) (n := ss.length) hrow hlen
  have HTT := Lib.hid (own_strT hrow)
  have HST := Lib.hid hst; have HB2 := Lib.hid hb2; have HNN := Lib.hid hnn
  clear hst hb2 hrow hS hss hb hnn hlen c0
  go_wp2_with fail
  go_ret
  exact ⟨A, c, rfl, HST.out, HTT.out, HNN.out, HB2.out⟩
theorem hasD_put {D : DU} (h : IsMap D) (k q : List By) (d : DU) : hasD (D.put (kl k) d) q = (decide (q = k) || hasD D q) := by
  unfold hasD
  by_cases e : q = k
  · subst e
    rw [has_put_same h (show WideAt.IsKeyLit (kl q) from trivial), decide_eq_true rfl, Bool.true_or]
  · rw [has_put_other (fun e2 => e (by injection e2)), decide_eq_false e, Bool.false_or]
theorem hasD_del (D : DU) (k q : List By) : hasD (D.del (kl k)) q = (!decide (q = k) && hasD D q) := by
  unfold hasD
  by_cases e : q = k
  · subst e
    rw [has_del_same, decide_eq_true rfl]; rfl
  · rw [has_del_other (fun e2 => e (by injection e2)), decide_eq_false e]; rfl
theorem texts_below (A B : Option Addr) (ca cb : Nat) (l : List (List By)) (hl : l.length ≤ 100000) (w : World) (hA : StrsIs w A l) (hB : StrsIs w B l) :
    Calls Try.prog 23 #[.slice A l.length ca, .slice B l.length cb] w fun e w' => e = .returned (.bool true) ∧ Below w.heap.size w w' :=
  (texts_any A B ca cb l l (by unfold maxLen; omega) (by unfold maxLen; omega) w hA hB).mono fun e w' h => by
    obtain ⟨rfl, q, rfl⟩ := h
    exact ⟨by simp, below_drewN (Below.refl _ _) q⟩
theorem set_len {base : Nat} {w : World} {tb : Nat} {D : DU} {J : List Fo} {n : Nat} (h : Tab base w tb D J n) (k : List By) (hk : k.length ≤ maxLen) (v : Int) (hv : (Lit.int .i64 v).wf = true) (hJ : J.length ≤ 1000) (hn : n ≤ 500000) :
    Calls Try.prog 12 #[.pointer (some ⟨tb, 0, none⟩), vs k, .int .i64 v] w fun e w' => e = .returned (.tuple #[]) ∧ (∃ J' : List Fo, J'.length = J.length + 1 ∧ Tab base w' tb (D.put (kl k) (.lit (.int .i64 v))) J' (n + 1)) ∧ Step base w w' :=
  (set_any h k hk v hv hJ hn).mono fun e w' he => ⟨he.1, ⟨_, by rw [List.length_append]; rfl, he.2.1⟩, he.2.2⟩
theorem undone_once (w wo : World) (hb : Below w.heap.size w wo) : Calls Try.prog 9 #[] wo fun e w' => e = .returned (.bool true) ∧ Below w.heap.size w w' :=
  (undone_any wo).mono fun _ _ h => ⟨h.1, hb.trans (h.2.mono hb.size)⟩
end Go.Proofs.Ytkmjknehbaofcaa
