/- The contracts of note, Set, Drop. -/
import Derived.Test.YtkmjknehbaofcaaR1
import Derived.Maps.AppendAt
namespace Go.Proofs.Ytkmjknehbaofcaa
open Go.RowKit Go.Maps Go.WideShapes Go.MapKept Go.WideMaps Go.ChangeMaps BaseMath WireMath NameMath

theorem info76 : (Try.prog.info? 76).map (fun i => (i.zero, i.size, i.bytes)) = some (some (.agg #[.string ⟨#[]⟩, .int .i64 0, .bool false]), 3, 32) := by kernel_rfl
theorem step_store {base : Nat} {w : World} {tb : Nat} {cs : List Value} (hb : Blk w tb 65 cs) (ht : base ≤ tb) (i : Nat) (v : Value) : Step base w (w.setCell ⟨tb, i, none⟩ v) := by
  refine ⟨rfl, rfl, rfl, by simp, fun c hc => ?_, fun c o ho h1 _ _ => ?_⟩
  · exact Below.heap_setCell _ _ _ _ (by show c ≠ tb; omega)
  · rw [Below.heap_setCell _ _ _ _ (show c ≠ tb from fun e => by subst e; unfold Blk at hb; rw [hb] at ho; injection ho with ho; exact h1 _ _ ho.symm)]; exact ho
theorem new_cells3 (w : World) (k : List By) (c : Int) (t : Bool) : ∀ j u, [vs k, Value.int .i64 c, .bool t][j]? = some u → (w.alloc (.cells #[vs k, .int .i64 c, .bool t] 76)).cell? ((⟨w.heap.size, 0, none⟩ : Addr).add j) = some u := fun j u hj => by
  rw [Addr.add_mid, Nat.zero_add, (Blk.new w 76 #[vs k, .int .i64 c, .bool t]).cell]; exact hj
theorem grown_set (w : World) (b i : Nat) (v : Value) : w.grownBy (w.setCell ⟨b, i, none⟩ v) (some b) :=
  ⟨rfl, rfl, rfl, by simp, fun k _ hk => Below.heap_setCell _ _ _ k (fun e => hk (by rw [e]))⟩
theorem row_form {w : World} {base e s n : Nat} {v : Value} {xs : List Value} (h : w.ownsRow base e s v (n + 1) xs) : ∃ g cap, v = .slice (some ⟨g, 0, none⟩) (n + 1) cap := by
  rcases h.2 with ⟨_, h0⟩ | ⟨g, cap, cur, rfl, -⟩
  · omega
  · exact ⟨g, cap, rfl⟩
theorem note_after {base : Nat} {w w1 : World} {tb mb : Nat} {jv : Value} {D : DU} {J : List Fo} {n : Nat} {o : Obj} (h : TabAt base w tb mb jv D J n) (hg : (w.alloc o).grownBy w1 jv.ownBlock) :
    Blk w1 tb 65 [.map (some mb), jv] ∧ w1.ownsMap Try.prog 9 (plainElem (H := Unit) Try.prog 3) mb n D ∧ Step base w w1 := by
  have T1 := h.alloc o
  have hne1 : jv.ownBlock ≠ some tb := own_ne76 (by decide) h.blk h.row
  have hne2 := own_ne_map h.map h.row
  refine ⟨?_, T1.map.kept hg (fun e => hne2 e.symm), (Step.of_below ((Below.refl _ _).alloc (Nat.le_refl _) _) h.base_le).trans (Step.of_grown hg T1.base_le (fun r hr => ⟨(row_blk h.row r hr).1, .inr (.inl (row_blk T1.row r hr).2)⟩))⟩
  unfold Blk; rw [hg.block tb T1.blk.lt (fun e => hne1 e.symm)]; exact T1.blk
set_option maxHeartbeats 2000000 in
set_option maxRecDepth 100000 in
theorem note_any {base : Nat} {w : World} {tb mb : Nat} {jv : Value} {D : DU} {J : List Fo} {n : Nat} (h : TabAt base w tb mb jv D J n) (k : List By) (hk : k.length ≤ maxLen) (hJ : J.length ≤ 1000) :
    Calls Try.prog 34 #[.pointer (some ⟨tb, 0, none⟩), vs k] w fun e w' => ∃ jv', e = .returned (.tuple #[]) ∧ TabAt base w' tb mb jv' D (J ++ [⟨k, numD D k, hasD D k, hk, numD_wf D k⟩]) n ∧ Step base w w' := by
  have c0 : w.cell? ⟨tb, 0, none⟩ = some (.map (some mb)) := h.blk.cell 0
  have c1 : w.cell? ⟨tb, 1, none⟩ = some jv := h.blk.cell 1
  have f1 : w.frozen? ⟨tb, 1, none⟩ = false := h.blk.frozen 1
  have H := Lib.hid h; have HK := Lib.hid (keyOf9 hk); have HKL := Lib.hid hk
  clear h
  obtain ⟨i0, hi, hz0, hz1, hz2⟩ := info_parts info76
  go_enter Try.func34, Try.ntmps34
  go_wp2_with (first
    | (at_lookup; refine wpList_lookup_own_ok_int _ rfl _ _ 62 rfl 9 3 .i64 key9 Try.underlying62 Try.underlying3 (Try.zeroValue3 _) mb n D rfl H.out.map _ _ rfl HK.out ?_; intro c hat hwc; have HAT := Lib.hid hat; have HWC := Lib.hid hwc; clear hat hwc)
    | (at_builtin; refine wpList_append_own_at _ rfl (.tmp 19) (.tmp 24) 63 rfl base 76 i0 (.agg #[.string ⟨#[]⟩, .int .i64 0, .bool false]) 3 32 Try.underlying63 hi hz0 hz1 hz2 rfl (by decide) jv J.length (cellsF J) rfl (H.out.row.alloc _) ⟨w.heap.size, 0, none⟩ 1 1 [vs k, .int .i64 c, .bool (Maps.has D (kl k))] rfl rfl (new_cells3 w k c (Maps.has D (kl k))) (by simp [Value.oneCell']) (by unfold maxLen; omega) (by omega) (by have := H.out.base_le; simp; omega) ?_; intro v' w1 hown' hg _ hloc; obtain ⟨hb1, hm1, hs1⟩ := note_after H.out hg; have HB1 := Lib.hid hb1; have HM1 := Lib.hid hm1; have HS1 := Lib.hid hs1; have HO := Lib.hid hown'; obtain ⟨g, cap, rfl⟩ := row_form hown'; have kf : w1.frozen? ⟨tb, 1, none⟩ = false := hb1.frozen 1; have k1 : w1.cell? ⟨tb, 1, none⟩ = some jv := hb1.cell 1; clear hb1 hm1 hs1 hown' hg hloc c0 c1 f1))
  go_end0
  have hc : numD D k = c := numD_is HAT.out HWC.out
  subst hc
  have h := H.out
  refine ⟨_, rfl, ⟨by have := HB1.out.set 1 (.slice (some ⟨g, 0, none⟩) (J.length + 1) cap); simpa using this, h.tbase, h.mbase, HM1.out.setCell (blk_ne_map HM1.out HB1.out) _, ?_⟩, HS1.out.trans (step_store HB1.out h.tbase 1 _)⟩
  · rw [List.length_append, cellsF_snoc]
    exact HO.out.kept (grown_set w1 tb 1 _) (.inr (own_ne76 (by decide) HB1.out HO.out))
theorem TabAt.of_map {base : Nat} {w w' : World} {tb mb : Nat} {jv : Value} {D D' : DU} {J : List Fo} {n n' : Nat} (h : TabAt base w tb mb jv D J n) (hm : w'.ownsMap Try.prog 9 (plainElem (H := Unit) Try.prog 3) mb n' D') (hg : w.grownBy w' (some mb)) : TabAt base w' tb mb jv D' J n' ∧ Step base w w' := by
  have hne := blk_ne_map h.map h.blk
  refine ⟨⟨?_, h.tbase, h.mbase, hm, h.row.kept hg (.inr (own_ne_map h.map h.row))⟩, Step.of_grown hg h.base_le (fun r hr => by injection hr with hr; subst hr; exact ⟨h.mbase, .inr (.inr (map_blk h.map))⟩)⟩
  unfold Blk; rw [hg.block tb h.blk.lt (fun e => by injection e with e; exact hne e.symm)]; exact h.blk
set_option maxHeartbeats 2000000 in
set_option maxRecDepth 100000 in
theorem set_any {base : Nat} {w : World} {tb : Nat} {D : DU} {J : List Fo} {n : Nat} (h : Tab base w tb D J n) (k : List By) (hk : k.length ≤ maxLen) (v : Int) (hv : (Lit.int .i64 v).wf = true) (hJ : J.length ≤ 1000) (hn : n ≤ 500000) :
    Calls Try.prog 12 #[.pointer (some ⟨tb, 0, none⟩), vs k, .int .i64 v] w fun e w' => e = .returned (.tuple #[]) ∧ Tab base w' tb (D.put (kl k) (.lit (.int .i64 v))) (J ++ [⟨k, numD D k, hasD D k, hk, numD_wf D k⟩]) (n + 1) ∧ Step base w w' := by
  obtain ⟨mb, jv, h⟩ := h
  have HN := Lib.hid (note_any h k hk hJ); have HK := Lib.hid (keyOf9 hk); have HV := Lib.hid hv
  clear h hv
  go_enter Try.func12, Try.ntmps12
  go_wp2_with fail
  refine HN.out.mono ?_
  rintro e w1 ⟨jv', rfl, h1, hs1⟩
  have c0 : w1.cell? ⟨tb, 0, none⟩ = some (.map (some mb)) := h1.blk.cell 0
  have H1 := Lib.hid h1; have HS1 := Lib.hid hs1
  clear h1 hs1 HN
  go_wp2_with (first | (at_mapUpdate; refine wpList_mapUpdate_own _ rfl _ _ _ 62 rfl 9 3 key9 Try.underlying62 (plainElem (H := Unit) Try.prog 3) mb n D rfl H1.out.map (by unfold maxLen; omega) _ _ _ rfl rfl HK.out _ [] (plainElem_int Try.underlying3 HV.out) ?_; intro w2 hown2 hg2))
  go_end0
  obtain ⟨h2, hs2⟩ := H1.out.of_map hown2 hg2
  exact ⟨rfl, ⟨mb, jv', h2⟩, HS1.out.trans hs2⟩
def dropJ (D : DU) (J : List Fo) (k : List By) (hk : k.length ≤ maxLen) : List Fo := if hasD D k then J ++ [⟨k, numD D k, hasD D k, hk, numD_wf D k⟩] else J
set_option maxHeartbeats 2000000 in
set_option maxRecDepth 100000 in
theorem drop_any {base : Nat} {w : World} {tb : Nat} {D : DU} {J : List Fo} {n : Nat} (h : Tab base w tb D J n) (k : List By) (hk : k.length ≤ maxLen) (hJ : J.length ≤ 1000) :
    Calls Try.prog 15 #[.pointer (some ⟨tb, 0, none⟩), vs k] w fun e w' => e = .returned (.bool (hasD D k)) ∧ Tab base w' tb (D.del (kl k)) (dropJ D J k hk) n ∧ Step base w w' := by
  have HT := Lib.hid h
  have HG := Lib.hid (get_any h k hk)
  obtain ⟨mb, jv, h⟩ := h
  have HN := Lib.hid (note_any h k hk hJ); have HK := Lib.hid (keyOf9 hk)
  unfold dropJ
  clear h
  cases hh : hasD D k with
  | false =>
    have HD : Hid (D.del (kl k) = D) := del_of_not_has hh
    have HG2 := HG
    rw [hh] at HG2
    clear hh HN HG
    go_enter Try.func15, Try.ntmps15
    go_wp2_with fail
    refine HG2.out.mono ?_
    rintro e w1 ⟨rfl, rfl⟩
    go_wp2_with fail
    go_ret
    exact ⟨rfl, by rw [HD.out]; exact HT.out, Step.refl _ _⟩
  | true =>
    rw [hh] at HN
    have HG2 := HG
    rw [hh] at HG2
    clear hh HG
    go_enter Try.func15, Try.ntmps15
    go_wp2_with fail
    refine HG2.out.mono ?_
    rintro e w1 ⟨rfl, rfl⟩
    go_wp2_with fail
    refine HN.out.mono ?_
    rintro e w1 ⟨jv', rfl, h1, hs1⟩
    have c0 : w1.cell? ⟨tb, 0, none⟩ = some (.map (some mb)) := h1.blk.cell 0
    have H1 := Lib.hid h1; have HS1 := Lib.hid hs1
    clear h1 hs1 HN HG2
    go_wp2_with (first | (at_delete; refine wpList_delete_own _ rfl _ _ 62 9 rfl 3 key9 Try.underlying62 (plainElem (H := Unit) Try.prog 3) mb n D rfl H1.out.map _ _ rfl HK.out ?_; intro w2 hown2 hturn2))
    go_ret
    obtain ⟨h2, hs2⟩ := H1.out.of_map hown2 hturn2.grown
    exact ⟨rfl, ⟨mb, jv', h2⟩, HS1.out.trans hs2⟩
end Go.Proofs.Ytkmjknehbaofcaa
