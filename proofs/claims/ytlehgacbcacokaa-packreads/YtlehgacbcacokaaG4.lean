/- The contracts of the reference's All, Depth and Size. -/
import Derived.Test.YtlehgacbcacokaaG3
import Derived.Laws.Externs
import Derived.Laws.Runes
namespace Go.Proofs.Ytlehgacbcacokaa
open Go.RowKit TreeMath RealMath

theorem info27 : (Try.prog.info? 27).map (fun i => (i.zero, i.size, i.bytes)) = some (some (nv zero 0), 7, 112) := by kernel_rfl
/-- a row of nodes of the call's own -/
def Nodes (w : World) (base : Nat) (v : Value) (ts : List T) : Prop := w.ownsRow base 27 7 v ts.length (ts.flatMap cellsT)
theorem cellsT_length (t : T) : (cellsT t).length = 7 := by cases t; rfl
theorem flat_length : ∀ ts : List T, (ts.flatMap cellsT).length = ts.length * 7
  | [] => rfl
  | t :: l => by rw [List.flatMap_cons, List.length_append, flat_length l, cellsT_length]; simp; omega
theorem cellsT_one (t : T) : ∀ u ∈ cellsT t, u.oneCell' = true := by
  cases t with
  | mk x ks => intro u hu; simp [cellsT, cellsOf] at hu; rcases hu with h | h | h | h | h | h | h <;> subst h <;> rfl
theorem flat_one (ts : List T) : ∀ u ∈ ts.flatMap cellsT, u.oneCell' = true := by
  intro u hu
  obtain ⟨t, _, h⟩ := List.mem_flatMap.1 hu
  exact cellsT_one t u h
theorem flat_get : ∀ (ts : List T) (i : Nat) (h : i < ts.length) (j : Nat) (_ : j < 7), (ts.flatMap cellsT)[i * 7 + j]? = (cellsT ts[i])[j]?
  | t :: l, 0, _, j, hj => by rw [List.flatMap_cons, List.getElem?_append_left (by rw [cellsT_length]; omega)]; simp
  | t :: l, i + 1, h, j, hj => by
    rw [List.flatMap_cons, List.getElem?_append_right (by rw [cellsT_length]; omega), cellsT_length, show (i + 1) * 7 + j - 7 = i * 7 + j by omega, flat_get l i (by simpa using h) j hj]; rfl
theorem Nodes.at {w : World} {base : Nat} {v : Value} {ts : List T} (h : Nodes w base v ts) (h0 : 0 < ts.length) :
    ∃ g c, v = .slice (some ⟨g, 0, none⟩) ts.length c ∧ base ≤ g ∧ g < w.heap.size ∧ ts.length ≤ c ∧ (∀ i (hi : i < ts.length), CellsAt w g (i * 7) (cellsT ts[i])) ∧ ∀ j u, (ts.flatMap cellsT)[j]? = some u → w.cell? ((⟨g, 0, none⟩ : Addr).add j) = some u := by
  have hc := fun g => h.cells (g := g)
  have hlt := h.lt
  rcases h.2 with ⟨_, h2⟩ | ⟨g, cap, cur, hv, hg, hcur, hn, _, hs, ht⟩
  · omega
  · subst hv
    refine ⟨g, cap, rfl, hg, (hlt g rfl).2, hn, fun i hi j u hj => ?_, hc g rfl⟩
    have hj7 : j < 7 := by have := (List.getElem?_eq_some_iff.1 hj).1; rw [cellsT_length] at this; exact this
    have := hc g rfl (i * 7 + j) u (by rw [flat_get ts i hi j hj7]; exact hj)
    simpa [Addr.add_mid] using this
/-- NODES APPENDED TO A ROW OF THE CALL's OWN -/
theorem wpList_append_nodes {w : World} {ops : Array Oper} {rest : List Oper} {o : Oper} {a : Act} {Q : Exit → Act → World → Prop} (hgd : o.guard = none) (s x : Operand)
    (ho : o.op = .call { callee := .builtin .append, args := #[s, x], argTypes := #[23, 23] }) (base : Nat)
    (v : Value) (ts : List T) (hs : a.eval s = v) (hown : Nodes w base v ts)
    (ad : Addr) (c m : Nat) (ls : List T) (hm : ls.length = m) (hx : a.eval x = .slice (some ad) m c) (hA : ∀ j u, (ls.flatMap cellsT)[j]? = some u → w.cell? (ad.add j) = some u) (hbd : ts.length + m ≤ 1000000) (hbase : base ≤ w.heap.size)
    (h : ∀ v' w', Nodes w' base v' (ts ++ ls) → w.grownBy w' v.ownBlock → wpList Try.prog ops Q rest (a.put o.dst v') w') : wpList Try.prog ops Q (o :: rest) a w := by
  obtain ⟨i0, hi, hz0, hz1, hz2⟩ := info_parts info27
  subst hm
  refine wpList_append_own w hgd s x 23 ho base 27 i0 (nv zero 0) 7 112 Try.underlying23 hi hz0 hz1 hz2 rfl (by decide) v ts.length (ts.flatMap cellsT) hs hown ad ls.length c (ls.flatMap cellsT) hx (flat_length ls) hA (flat_one ls) (by unfold maxLen; omega) (by omega) hbase ?_
  intro v' w' h1 h2 _
  refine h v' w' ?_ h2
  unfold Nodes; rw [List.length_append, List.flatMap_append]; exact h1
def AllOf (top : Nat) (t : T) : Prop := ∀ (w : World), top ≤ w.heap.size → Ok w top t → count t ≤ 90000 → Calls Try.prog 19 #[val t] w fun e w' => ∃ v, e = .returned v ∧ Nodes w' w.heap.size v (all t) ∧ Below w.heap.size w w'
theorem all_count_le {ks : List T} {x : Hd} (i : Nat) (h : i < ks.length) : 1 + (allL (ks.take i)).length + count ks[i] ≤ count (.mk x ks) := by
  have e : allL ks = allL (ks.take (i + 1)) ++ allL (ks.drop (i + 1)) := by rw [← allL_append, List.take_append_drop]
  rw [count_mk, e, allL_take ks i h]; unfold count; simp; omega
set_option maxHeartbeats 4000000 in
theorem all_of (top : Nat) : ∀ t, AllOf top t := by
  refine T.ind fun x ks IH => ?_
  intro w htop hok hn
  show Calls Try.prog 19 #[nv x ks.length] w _
  have hlen := hok.len
  unfold maxLen at hlen
  have HIH := Lib.hid IH; have HOK := Lib.hid hok; have HN := Lib.hid hn
  have HALL : Hid (all (.mk x ks) = .mk x ks :: allL ks) := by show _ = _; rw [all]
  clear IH hok hn
  have HB : Hid (∀ box, Below w.heap.size w (w.alloc box)) := fun box => (Below.refl _ _).alloc (Nat.le_refl _) _
  go_enter Try.func19, Try.ntmps19
  go_wp2_with fail
  have hbox := Blk.new w 27 #[vb x.kind, .slice x.na x.names.length x.nc, .slice x.ka ks.length x.kc, .slice x.da x.data.length x.dc, .bool x.run, .float .f64 x.stamp, vs x.target]
  have hB1 : Below w.heap.size w (w.alloc (.cells #[vb x.kind, .slice x.na x.names.length x.nc, .slice x.ka ks.length x.kc, .slice x.da x.data.length x.dc, .bool x.run, .float .f64 x.stamp, vs x.target] 27)) := HB.out _
  have hs1 : (w.alloc (.cells #[vb x.kind, .slice x.na x.names.length x.nc, .slice x.ka ks.length x.kc, .slice x.da x.data.length x.dc, .bool x.run, .float .f64 x.stamp, vs x.target] 27)).heap.size = w.heap.size + 1 := by simp
  generalize w.alloc (.cells #[vb x.kind, .slice x.na x.names.length x.nc, .slice x.ka ks.length x.kc, .slice x.da x.data.length x.dc, .bool x.run, .float .f64 x.stamp, vs x.target] 27) = W1 at *
  have HBOX := Lib.hid hbox; have HB1 := Lib.hid hB1
  clear hbox hB1 HB
  have h00 : Nodes (W1.alloc (.cells #[vb x.kind, .slice x.na x.names.length x.nc, .slice x.ka ks.length x.kc, .slice x.da x.data.length x.dc, .bool x.run, .float .f64 x.stamp, vs x.target] 27)) (w.heap.size + 1) (.slice (some ⟨w.heap.size + 1, 0, none⟩) 1 1) [.mk x ks] := by
    have := World.ownsRow_lit (base := w.heap.size + 1) (e := 27) (size := 7) W1 #[vb x.kind, .slice x.na x.names.length x.nc, .slice x.ka ks.length x.kc, .slice x.da x.data.length x.dc, .bool x.run, .float .f64 x.stamp, vs x.target] 1 (by omega) (by unfold maxLen; omega) rfl
    rw [hs1] at this
    exact this
  have H00 := Lib.hid h00
  clear h00
  go_loopw [3, 4] (fun vl vi wr => ∃ i : Nat, i ≤ ks.length ∧ vi = .int .i64 i ∧ Hid (Nodes wr (w.heap.size + 1) vl (.mk x ks :: allL (ks.take i)) ∧ Below (w.heap.size + 1) W1 wr)) (fun _ vi _ => ks.length - (intOf vi).toNat)
  case atStart => exact ⟨0, Nat.zero_le _, rfl, by simpa [allL] using H00.out, (Below.refl _ _).alloc (by omega) _⟩
  case round =>
    obtain ⟨i, hi, rfl, HP⟩ := hrel
    rename World => W0
    clear H00
    have hb2 := (HBOX.out.below HP.out.2 (by omega)).cell 2
    simp only [List.getElem?_cons_zero, List.getElem?_cons_succ] at hb2
    by_cases hlt : i < ks.length
    · obtain ⟨hN, hBe⟩ := HP.out
      have hbt : Below top w W0 := (HB1.out.mono htop).trans (hBe.mono (by omega))
      obtain ⟨a, oa, y, ly, hAe, hat, hy, hca⟩ := HOK.out.at.cells i hlt
      have hc := hca.same (hbt.block a hat)
      obtain ⟨a0, a1, a2, a3, a4, a5, a6⟩ := hc.seven
      have hle := all_count_le (x := x) i hlt
      have hsz : w.heap.size + 1 ≤ W0.heap.size := by have := hBe.size; omega
      have HC : Hid (Calls Try.prog 19 #[nv y ly.length] W0 fun e w' => ∃ v, e = .returned v ∧ Nodes w' W0.heap.size v (all ks[i]) ∧ Below W0.heap.size W0 w') := by
        have := HIH.out ks[i] (List.getElem_mem _) W0 (by omega) ((HOK.out.kid (List.getElem_mem hlt)).keep hbt) (by have := HN.out; omega)
        rw [hy] at this ⊢; exact this
      have HNN := Lib.hid hN; have HBE := Lib.hid hBe
      have HLE : Hid (1 + (allL (ks.take i)).length + count ks[i] ≤ 90000) := Nat.le_trans hle HN.out
      clear hN hBe hbt hc hca hle HP hat
      rw [hAe] at hb2
      clear hAe
      have HTK : Hid (T.mk x ks :: allL (ks.take i) ++ all ks[i] = T.mk x ks :: allL (ks.take (i + 1))) := by show _ = _; rw [allL_take ks i hlt]; rfl
      generalize hk : ks[i] = k at *
      clear hk hy
      go_wp2_with fail
      refine HC.out.mono ?_
      rintro e w2 ⟨v2, rfl, hn2, hb2'⟩
      have hcnt : 0 < (all k).length := count_pos k
      obtain ⟨g2, c2, rfl, hg2, hg2', hc2, -, hcells⟩ := hn2.at hcnt
      have HN2 : Hid (Nodes w2 (w.heap.size + 1) u3 (T.mk x ks :: allL (ks.take i))) :=
        HNN.out.kept (row := none) ⟨hb2'.os, hb2'.tape, hb2'.output, hb2'.size, fun k hk _ => hb2'.block k hk⟩ (by cases u3.ownBlock <;> simp)
      have HBE2 : Hid (Below (w.heap.size + 1) W1 w2) := HBE.out.trans (hb2'.mono hsz)
      have HCE := Lib.hid hcells
      have hsz2 : w.heap.size + 1 ≤ w2.heap.size := by have := hb2'.size; omega
      clear hcells hn2 hb2' HC HNN HBE hg2 hg2' hc2
      go_wp2_with (refine wpList_append_nodes rfl (.tmp 14) (.tmp 20) rfl (w.heap.size + 1) u3 (T.mk x ks :: allL (ks.take i)) rfl HN2.out ⟨g2, 0, none⟩ c2 (all k).length (all k) rfl rfl HCE.out (by have := HLE.out; unfold count at this; simp; omega) hsz2 ?_)
      intro v3 w3 hn3 hg3
      have HN3 : Hid (Nodes w3 (w.heap.size + 1) v3 (T.mk x ks :: allL (ks.take (i + 1)))) := by rw [← HTK.out]; exact hn3
      have HBE3 : Hid (Below (w.heap.size + 1) W1 w3) := HBE2.out.grown hg3 hsz2 (fun k hk => (HN2.out.lt k hk).1)
      clear hn3 hg3 HN2 HBE2 HCE
      go_wp2_with fail
      go_roundw
      case rel => exact ⟨i + 1, by omega, by go_num, HN3.out, HBE3.out⟩
      case measure => simp [intOf]; omega
    · obtain rfl : i = ks.length := by omega
      obtain ⟨hN, hBe⟩ := HP.out
      have HNN : Hid (Nodes W0 w.heap.size u3 (all (.mk x ks))) := by
        rw [HALL.out]
        rw [List.take_length] at hN
        refine ⟨hN.1, hN.2.imp id ?_⟩
        rintro ⟨g, cap, cur, h1, h2, h3⟩
        exact ⟨g, cap, cur, h1, by omega, h3⟩
      have HBE : Hid (Below w.heap.size w W0) := HB1.out.trans (hBe.mono (by omega))
      clear hN hBe HP
      go_wp2_with fail
      go_ret
      exact ⟨_, rfl, HNN.out, HBE.out⟩
def DepthOf (top : Nat) (t : T) : Prop := ∀ (w : World), top ≤ w.heap.size → Ok w top t → count t ≤ 90000 → Calls Try.prog 21 #[val t] w fun e w' => e = .returned (.int .i64 (depth t : Nat)) ∧ Below w.heap.size w w'
set_option maxHeartbeats 4000000 in
theorem rdepth_of (top : Nat) : ∀ t, DepthOf top t := by
  refine T.ind fun x ks IH => ?_
  intro w htop hok hn
  show Calls Try.prog 21 #[nv x ks.length] w _
  have hlen := hok.len
  unfold maxLen at hlen
  have HIH := Lib.hid IH; have HOK := Lib.hid hok; have HN := Lib.hid hn
  have HD : Hid (depth (.mk x ks) = depthL ks + 1) := by show _ = _; rw [depth]
  have hdep : depthL ks ≤ 90000 := by have := depth_count (.mk x ks); rw [depth] at this; omega
  clear IH hok hn
  have HB : Hid (∀ box, Below w.heap.size w (w.alloc box)) := fun box => (Below.refl _ _).alloc (Nat.le_refl _) _
  go_enter Try.func21, Try.ntmps21
  go_wp2_with fail
  have hbox := Blk.new w 27 #[vb x.kind, .slice x.na x.names.length x.nc, .slice x.ka ks.length x.kc, .slice x.da x.data.length x.dc, .bool x.run, .float .f64 x.stamp, vs x.target]
  have hB1 : Below w.heap.size w (w.alloc (.cells #[vb x.kind, .slice x.na x.names.length x.nc, .slice x.ka ks.length x.kc, .slice x.da x.data.length x.dc, .bool x.run, .float .f64 x.stamp, vs x.target] 27)) := HB.out _
  have hs1 : (w.alloc (.cells #[vb x.kind, .slice x.na x.names.length x.nc, .slice x.ka ks.length x.kc, .slice x.da x.data.length x.dc, .bool x.run, .float .f64 x.stamp, vs x.target] 27)).heap.size = w.heap.size + 1 := by simp
  generalize w.alloc (.cells #[vb x.kind, .slice x.na x.names.length x.nc, .slice x.ka ks.length x.kc, .slice x.da x.data.length x.dc, .bool x.run, .float .f64 x.stamp, vs x.target] 27) = W1 at *
  have HBOX := Lib.hid hbox; have HB1 := Lib.hid hB1
  clear hbox hB1 HB
  go_loopw [3, 4] (fun vl vi wr => ∃ i d : Nat, i ≤ ks.length ∧ vi = .int .i64 i ∧ d ≤ 90000 ∧ vl = .int .i64 d ∧ Hid (d = depthL (ks.take i)) ∧ Hid (Below (w.heap.size + 1) W1 wr)) (fun _ vi _ => ks.length - (intOf vi).toNat)
  case atStart => exact ⟨0, 0, Nat.zero_le _, rfl, by omega, rfl, Lib.hid (by simp [depthL]), Below.refl _ _⟩
  case round =>
    obtain ⟨i, d, hi, rfl, hd9, rfl, HD0, HP⟩ := hrel
    rename World => W0
    have hb2 := (HBOX.out.below HP.out (by omega)).cell 2
    simp only [List.getElem?_cons_zero, List.getElem?_cons_succ] at hb2
    by_cases hlt : i < ks.length
    · have hBe := HP.out
      have hbt : Below top w W0 := (HB1.out.mono htop).trans (hBe.mono (by omega))
      obtain ⟨a, oa, y, ly, hAe, hat, hy, hca⟩ := HOK.out.at.cells i hlt
      have hc := hca.same (hbt.block a hat)
      obtain ⟨a0, a1, a2, a3, a4, a5, a6⟩ := hc.seven
      have hle := all_count_le (x := x) i hlt
      have hsz : w.heap.size + 1 ≤ W0.heap.size := by have := hBe.size; omega
      have HC : Hid (Calls Try.prog 21 #[nv y ly.length] W0 fun e w' => e = .returned (.int .i64 (depth ks[i] : Nat)) ∧ Below W0.heap.size W0 w') := by
        have := HIH.out ks[i] (List.getElem_mem _) W0 (by omega) ((HOK.out.kid (List.getElem_mem hlt)).keep hbt) (by have := HN.out; omega)
        rw [hy] at this ⊢; exact this
      have HBE := Lib.hid hBe
      have hdk : depth ks[i] ≤ 90000 := Nat.le_trans (depth_mem (List.getElem_mem hlt)) hdep
      clear hBe hbt hc hca hle HP hat
      rw [hAe] at hb2
      clear hAe
      have HTK : Hid (depthL (ks.take (i + 1)) = max d (depth ks[i])) := by show _ = _; rw [depth_take ks i hlt, HD0.out]
      clear HD0
      generalize hk : depth ks[i] = dk at *
      clear hk hy
      go_wp2_with fail
      refine HC.out.mono ?_
      rintro e w2 ⟨rfl, hb2'⟩
      have HBE2 : Hid (Below (w.heap.size + 1) W1 w2) := HBE.out.trans (hb2'.mono hsz)
      clear hb2' HC HBE
      by_cases hdd : d < dk
      · have hdd' : (d : Int) < dk := by omega
        have HM : Hid (dk = depthL (ks.take (i + 1))) := by show _ = _; rw [HTK.out]; omega
        go_wp2_with fail
        go_roundw
        case rel => exact ⟨i + 1, dk, by omega, by go_num, by omega, rfl, HM.out, HBE2.out⟩
        case measure => simp [intOf]; omega
      · have hdd' : ¬ (d : Int) < dk := by omega
        have HM : Hid (d = depthL (ks.take (i + 1))) := by show _ = _; rw [HTK.out]; omega
        go_wp2_with fail
        go_roundw
        case rel => exact ⟨i + 1, d, by omega, by go_num, by omega, rfl, HM.out, HBE2.out⟩
        case measure => simp [intOf]; omega
    · obtain rfl : i = ks.length := by omega
      have HBE : Hid (Below w.heap.size w W0) := HB1.out.trans (HP.out.mono (by omega))
      rw [List.take_length] at HD0
      clear HP
      go_wp2_with fail
      go_ret
      exact ⟨ret_int (by rw [HD.out, ← HD0.out]; omega), HBE.out⟩
end Go.Proofs.Ytlehgacbcacokaa

/- The contracts of strings.IndexByte, rightName and rightNames. -/
namespace Go.Proofs.Ytlehgacbcacokaa
open Go.RowKit TreeMath RealMath

theorem run_index (s : ByteArray) (c : Int) (w : World) : (callFunc 119 #[.string s, .int .u8 c]).run Try.prog w = .ok (.value (.int .i64 (firstIdx s c.toNat.toUInt8))) w := by
  rw [run_callFunc_extern Try.func119 (by kernel_rfl) (by kernel_rfl) (by kernel_rfl) (e := Extern.BytealgIndexByte.indexByte) (by kernel_rfl), run_indexByte_string]
  rfl
attribute [go_sem] run_index
theorem inner_any (s : ByteArray) (c : By) (w : World) :
    Calls Try.prog 115 #[.string s, vb c] w fun e w' => e = .returned (.int .i64 (firstIdx s c)) ∧ w = w' := by
  go_enter Try.func115, Try.ntmps115
  go_wp2
  go_ret
  refine ⟨ret_int ?_, rfl⟩
  simp
theorem index_any (s : ByteArray) (c : By) (w : World) :
    Calls Try.prog 114 #[.string s, vb c] w fun e w' => e = .returned (.int .i64 (firstIdx s c)) ∧ w = w' := by
  go_enter Try.func114, Try.ntmps114
  go_wp2_with fail
  refine (inner_any s c w).mono ?_
  rintro e w1 ⟨rfl, rfl⟩
  go_wp2
  go_ret
  exact ⟨rfl, rfl⟩
theorem firstIdx_neg (s : List By) (c : By) : decide (firstIdx ⟨s.toArray⟩ c < 0) = !(s.any (· == c)) := by
  have h := firstIdx_nonneg ⟨s.toArray⟩ c
  simp only at h
  rw [← h]
  by_cases e : firstIdx ⟨s.toArray⟩ c < 0
  · rw [decide_eq_true e, decide_eq_false (by omega)]; rfl
  · rw [decide_eq_false e, decide_eq_true (by omega)]; rfl
set_option maxHeartbeats 2000000 in
theorem rname_any (s : List By) (w : World) : Calls Try.prog 106 #[vs s] w fun e w' => e = .returned (.bool (nameOk s)) ∧ w = w' := by
  by_cases h1 : 1 ≤ s.length
  · by_cases h2 : s.length ≤ 40
    · have HE : Hid (nameOk s = (!(s.any (· == 0)) && !(s.any (· == 47)) && !(s == [46]) && !(s == [46, 46]))) := by
        show _ = _; unfold nameOk; rw [decide_eq_true h1, decide_eq_true h2]; rfl
      have h1' : (1 : Int) ≤ s.length := by omega
      have h2' : (s.length : Int) ≤ 40 := by omega
      go_enter Try.func106, Try.ntmps106
      go_wp2_with fail
      refine (index_any ⟨s.toArray⟩ 0 w).mono ?_
      rintro e w1 ⟨rfl, rfl⟩
      have i0 := firstIdx_neg s 0
      generalize firstIdx ⟨s.toArray⟩ 0 = n0 at *
      rw [← i0] at HE
      clear i0
      by_cases h3 : n0 < 0
      · rw [decide_eq_true h3] at HE
        go_wp2_with fail
        refine (index_any ⟨s.toArray⟩ 47 w).mono ?_
        rintro e w1 ⟨rfl, rfl⟩
        have i1 := firstIdx_neg s 47
        generalize firstIdx ⟨s.toArray⟩ 47 = n1 at *
        rw [← i1] at HE
        clear i1
        by_cases h4 : n1 < 0
        · rw [decide_eq_true h4] at HE
          by_cases h5 : (s == [46]) = true
          · rw [h5] at HE
            go_wp2_with fail
            go_ret
            exact ⟨by rw [HE.out]; rfl, rfl⟩
          · have h5' : (s == [46]) = false := by simpa using h5
            rw [h5'] at HE
            clear h5
            by_cases h6 : (s == [46, 46]) = true
            · rw [h6] at HE
              go_wp2_with fail
              go_ret
              exact ⟨by rw [HE.out]; rfl, rfl⟩
            · have h6' : (s == [46, 46]) = false := by simpa using h6
              rw [h6'] at HE
              clear h6
              go_wp2_with fail
              go_ret
              exact ⟨by rw [HE.out]; rfl, rfl⟩
        · rw [decide_eq_false h4] at HE
          go_wp2_with fail
          go_ret
          exact ⟨by rw [HE.out]; rfl, rfl⟩
      · rw [decide_eq_false h3] at HE
        go_wp2_with fail
        go_ret
        exact ⟨by rw [HE.out]; rfl, rfl⟩
    · have HE : Hid (nameOk s = false) := by show _ = _; unfold nameOk; rw [decide_eq_false h2]; simp
      have h1' : (1 : Int) ≤ s.length := by omega
      have h2' : ¬ (s.length : Int) ≤ 40 := by omega
      go_enter Try.func106, Try.ntmps106
      go_wp2_with fail
      go_ret
      exact ⟨by rw [HE.out]; rfl, rfl⟩
  · have HE : Hid (nameOk s = false) := by show _ = _; unfold nameOk; rw [decide_eq_false h1]; simp
    have h1' : ¬ (1 : Int) ≤ s.length := by omega
    go_enter Try.func106, Try.ntmps106
    go_wp2_with fail
    go_ret
    exact ⟨by rw [HE.out]; rfl, rfl⟩
set_option maxHeartbeats 2000000 in
theorem names_any (A : Option Addr) (c : Nat) (ls : List (List By)) (hl : ls.length ≤ maxLen) (w : World) (hA : StrsIs w A ls) :
    Calls Try.prog 80 #[.slice A ls.length c] w fun e w' => e = .returned (.bool (namesOk ls)) ∧ w = w' := by
  have HA := Lib.hid hA
  clear hA
  unfold maxLen at hl
  go_enter Try.func80, Try.ntmps80
  go_wp2_with fail
  go_loop [7] (fun vi => ∃ k : Nat, k ≤ ls.length ∧ vi = .int .i64 k ∧ Hid (∀ j, j < k → goodAt ls j = true)) (fun vi => ls.length - (intOf vi).toNat)
  case atStart => exact ⟨0, Nat.zero_le _, rfl, fun j h => by omega⟩
  case round =>
    obtain ⟨k, hk, rfl, HP⟩ := hrel
    by_cases hlt : k < ls.length
    · obtain ⟨a, oa, rfl, ha⟩ := HA.out (by omega)
      have c1 : w.cell? ⟨a, oa + k, none⟩ = some (vs (ls[k]'(by omega))) := ha k (by omega)
      have HNE : Hid (goodAt ls k = false → namesOk ls = false) := fun h => namesOk_false k hlt h
      have HEQ : Hid (goodAt ls k = true → ∀ j, j < k + 1 → goodAt ls j = true) := fun h j hj => by
        by_cases e : j = k
        · subst e; exact h
        · exact HP.out j (by omega)
      clear HP
      by_cases h0 : 0 < k
      · have c2 : w.cell? ⟨a, oa + (k - 1), none⟩ = some (vs (ls[k - 1]'(by omega))) := ha (k - 1) (by omega)
        rw [goodAt_pos ls k h0 hlt] at HNE HEQ
        have h0' : (0 : Int) < k := by omega
        generalize ls[k]'(by omega) = x at *
        generalize ls[k - 1]'(by omega) = y at *
        clear HA ha
        go_wp2_with fail
        refine (rname_any x w).mono ?_
        rintro e w1 ⟨rfl, rfl⟩
        generalize nameOk x = b at *
        cases b with
        | false =>
          have HF := Lib.hid (HNE.out rfl)
          clear HNE HEQ
          go_wp2_with fail
          go_ret
          exact ⟨by rw [HF.out]; rfl, rfl⟩
        | true =>
          cases hbl : Op.bytesLess y x with
          | false =>
            rw [hbl] at HNE HEQ
            have HF := Lib.hid (HNE.out rfl)
            clear HNE HEQ
            go_wp2_with fail
            go_ret
            exact ⟨by rw [HF.out]; rfl, rfl⟩
          | true =>
            rw [hbl] at HNE HEQ
            have HT := Lib.hid (HEQ.out rfl)
            clear HNE HEQ
            go_wp2_with fail
            go_round
            case rel => exact ⟨k + 1, by omega, by go_num, HT.out⟩
            case measure => simp [intOf]; omega
      · obtain rfl : k = 0 := by omega
        rw [Nat.add_zero] at c1
        rw [goodAt_zero ls hlt] at HNE HEQ
        generalize ls[0]'(by omega) = x at *
        clear HA ha
        go_wp2_with fail
        refine (rname_any x w).mono ?_
        rintro e w1 ⟨rfl, rfl⟩
        generalize nameOk x = b at *
        cases b with
        | false =>
          have HF := Lib.hid (HNE.out rfl)
          clear HNE HEQ
          go_wp2_with fail
          go_ret
          exact ⟨by rw [HF.out]; rfl, rfl⟩
        | true =>
          have HT := Lib.hid (HEQ.out rfl)
          clear HNE HEQ
          go_wp2_with fail
          go_round
          case rel => exact ⟨1, by omega, by go_num, HT.out⟩
          case measure => simp [intOf]; omega
    · have HT : Hid (namesOk ls = true) := namesOk_true (fun j hj => HP.out j (by omega))
      obtain rfl : k = ls.length := by omega
      clear HP
      go_wp2_with fail
      go_ret
      exact ⟨by rw [HT.out]; rfl, rfl⟩
end Go.Proofs.Ytlehgacbcacokaa

/- The contracts of the reference's Size and name. -/
namespace Go.Proofs.Ytlehgacbcacokaa
open Go.RowKit TreeMath RealMath

def sumN (ts : List T) (i : Nat) : Nat := ((ts.take i).map fun k => k.hd.data.length).sum
theorem sumN_succ (ts : List T) (i : Nat) (h : i < ts.length) : sumN ts (i + 1) = sumN ts i + ts[i].hd.data.length := by
  unfold sumN; rw [List.take_succ_eq_append_getElem h, List.map_append, List.sum_append]; simp
theorem sumN_all (ts : List T) : sumN ts ts.length = (ts.map fun k => k.hd.data.length).sum := by unfold sumN; rw [List.take_length]
theorem sumN_le (ts : List T) (i : Nat) : sumN ts i ≤ (ts.map fun k => k.hd.data.length).sum := by
  conv => rhs; rw [← List.take_append_drop i ts, List.map_append, List.sum_append]
  unfold sumN; omega
set_option maxHeartbeats 2000000 in
theorem rsize_any (x : Hd) (ks : List T) (top : Nat) (w : World) (htop : top ≤ w.heap.size) (hok : Ok w top (.mk x ks)) (hn : count (.mk x ks) ≤ 90000) (hz : size (.mk x ks) ≤ 1000000000) :
    Calls Try.prog 23 #[nv x ks.length] w fun e w' => e = .returned (.int .i64 (size (.mk x ks) : Nat)) ∧ Below w.heap.size w w' := by
  have HOK := Lib.hid hok
  have HN := Lib.hid hn
  have HZ : Hid (∀ i, sumN (all (.mk x ks)) i ≤ 1000000000) := fun i => Nat.le_trans (sumN_le _ i) hz
  have HZ' : Hid (sumN (all (.mk x ks)) (all (.mk x ks)).length = size (.mk x ks)) := by show _ = _; rw [sumN_all]; rfl
  have hcount : (all (.mk x ks)).length ≤ 90000 := hn
  have hpos : 0 < (all (.mk x ks)).length := count_pos (.mk x ks)
  clear hok hn hz
  go_enter Try.func23, Try.ntmps23
  go_wp2_with fail
  have hB : Below w.heap.size w (w.alloc (.cells #[vb x.kind, .slice x.na x.names.length x.nc, .slice x.ka ks.length x.kc, .slice x.da x.data.length x.dc, .bool x.run, .float .f64 x.stamp, vs x.target] 27)) := (Below.refl _ _).alloc (Nat.le_refl _) _
  refine (all_of top (.mk x ks) _ (Nat.le_trans htop hB.size) (HOK.out.keep (hB.mono htop)) HN.out).mono ?_
  rintro e w1 ⟨v, rfl, hnod, hb1⟩
  have HB1 : Hid (Below w.heap.size w w1) := hB.trans (hb1.mono hB.size)
  obtain ⟨g, c, rfl, -, -, hc, hcells, -⟩ := hnod.at hpos
  have HCE := Lib.hid hcells
  clear hB hb1 hnod hcells
  generalize all (.mk x ks) = ts at *
  go_wp2_with fail
  go_loop [3, 5] (fun vk vi => ∃ i k : Nat, i ≤ ts.length ∧ vi = .int .i64 i ∧ k ≤ 1000000000 ∧ vk = .int .i64 k ∧ Hid (k = sumN ts i)) (fun _ vi => ts.length - (intOf vi).toNat)
  case atStart => exact ⟨0, 0, Nat.zero_le _, rfl, by omega, rfl, Lib.hid (by simp [sumN])⟩
  case round =>
    obtain ⟨i, k, hi, rfl, hk9, rfl, HK⟩ := hrel
    by_cases hlt : i < ts.length
    · have hce := HCE.out i hlt
      have HS := Lib.hid (sumN_succ ts i hlt)
      have hle := HZ.out (i + 1)
      rw [HS.out, ← HK.out] at hle
      rw [← HK.out] at HS
      cases hti : ts[i] with
      | mk y ly =>
        rw [hti] at hce hle HS
        obtain ⟨a0, a1, a2, a3, a4, a5, a6⟩ := CellsAt.seven (x := y) (n := ly.length) hce
        have hle' : k + y.data.length ≤ 1000000000 := hle
        have HS' : Hid (sumN ts (i + 1) = k + y.data.length) := HS.out
        clear hti hce hle HK HS
        go_wp2_with fail
        go_round
        case rel => exact ⟨i + 1, k + y.data.length, by omega, by go_num, by omega, by go_num, HS'.out.symm⟩
        case measure => simp [intOf]; omega
    · obtain rfl : i = ts.length := by omega
      go_wp2_with fail
      go_ret
      exact ⟨ret_int (by rw [← HZ'.out, HK.out]), HB1.out⟩
theorem ba_size (s : List By) : (⟨s.toArray⟩ : ByteArray).size = s.length := by simp [ByteArray.size]
theorem ba_get {s : List By} {i : Nat} (h : i < (⟨s.toArray⟩ : ByteArray).size) : (⟨s.toArray⟩ : ByteArray)[i]'h = s[i]'(by rw [ba_size] at h; exact h) := rfl
attribute [go_sem] ba_get
set_option maxHeartbeats 2000000 in
theorem refname_any (s : List By) (hs : s.length ≤ maxLen) (w : World) : Calls Try.prog 82 #[vs s] w fun e w' => e = .returned (.bool (nameOk s)) ∧ w = w' := by
  unfold maxLen at hs
  by_cases h1 : 1 ≤ s.length
  · by_cases h2 : s.length ≤ 40
    · have h1' : ¬ (s.length : Int) < 1 := by omega
      have h2' : ¬ (40 : Int) < s.length := by omega
      have HE : Hid (nameOk s = (!(s.any (· == 0)) && !(s.any (· == 47)) && !(s == [46]) && !(s == [46, 46]))) := by
        show _ = _; unfold nameOk; rw [decide_eq_true h1, decide_eq_true h2]; rfl
      cases h3 : (s == [46]) with
      | true =>
        have HE' : Hid (nameOk s = false) := by show _ = _; rw [HE.out, h3]; simp
        clear HE
        go_enter Try.func82, Try.ntmps82
        go_wp2_with fail
        go_ret
        exact ⟨by rw [HE'.out]; rfl, rfl⟩
      | false =>
        cases h4 : (s == [46, 46]) with
        | true =>
          have HE' : Hid (nameOk s = false) := by show _ = _; rw [HE.out, h4]; simp
          clear HE
          go_enter Try.func82, Try.ntmps82
          go_wp2_with fail
          go_ret
          exact ⟨by rw [HE'.out]; rfl, rfl⟩
        | false =>
          have HE' : Hid (nameOk s = (!(s.any (· == 0)) && !(s.any (· == 47)))) := by show _ = _; rw [HE.out, h3, h4]; simp
          clear HE
          go_enter Try.func82, Try.ntmps82
          go_wp2_with fail
          go_loop [3] (fun vi => ∃ i : Nat, i ≤ s.length ∧ vi = .int .i64 i ∧ Hid (∀ j (h : j < s.length), j < i → s[j] ≠ 0 ∧ s[j] ≠ 47)) (fun vi => s.length - (intOf vi).toNat)
          case atStart => exact ⟨0, Nat.zero_le _, rfl, fun j _ h => by omega⟩
          case round =>
            obtain ⟨i, hi, rfl, HP⟩ := hrel
            by_cases hlt : i < s.length
            · have HF : Hid (s[i] = 0 ∨ s[i] = 47 → nameOk s = false) := fun h => by
                rw [HE'.out]
                rcases h with h | h
                · rw [show s.any (· == 0) = true from List.any_eq_true.2 ⟨s[i], List.getElem_mem hlt, by simp [h]⟩]; rfl
                · rw [show s.any (· == 47) = true from List.any_eq_true.2 ⟨s[i], List.getElem_mem hlt, by simp [h]⟩]; simp
              have HT : Hid (s[i] ≠ 0 ∧ s[i] ≠ 47 → ∀ j (h : j < s.length), j < i + 1 → s[j] ≠ 0 ∧ s[j] ≠ 47) := fun h j hj hji => by
                by_cases e : j = i
                · subst e; exact h
                · exact HP.out j hj (by omega)
              clear HP
              by_cases e0 : s[i] = 0
              · have e0' : ((s[i].toNat : Int) == 0) = true := by rw [e0]; rfl
                have HF' := Lib.hid (HF.out (Or.inl e0))
                clear HF HT e0
                go_wp2_with fail
                go_ret
                exact ⟨by rw [HF'.out]; rfl, rfl⟩
              · have e0' : ((s[i].toNat : Int) == 0) = false := by rw [show (0 : Int) = ((0 : By).toNat : Int) from rfl, vb_eq]; exact decide_eq_false e0
                by_cases e1 : s[i] = 47
                · have e1' : ((s[i].toNat : Int) == 47) = true := by rw [e1]; rfl
                  have HF' := Lib.hid (HF.out (Or.inr e1))
                  clear HF HT e0 e1
                  go_wp2_with fail
                  go_ret
                  exact ⟨by rw [HF'.out]; rfl, rfl⟩
                · have e1' : ((s[i].toNat : Int) == 47) = false := by rw [show (47 : Int) = ((47 : By).toNat : Int) from rfl, vb_eq]; exact decide_eq_false e1
                  have HT' := Lib.hid (HT.out ⟨e0, e1⟩)
                  clear HF HT e0 e1
                  go_wp2_with fail
                  go_round
                  case rel => exact ⟨i + 1, by omega, by go_num, HT'.out⟩
                  case measure => simp [intOf]; omega
            · have HT : Hid (nameOk s = true) := by
                show _ = _
                rw [HE'.out]
                have g0 : s.any (· == 0) = false := by
                  rw [List.any_eq_false]; intro b hb
                  obtain ⟨j, hj, rfl⟩ := List.getElem_of_mem hb
                  simp [(HP.out j hj (by omega)).1]
                have g1 : s.any (· == 47) = false := by
                  rw [List.any_eq_false]; intro b hb
                  obtain ⟨j, hj, rfl⟩ := List.getElem_of_mem hb
                  simp [(HP.out j hj (by omega)).2]
                rw [g0, g1]; rfl
              obtain rfl : i = s.length := by omega
              clear HP
              go_wp2_with fail
              go_ret
              exact ⟨by rw [HT.out]; rfl, rfl⟩
    · have HE : Hid (nameOk s = false) := by show _ = _; unfold nameOk; rw [decide_eq_false h2]; simp
      have h1' : ¬ (s.length : Int) < 1 := by omega
      have h2' : (40 : Int) < s.length := by omega
      go_enter Try.func82, Try.ntmps82
      go_wp2_with fail
      go_ret
      exact ⟨by rw [HE.out]; rfl, rfl⟩
  · have HE : Hid (nameOk s = false) := by show _ = _; unfold nameOk; rw [decide_eq_false h1]; simp
    have h1' : (s.length : Int) < 1 := by omega
    go_enter Try.func82, Try.ntmps82
    go_wp2_with fail
    go_ret
    exact ⟨by rw [HE.out]; rfl, rfl⟩
end Go.Proofs.Ytlehgacbcacokaa
