/- The contracts of the reference's All, Depth and Size. -/
import Derived.Test.YtggmogjgaoobjaaDoorXCT9
import Derived.Laws.Externs
import Derived.Laws.Runes
import Derived.StillTailTactics
namespace Go.Proofs.YtggmogjgaoobjaaDoor
open Go.RowKit TreeMath RealMath

set_option maxRecDepth 100000 in
theorem info27 : (Tryd.prog.info? 80).map (fun i => (i.zero, i.size, i.bytes)) = some (some (nv zero 0), 7, 112) := by kernel_rfl
/-- a row of nodes of the call's own -/
def Nodes (w : World) (base : Nat) (v : Value) (ts : List T) : Prop := w.ownsRow base 80 7 v ts.length (ts.flatMap cellsT)
set_option maxRecDepth 100000 in
theorem cellsT_length (t : T) : (cellsT t).length = 7 := by cases t; rfl
set_option maxRecDepth 100000 in
theorem flat_length : ∀ ts : List T, (ts.flatMap cellsT).length = ts.length * 7
  | [] => rfl
  | t :: l => by rw [List.flatMap_cons, List.length_append, flat_length l, cellsT_length]; simp; omega
set_option maxRecDepth 100000 in
theorem cellsT_one (t : T) : ∀ u ∈ cellsT t, u.oneCell' = true := by
  cases t with
  | mk x ks => intro u hu; simp [cellsT, cellsOf] at hu; rcases hu with h | h | h | h | h | h | h <;> subst h <;> rfl
set_option maxRecDepth 100000 in
theorem flat_one (ts : List T) : ∀ u ∈ ts.flatMap cellsT, u.oneCell' = true := by
  intro u hu
  obtain ⟨t, _, h⟩ := List.mem_flatMap.1 hu
  exact cellsT_one t u h
set_option maxRecDepth 100000 in
theorem flat_get : ∀ (ts : List T) (i : Nat) (h : i < ts.length) (j : Nat) (_ : j < 7), (ts.flatMap cellsT)[i * 7 + j]? = (cellsT ts[i])[j]?
  | t :: l, 0, _, j, hj => by rw [List.flatMap_cons, List.getElem?_append_left (by rw [cellsT_length]; omega)]; simp
  | t :: l, i + 1, h, j, hj => by
    rw [List.flatMap_cons, List.getElem?_append_right (by rw [cellsT_length]; omega), cellsT_length, show (i + 1) * 7 + j - 7 = i * 7 + j by omega, flat_get l i (by simpa using h) j hj]; rfl
set_option maxRecDepth 100000 in
theorem Nodes.at {w : World} {base : Nat} {v : Value} {ts : List T} (h : Nodes w base v ts) (h0 : 0 < ts.length) :
    ∃ g c, v = .slice (some ⟨g, 0, none⟩) ts.length c ∧ base ≤ g ∧ g < w.heap.size ∧ ts.length ≤ c ∧ (∀ i (hi : i < ts.length), CellsAt w g (i * 7) (cellsT ts[i])) ∧ ∀ j u, (ts.flatMap cellsT)[j]? = some u → w.cell? ((⟨g, 0, none⟩ : Addr).add j) = some u := by
  have hc := fun g => h.cells (g := g)
  have hlt := h.lt
  rcases h.2 with ⟨_, h2⟩ | ⟨g, cap, cur, hv, hg, hcur, hn, _, hs, ht⟩
  · omega
  · subst hv
    refine ⟨g, cap, rfl, hg, (hlt g rfl).2, hn, fun i hi j u hj => ?_, hc g rfl⟩
    have hj7 : j < 7 := by have := (List.getElem?_eq_some_iff.1 hj).1; rw [cellsT_length] at this; exact this
    have := hc g rfl (i * 7 + j) u (by rw [flat_get ts i hi j hj7]; exact hj)
    simpa [Addr.add_mid] using this
set_option maxRecDepth 100000 in
/-- NODES APPENDED TO A ROW OF THE CALL's OWN -/
theorem wpList_append_nodes {w : World} {ops : Array Oper} {rest : List Oper} {o : Oper} {a : Act} {Q : Exit → Act → World → Prop} (hgd : o.guard = none) (s x : Operand)
    (ho : o.op = .call { callee := .builtin .append, args := #[s, x], argTypes := #[78, 78] }) (base : Nat)
    (v : Value) (ts : List T) (hs : a.eval s = v) (hown : Nodes w base v ts)
    (ad : Addr) (c m : Nat) (ls : List T) (hm : ls.length = m) (hx : a.eval x = .slice (some ad) m c) (hA : ∀ j u, (ls.flatMap cellsT)[j]? = some u → w.cell? (ad.add j) = some u) (hbd : ts.length + m ≤ 1000000) (hbase : base ≤ w.heap.size)
    (h : ∀ v' w', Nodes w' base v' (ts ++ ls) → w.grownBy w' v.ownBlock → wpList Tryd.prog ops Q rest (a.put o.dst v') w') : wpList Tryd.prog ops Q (o :: rest) a w := by
  obtain ⟨i0, hi, hz0, hz1, hz2⟩ := info_parts info27
  subst hm
  refine wpList_append_own w hgd s x 78 ho base 80 i0 (nv zero 0) 7 112 Tryd.underlying78 hi hz0 hz1 hz2 rfl (by decide) v ts.length (ts.flatMap cellsT) hs hown ad ls.length c (ls.flatMap cellsT) hx (flat_length ls) hA (flat_one ls) (by unfold maxLen; omega) (by omega) hbase ?_
  intro v' w' h1 h2 _
  refine h v' w' ?_ h2
  unfold Nodes; rw [List.length_append, List.flatMap_append]; exact h1
def AllOf (top : Nat) (t : T) : Prop := ∀ (w : World), top ≤ w.heap.size → Ok w top t → count t ≤ 90000 → Calls Tryd.prog 101 #[val t] w fun e w' => ∃ v, e = .returned v ∧ Nodes w' w.heap.size v (all t) ∧ Below w.heap.size w w'
set_option maxRecDepth 100000 in
theorem all_count_le {ks : List T} {x : Hd} (i : Nat) (h : i < ks.length) : 1 + (allL (ks.take i)).length + count ks[i] ≤ count (.mk x ks) := by
  have e : allL ks = allL (ks.take (i + 1)) ++ allL (ks.drop (i + 1)) := by rw [← allL_append, List.take_append_drop]
  rw [count_mk, e, allL_take ks i h]; unfold count; simp; omega
set_option maxRecDepth 100000 in
set_option maxHeartbeats 4000000 in
theorem all_of (top : Nat) : ∀ t, AllOf top t := by
  refine T.ind fun x ks IH => ?_
  intro w htop hok hn
  show Calls Tryd.prog 101 #[nv x ks.length] w _
  have hlen := hok.len
  unfold maxLen at hlen
  have HIH := Lib.hid IH; have HOK := Lib.hid hok; have HN := Lib.hid hn
  have HALL : Hid (all (.mk x ks) = .mk x ks :: allL ks) := by show _ = _; rw [all]
  clear IH hok hn
  have HB : Hid (∀ box, Below w.heap.size w (w.alloc box)) := fun box => (Below.refl _ _).alloc (Nat.le_refl _) _
  go_enter Tryd.func101, Tryd.ntmps101
  go_wp2_with fail
  have hbox := Blk.new w 80 #[vb x.kind, .slice x.na x.names.length x.nc, .slice x.ka ks.length x.kc, .slice x.da x.data.length x.dc, .bool x.run, .float .f64 x.stamp, vs x.target]
  have hB1 : Below w.heap.size w (w.alloc (.cells #[vb x.kind, .slice x.na x.names.length x.nc, .slice x.ka ks.length x.kc, .slice x.da x.data.length x.dc, .bool x.run, .float .f64 x.stamp, vs x.target] 80)) := HB.out _
  have hs1 : (w.alloc (.cells #[vb x.kind, .slice x.na x.names.length x.nc, .slice x.ka ks.length x.kc, .slice x.da x.data.length x.dc, .bool x.run, .float .f64 x.stamp, vs x.target] 80)).heap.size = w.heap.size + 1 := by simp
  generalize w.alloc (.cells #[vb x.kind, .slice x.na x.names.length x.nc, .slice x.ka ks.length x.kc, .slice x.da x.data.length x.dc, .bool x.run, .float .f64 x.stamp, vs x.target] 80) = W1 at *
  have HBOX := Lib.hid hbox; have HB1 := Lib.hid hB1
  clear hbox hB1 HB
  have h00 : Nodes (W1.alloc (.cells #[vb x.kind, .slice x.na x.names.length x.nc, .slice x.ka ks.length x.kc, .slice x.da x.data.length x.dc, .bool x.run, .float .f64 x.stamp, vs x.target] 80)) (w.heap.size + 1) (.slice (some ⟨w.heap.size + 1, 0, none⟩) 1 1) [.mk x ks] := by
    have := World.ownsRow_lit (base := w.heap.size + 1) (e := 80) (size := 7) W1 #[vb x.kind, .slice x.na x.names.length x.nc, .slice x.ka ks.length x.kc, .slice x.da x.data.length x.dc, .bool x.run, .float .f64 x.stamp, vs x.target] 1 (by omega) (by unfold maxLen; omega) rfl
    rw [hs1] at this
    exact this
  have H00 := Lib.hid h00
  clear h00
  go_loopw [3, 4] (fun vl vi wr => ∃ i : Nat, i ≤ ks.length ∧ vi = .int .i64 i ∧ Hid (Nodes wr (w.heap.size + 1) vl (.mk x ks :: allL (ks.take i)) ∧ Below (w.heap.size + 1) W1 wr)) (fun _ vi _ => ks.length - (intOf vi).toNat)
  case atStart => exact ⟨0, Nat.zero_le _, rfl, by simpa [allL] using H00.out, (Below.refl _ _).alloc (by omega) _⟩
  case round =>
    obtain ⟨i, hi, rfl, HP⟩ := hrel
    rename World => W0
    clear H00
    have hb2 := (HBOX.out.below HP.out.2 (by omega)).cell 2
    simp only [List.getElem?_cons_zero, List.getElem?_cons_succ] at hb2
    by_cases hlt : i < ks.length
    · obtain ⟨hN, hBe⟩ := HP.out
      have hbt : Below top w W0 := (HB1.out.mono htop).trans (hBe.mono (by omega))
      obtain ⟨a, oa, y, ly, hAe, hat, hy, hca⟩ := HOK.out.at.cells i hlt
      have hc := hca.same (hbt.block a hat)
      obtain ⟨a0, a1, a2, a3, a4, a5, a6⟩ := hc.seven
      have hle := all_count_le (x := x) i hlt
      have hsz : w.heap.size + 1 ≤ W0.heap.size := by have := hBe.size; omega
      have HC : Hid (Calls Tryd.prog 101 #[nv y ly.length] W0 fun e w' => ∃ v, e = .returned v ∧ Nodes w' W0.heap.size v (all ks[i]) ∧ Below W0.heap.size W0 w') := by
        have := HIH.out ks[i] (List.getElem_mem _) W0 (by omega) ((HOK.out.kid (List.getElem_mem hlt)).keep hbt) (by have := HN.out; omega)
        rw [hy] at this ⊢; exact this
      have HNN := Lib.hid hN; have HBE := Lib.hid hBe
      have HLE : Hid (1 + (allL (ks.take i)).length + count ks[i] ≤ 90000) := Nat.le_trans hle HN.out
      clear hN hBe hbt hc hca hle HP hat
      rw [hAe] at hb2
      clear hAe
      have HTK : Hid (T.mk x ks :: allL (ks.take i) ++ all ks[i] = T.mk x ks :: allL (ks.take (i + 1))) := by show _ = _; rw [allL_take ks i hlt]; rfl
      generalize hk : ks[i] = k at *
      clear hk hy
      go_wp2_with fail
      refine HC.out.mono ?_
      rintro e w2 ⟨v2, rfl, hn2, hb2'⟩
      have hcnt : 0 < (all k).length := count_pos k
      obtain ⟨g2, c2, rfl, hg2, hg2', hc2, -, hcells⟩ := hn2.at hcnt
      have HN2 : Hid (Nodes w2 (w.heap.size + 1) u3 (T.mk x ks :: allL (ks.take i))) :=
        HNN.out.kept (row := none) ⟨hb2'.os, hb2'.tape, hb2'.output, hb2'.size, fun k hk _ => hb2'.block k hk⟩ (by cases u3.ownBlock <;> simp)
      have HBE2 : Hid (Below (w.heap.size + 1) W1 w2) := HBE.out.trans (hb2'.mono hsz)
      have HCE := Lib.hid hcells
      have hsz2 : w.heap.size + 1 ≤ w2.heap.size := by have := hb2'.size; omega
      clear hcells hn2 hb2' HC HNN HBE hg2 hg2' hc2
      go_wp2_with (refine wpList_append_nodes rfl (.tmp 14) (.tmp 20) rfl (w.heap.size + 1) u3 (T.mk x ks :: allL (ks.take i)) rfl HN2.out ⟨g2, 0, none⟩ c2 (all k).length (all k) rfl rfl HCE.out (by have := HLE.out; unfold count at this; simp; omega) hsz2 ?_)
      intro v3 w3 hn3 hg3
      have HN3 : Hid (Nodes w3 (w.heap.size + 1) v3 (T.mk x ks :: allL (ks.take (i + 1)))) := by rw [← HTK.out]; exact hn3
      have HBE3 : Hid (Below (w.heap.size + 1) W1 w3) := HBE2.out.grown hg3 hsz2 (fun k hk => (HN2.out.lt k hk).1)
      clear hn3 hg3 HN2 HBE2 HCE
      go_wp2_with fail
      go_roundw
      case rel => exact ⟨i + 1, by omega, by go_num, HN3.out, HBE3.out⟩
      case measure => simp [intOf]; omega
    · obtain rfl : i = ks.length := by omega
      obtain ⟨hN, hBe⟩ := HP.out
      have HNN : Hid (Nodes W0 w.heap.size u3 (all (.mk x ks))) := by
        rw [HALL.out]
        rw [List.take_length] at hN
        refine ⟨hN.1, hN.2.imp id ?_⟩
        rintro ⟨g, cap, cur, h1, h2, h3⟩
        exact ⟨g, cap, cur, h1, by omega, h3⟩
      have HBE : Hid (Below w.heap.size w W0) := HB1.out.trans (hBe.mono (by omega))
      clear hN hBe HP
      go_wp2_with fail
      go_ret
      exact ⟨_, rfl, HNN.out, HBE.out⟩
def DepthOf (top : Nat) (t : T) : Prop := ∀ (w : World), top ≤ w.heap.size → Ok w top t → count t ≤ 90000 → Calls Tryd.prog 100 #[val t] w fun e w' => e = .returned (.int .i64 (depth t : Nat)) ∧ Below w.heap.size w w'
set_option maxRecDepth 100000 in
set_option maxHeartbeats 4000000 in
theorem rdepth_of (top : Nat) : ∀ t, DepthOf top t := by
  refine T.ind fun x ks IH => ?_
  intro w htop hok hn
  show Calls Tryd.prog 100 #[nv x ks.length] w _
  have hlen := hok.len
  unfold maxLen at hlen
  have HIH := Lib.hid IH; have HOK := Lib.hid hok; have HN := Lib.hid hn
  have HD : Hid (depth (.mk x ks) = depthL ks + 1) := by show _ = _; rw [depth]
  have hdep : depthL ks ≤ 90000 := by have := depth_count (.mk x ks); rw [depth] at this; omega
  clear IH hok hn
  have HB : Hid (∀ box, Below w.heap.size w (w.alloc box)) := fun box => (Below.refl _ _).alloc (Nat.le_refl _) _
  go_enter Tryd.func100, Tryd.ntmps100
  go_wp2_with fail
  have hbox := Blk.new w 80 #[vb x.kind, .slice x.na x.names.length x.nc, .slice x.ka ks.length x.kc, .slice x.da x.data.length x.dc, .bool x.run, .float .f64 x.stamp, vs x.target]
  have hB1 : Below w.heap.size w (w.alloc (.cells #[vb x.kind, .slice x.na x.names.length x.nc, .slice x.ka ks.length x.kc, .slice x.da x.data.length x.dc, .bool x.run, .float .f64 x.stamp, vs x.target] 80)) := HB.out _
  have hs1 : (w.alloc (.cells #[vb x.kind, .slice x.na x.names.length x.nc, .slice x.ka ks.length x.kc, .slice x.da x.data.length x.dc, .bool x.run, .float .f64 x.stamp, vs x.target] 80)).heap.size = w.heap.size + 1 := by simp
  generalize w.alloc (.cells #[vb x.kind, .slice x.na x.names.length x.nc, .slice x.ka ks.length x.kc, .slice x.da x.data.length x.dc, .bool x.run, .float .f64 x.stamp, vs x.target] 80) = W1 at *
  have HBOX := Lib.hid hbox; have HB1 := Lib.hid hB1
  clear hbox hB1 HB
  go_loopw [3, 4] (fun vl vi wr => ∃ i d : Nat, i ≤ ks.length ∧ vi = .int .i64 i ∧ d ≤ 90000 ∧ vl = .int .i64 d ∧ Hid (d = depthL (ks.take i)) ∧ Hid (Below (w.heap.size + 1) W1 wr)) (fun _ vi _ => ks.length - (intOf vi).toNat)
  case atStart => exact ⟨0, 0, Nat.zero_le _, rfl, by omega, rfl, Lib.hid (by simp [depthL]), Below.refl _ _⟩
  case round =>
    obtain ⟨i, d, hi, rfl, hd9, rfl, HD0, HP⟩ := hrel
    rename World => W0
    have hb2 := (HBOX.out.below HP.out (by omega)).cell 2
    simp only [List.getElem?_cons_zero, List.getElem?_cons_succ] at hb2
    by_cases hlt : i < ks.length
    · have hBe := HP.out
      have hbt : Below top w W0 := (HB1.out.mono htop).trans (hBe.mono (by omega))
      obtain ⟨a, oa, y, ly, hAe, hat, hy, hca⟩ := HOK.out.at.cells i hlt
      have hc := hca.same (hbt.block a hat)
      obtain ⟨a0, a1, a2, a3, a4, a5, a6⟩ := hc.seven
      have hle := all_count_le (x := x) i hlt
      have hsz : w.heap.size + 1 ≤ W0.heap.size := by have := hBe.size; omega
      have HC : Hid (Calls Tryd.prog 100 #[nv y ly.length] W0 fun e w' => e = .returned (.int .i64 (depth ks[i] : Nat)) ∧ Below W0.heap.size W0 w') := by
        have := HIH.out ks[i] (List.getElem_mem _) W0 (by omega) ((HOK.out.kid (List.getElem_mem hlt)).keep hbt) (by have := HN.out; omega)
        rw [hy] at this ⊢; exact this
      have HBE := Lib.hid hBe
      have hdk : depth ks[i] ≤ 90000 := Nat.le_trans (depth_mem (List.getElem_mem hlt)) hdep
      clear hBe hbt hc hca hle HP hat
      rw [hAe] at hb2
      clear hAe
      have HTK : Hid (depthL (ks.take (i + 1)) = max d (depth ks[i])) := by show _ = _; rw [depth_take ks i hlt, HD0.out]
      clear HD0
      generalize hk : depth ks[i] = dk at *
      clear hk hy
      go_wp2_with fail
      refine HC.out.mono ?_
      rintro e w2 ⟨rfl, hb2'⟩
      have HBE2 : Hid (Below (w.heap.size + 1) W1 w2) := HBE.out.trans (hb2'.mono hsz)
      clear hb2' HC HBE
      by_cases hdd : d < dk
      · have hdd' : (d : Int) < dk := by omega
        have HM : Hid (dk = depthL (ks.take (i + 1))) := by show _ = _; rw [HTK.out]; omega
        go_wp2_with fail
        go_roundw
        case rel => exact ⟨i + 1, dk, by omega, by go_num, by omega, rfl, HM.out, HBE2.out⟩
        case measure => simp [intOf]; omega
      · have hdd' : ¬ (d : Int) < dk := by omega
        have HM : Hid (d = depthL (ks.take (i + 1))) := by show _ = _; rw [HTK.out]; omega
        go_wp2_with fail
        go_roundw
        case rel => exact ⟨i + 1, d, by omega, by go_num, by omega, rfl, HM.out, HBE2.out⟩
        case measure => simp [intOf]; omega
    · obtain rfl : i = ks.length := by omega
      have HBE : Hid (Below w.heap.size w W0) := HB1.out.trans (HP.out.mono (by omega))
      rw [List.take_length] at HD0
      clear HP
      go_wp2_with fail
      go_ret
      exact ⟨ret_int (by rw [HD.out, ← HD0.out]; omega), HBE.out⟩
end Go.Proofs.YtggmogjgaoobjaaDoor

/- The contracts of strings.IndexByte, rightName and rightNames. -/
namespace Go.Proofs.YtggmogjgaoobjaaDoor
open Go.RowKit TreeMath RealMath

set_option maxRecDepth 100000 in
theorem firstIdx_neg (s : List By) (c : By) : decide (firstIdx ⟨s.toArray⟩ c < 0) = !(s.any (· == c)) := by
  have h := firstIdx_nonneg ⟨s.toArray⟩ c
  simp only at h
  rw [← h]
  by_cases e : firstIdx ⟨s.toArray⟩ c < 0
  · rw [decide_eq_true e, decide_eq_false (by omega)]; rfl
  · rw [decide_eq_false e, decide_eq_true (by omega)]; rfl
end Go.Proofs.YtggmogjgaoobjaaDoor

/- The contracts of the reference's Size and name. -/
namespace Go.Proofs.YtggmogjgaoobjaaDoor
open Go.RowKit TreeMath RealMath

def sumN (ts : List T) (i : Nat) : Nat := ((ts.take i).map fun k => k.hd.data.length).sum
set_option maxRecDepth 100000 in
theorem sumN_succ (ts : List T) (i : Nat) (h : i < ts.length) : sumN ts (i + 1) = sumN ts i + ts[i].hd.data.length := by
  unfold sumN; rw [List.take_succ_eq_append_getElem h, List.map_append, List.sum_append]; simp
set_option maxRecDepth 100000 in
theorem sumN_all (ts : List T) : sumN ts ts.length = (ts.map fun k => k.hd.data.length).sum := by unfold sumN; rw [List.take_length]
set_option maxRecDepth 100000 in
theorem sumN_le (ts : List T) (i : Nat) : sumN ts i ≤ (ts.map fun k => k.hd.data.length).sum := by
  conv => rhs; rw [← List.take_append_drop i ts, List.map_append, List.sum_append]
  unfold sumN; omega
set_option maxRecDepth 100000 in
theorem ba_size (s : List By) : (⟨s.toArray⟩ : ByteArray).size = s.length := by simp [ByteArray.size]
set_option maxRecDepth 100000 in
theorem ba_get {s : List By} {i : Nat} (h : i < (⟨s.toArray⟩ : ByteArray).size) : (⟨s.toArray⟩ : ByteArray)[i]'h = s[i]'(by rw [ba_size] at h; exact h) := rfl
attribute [go_sem] ba_get
set_option maxRecDepth 100000 in
set_option maxHeartbeats 2000000 in
theorem refname_any (s : List By) (hs : s.length ≤ maxLen) (w : World) : Calls Tryd.prog 109 #[vs s] w fun e w' => e = .returned (.bool (nameOk s)) ∧ w = w' := by
  unfold maxLen at hs
  by_cases h1 : 1 ≤ s.length
  · by_cases h2 : s.length ≤ 40
    · have h1' : ¬ (s.length : Int) < 1 := by omega
      have h2' : ¬ (40 : Int) < s.length := by omega
      have HE : Hid (nameOk s = (!(s.any (· == 0)) && !(s.any (· == 47)) && !(s == [46]) && !(s == [46, 46]))) := by
        show _ = _; unfold nameOk; rw [decide_eq_true h1, decide_eq_true h2]; rfl
      cases h3 : (s == [46]) with
      | true =>
        have HE' : Hid (nameOk s = false) := by show _ = _; rw [HE.out, h3]; simp
        clear HE
        go_enter Tryd.func109, Tryd.ntmps109
        go_wp2_with fail
        go_ret
        exact ⟨by rw [HE'.out]; rfl, rfl⟩
      | false =>
        cases h4 : (s == [46, 46]) with
        | true =>
          have HE' : Hid (nameOk s = false) := by show _ = _; rw [HE.out, h4]; simp
          clear HE
          go_enter Tryd.func109, Tryd.ntmps109
          go_wp2_with fail
          go_ret
          exact ⟨by rw [HE'.out]; rfl, rfl⟩
        | false =>
          have HE' : Hid (nameOk s = (!(s.any (· == 0)) && !(s.any (· == 47)))) := by show _ = _; rw [HE.out, h3, h4]; simp
          clear HE
          go_enter Tryd.func109, Tryd.ntmps109
          go_wp2_with fail
          go_loop [3] (fun vi => ∃ i : Nat, i ≤ s.length ∧ vi = .int .i64 i ∧ Hid (∀ j (h : j < s.length), j < i → s[j] ≠ 0 ∧ s[j] ≠ 47)) (fun vi => s.length - (intOf vi).toNat)
          case atStart => exact ⟨0, Nat.zero_le _, rfl, fun j _ h => by omega⟩
          case round =>
            obtain ⟨i, hi, rfl, HP⟩ := hrel
            by_cases hlt : i < s.length
            · have HF : Hid (s[i] = 0 ∨ s[i] = 47 → nameOk s = false) := fun h => by
                rw [HE'.out]
                rcases h with h | h
                · rw [show s.any (· == 0) = true from List.any_eq_true.2 ⟨s[i], List.getElem_mem hlt, by simp [h]⟩]; rfl
                · rw [show s.any (· == 47) = true from List.any_eq_true.2 ⟨s[i], List.getElem_mem hlt, by simp [h]⟩]; simp
              have HT : Hid (s[i] ≠ 0 ∧ s[i] ≠ 47 → ∀ j (h : j < s.length), j < i + 1 → s[j] ≠ 0 ∧ s[j] ≠ 47) := fun h j hj hji => by
                by_cases e : j = i
                · subst e; exact h
                · exact HP.out j hj (by omega)
              clear HP
              by_cases e0 : s[i] = 0
              · have e0' : ((s[i].toNat : Int) == 0) = true := by rw [e0]; rfl
                have HF' := Lib.hid (HF.out (Or.inl e0))
                clear HF HT e0
                go_wp2_with fail
                go_ret
                exact ⟨by rw [HF'.out]; rfl, rfl⟩
              · have e0' : ((s[i].toNat : Int) == 0) = false := by rw [show (0 : Int) = ((0 : By).toNat : Int) from rfl, vb_eq]; exact decide_eq_false e0
                by_cases e1 : s[i] = 47
                · have e1' : ((s[i].toNat : Int) == 47) = true := by rw [e1]; rfl
                  have HF' := Lib.hid (HF.out (Or.inr e1))
                  clear HF HT e0 e1
                  go_wp2_with fail
                  go_ret
                  exact ⟨by rw [HF'.out]; rfl, rfl⟩
                · have e1' : ((s[i].toNat : Int) == 47) = false := by rw [show (47 : Int) = ((47 : By).toNat : Int) from rfl, vb_eq]; exact decide_eq_false e1
                  have HT' := Lib.hid (HT.out ⟨e0, e1⟩)
                  clear HF HT e0 e1
                  go_wp2_with fail
                  go_round
                  case rel => exact ⟨i + 1, by omega, by go_num, HT'.out⟩
                  case measure => simp [intOf]; omega
            · have HT : Hid (nameOk s = true) := by
                show _ = _
                rw [HE'.out]
                have g0 : s.any (· == 0) = false := by
                  rw [List.any_eq_false]; intro b hb
                  obtain ⟨j, hj, rfl⟩ := List.getElem_of_mem hb
                  simp [(HP.out j hj (by omega)).1]
                have g1 : s.any (· == 47) = false := by
                  rw [List.any_eq_false]; intro b hb
                  obtain ⟨j, hj, rfl⟩ := List.getElem_of_mem hb
                  simp [(HP.out j hj (by omega)).2]
                rw [g0, g1]; rfl
              obtain rfl : i = s.length := by omega
              clear HP
              go_wp2_with fail
              go_ret
              exact ⟨by rw [HT.out]; rfl, rfl⟩
    · have HE : Hid (nameOk s = false) := by show _ = _; unfold nameOk; rw [decide_eq_false h2]; simp
      have h1' : ¬ (s.length : Int) < 1 := by omega
      have h2' : (40 : Int) < s.length := by omega
      go_enter Tryd.func109, Tryd.ntmps109
      go_wp2_with fail
      go_ret
      exact ⟨by rw [HE.out]; rfl, rfl⟩
  · have HE : Hid (nameOk s = false) := by show _ = _; unfold nameOk; rw [decide_eq_false h1]; simp
    have h1' : (s.length : Int) < 1 := by omega
    go_enter Tryd.func109, Tryd.ntmps109
    go_wp2_with fail
    go_ret
    exact ⟨by rw [HE.out]; rfl, rfl⟩
end Go.Proofs.YtggmogjgaoobjaaDoor

/- The contracts of bare and fits. -/
namespace Go.Proofs.YtggmogjgaoobjaaDoor
open Go.RowKit TreeMath RealMath

set_option maxRecDepth 100000 in
theorem hdOk_zero (w : World) (top : Nat) : HdOk w top zero :=
  ⟨fun h => absurd h (by simp [zero]), fun h => absurd h (by simp [zero]), fun _ => rfl, by simp [zero], by simp [zero], by simp [zero], fun h => absurd h (by simp [zero]), fun h => absurd h (by simp [zero]), fun _ => rfl, by simp [zero], by simp [zero], by simp [zero], by simp [zero], fun _ => rfl⟩
set_option maxRecDepth 100000 in
theorem ok_zero (w : World) (top : Nat) : Ok w top zeroT := .mk zero [] (hdOk_zero w top) (by simp) (by simp [zero]) (fun h => absurd h (by simp)) (fun k hk => by cases hk)
def dirRest (x : Hd) : Hd := ⟨0, none, 0, [], none, 0, x.da, x.dc, x.data, x.run, x.stamp, x.target⟩
def fileRest (x : Hd) : Hd := ⟨0, x.na, x.nc, x.names, x.ka, x.kc, none, 0, [], false, 0, x.target⟩
def linkRest (x : Hd) : Hd := ⟨0, x.na, x.nc, x.names, x.ka, x.kc, x.da, x.dc, x.data, x.run, x.stamp, []⟩
set_option maxRecDepth 100000 in
theorem dirRest_ok {w : World} {top : Nat} {x : Hd} {ks : List T} (h : Ok w top (.mk x ks)) : Ok w top (.mk (dirRest x) []) :=
  .mk _ _ ⟨fun h => absurd h (by simp [dirRest]), fun h => absurd h (by simp [dirRest]), fun _ => rfl, by simp [dirRest], by simp [dirRest], by simp [dirRest], h.hd.dsrc, h.hd.dlt, h.hd.dnil, h.hd.dcap, h.hd.dlen, h.hd.stamp, h.hd.tlen, fun _ => rfl⟩ (by simp) (by simp) (fun h => absurd h (by simp)) (fun k hk => by cases hk)
set_option maxRecDepth 100000 in
theorem fileRest_ok {w : World} {top : Nat} {x : Hd} {ks : List T} (h : Ok w top (.mk x ks)) : Ok w top (.mk (fileRest x) ks) :=
  .mk _ _ ⟨h.hd.nsrc, h.hd.nlt, h.hd.nnil, h.hd.ncap, h.hd.nlen, h.hd.neach, fun h => absurd h (by simp [fileRest]), fun h => absurd h (by simp [fileRest]), fun _ => rfl, by simp [fileRest], by simp [fileRest], by simp [fileRest], h.hd.tlen, h.hd.knil⟩ h.len h.cap h.at (fun k hk => h.kid hk)
set_option maxRecDepth 100000 in
theorem linkRest_ok {w : World} {top : Nat} {x : Hd} {ks : List T} (h : Ok w top (.mk x ks)) : Ok w top (.mk (linkRest x) ks) :=
  .mk _ _ ⟨h.hd.nsrc, h.hd.nlt, h.hd.nnil, h.hd.ncap, h.hd.nlen, h.hd.neach, h.hd.dsrc, h.hd.dlt, h.hd.dnil, h.hd.dcap, h.hd.dlen, h.hd.stamp, by simp [linkRest], h.hd.knil⟩ h.len h.cap h.at (fun k hk => h.kid hk)
set_option maxRecDepth 100000 in
theorem dir_same (x : Hd) : same (.mk (dirRest x) []) zeroT = (noFile x && decide (x.target = [])) := by
  rw [same_zero]
  by_cases h1 : x.run = false <;> by_cases h2 : x.target = [] <;> by_cases h3 : canonB x.stamp = 0 <;> by_cases h4 : x.data = [] <;> simp [dirRest, noFile, h1, h2, h3, h4]
set_option maxRecDepth 100000 in
theorem file_same (x : Hd) (ks : List T) : same (.mk (fileRest x) ks) zeroT = (decide (x.names = []) && decide (ks.length = 0) && decide (x.target = [])) := by
  rw [same_zero]
  have h0 : canonB 0 = 0 := by decide
  by_cases h1 : x.names = [] <;> by_cases h2 : x.target = [] <;> by_cases h3 : ks.length = 0 <;> simp [fileRest, h0, h1, h2, h3]
set_option maxRecDepth 100000 in
theorem link_same (x : Hd) (ks : List T) : same (.mk (linkRest x) ks) zeroT = (decide (x.names = []) && decide (ks.length = 0) && noFile x) := by
  rw [same_zero]
  by_cases h1 : x.names = [] <;> by_cases h2 : x.run = false <;> by_cases h3 : ks.length = 0 <;> by_cases h4 : canonB x.stamp = 0 <;> by_cases h5 : x.data = [] <;> simp [linkRest, noFile, h1, h2, h3, h4, h5]
end Go.Proofs.YtggmogjgaoobjaaDoor

/- The reference's form: the question of one name and one kid, each of its four ways. -/
namespace Go.Proofs.YtggmogjgaoobjaaDoor
open Go.RowKit TreeMath RealMath

def cRight : Code → Code
  | .seq _ b => b
  | c => c
def cLeft : Code → Code
  | .seq a _ => a
  | c => c
def cIn : Code → Code
  | .block _ c => c
  | .loop c => c
  | c => c
def cThen : Code → Code
  | .cond _ a _ => a
  | c => c
set_option maxRecDepth 100000 in
theorem wpStill_skip {P : Program} {ops : Array Oper} {w : World} {Q : Act → Prop} {a : Act} {o : Oper} {rest : List Oper} (h : Region.wanted o (yielded ops a.tmps) = false) (k : wpStill P ops w Q rest (a.put o.dst undef)) : wpStill P ops w Q (o :: rest) a := by
  show (if Region.wanted o (yielded ops a.tmps) = true then _ else _)
  rw [if_neg (by rw [h]; decide)]; exact k
set_option maxRecDepth 100000 in
theorem wpStill_of_quiet {P : Program} {ops : Array Oper} {w : World} {Q : Act → Prop} : ∀ {l : List Oper} {a : Act}, wpQuiet P ops (fun w' => w' = w) Q l a → wpStill P ops w Q l a
  | [], _, h => h
  | o :: rest, a, h => by
    unfold wpQuiet at h
    unfold wpStill
    by_cases hw : Region.wanted o (yielded ops a.tmps) = true
    · rw [if_pos hw] at h ⊢
      obtain ⟨v, hv, hn⟩ := h
      have h1 := hv w rfl
      have hn' := wpStill_of_quiet hn
      unfold Oper.quietAt at h1
      unfold Oper.still
      generalize (execOp a.eval o).run P w = r at h1
      match r, h1 with
      | .ok (.value u) w', ⟨e1, e2⟩ => exact ⟨e1, by rw [e2]; exact hn'⟩
      | .ok .skip w', ⟨e1, e2⟩ => exact ⟨e1, by rw [← e2]; exact hn'⟩
      | .ok (.enter f args) w', ⟨e1, e2⟩ => exact ⟨e1, v, e2, hn'⟩
    · rw [if_neg hw] at h ⊢
      exact wpStill_of_quiet h
set_option maxRecDepth 100000 in
theorem quiet_name (s : List By) (hs : s.length ≤ maxLen) (b : Bool) (hb : nameOk s = b) (W : World) (n : Nat) : Calls Tryd.prog 109 #[vs s] (W.drewN n) fun e w' => e = .returned (.bool b) ∧ ∃ m, w' = W.drewN m :=
  (refname_any s hs (W.drewN n)).mono fun _ _ ⟨h1, h2⟩ => ⟨by rw [h1, hb], n, h2.symm⟩
set_option maxHeartbeats 8000000 in
set_option maxRecDepth 100000 in
theorem reg11_bad {x0 x2 x3 x4 x5 x7 x8 x9 x10 x11 x12 x13 x14 x15 x16 x17 x18 x19 x20 x21 x22 x23 x24 x25 x26 x27 x28 x29 x30 x31 x32 x33 x34 x35 x36 x37 x38 x39 x40 x41 x42 x43 x44 x45 x46 x47 x48 x49 x50 x51 x52 x53 x54 x55 x56 x57 x58 x59 x60 x61 x62 x63 x64 x65 x66 x67 x68 x69 x70 x71 x72 x73 x74 x75 x76 x77 x78 x79 x80 x81 x82 x83 x84 x85 x86 x87 x88 x89 x90 x91 x92 x93 x94 x95 x96 x97 x98 x99 x100 x101 x102 x103 x104 x105 x106 x107 x108 x109 x110 x111 x112 x113 x114 x115 x116 x117 x118 x119 x120 x121 : Value} (g i nb no cn ln : Nat) (s1 : List By) (W0 : World) (Q : Exit → Act → World → Prop) (hs : s1.length ≤ maxLen) (hnm : nameOk s1 = false) (hi : i < ln) (c1 : W0.cell? ⟨g, 1, none⟩ = some (.slice (some ⟨nb, no, none⟩) ln cn)) (n1 : W0.cell? ⟨nb, no + i, none⟩ = some (vs s1))
    (hQ : ∀ {y57 y58 y59 y60 y61 y62 y63 y64 y65 y66 y67 y68 y69 y70 y71 y72 y73 y74 y75 y76 y77 y78 y79 y80 y81 y82 y83 y84 y85 y86 y87 y88 y89 : Value} (w' : World), Below W0.heap.size W0 w' → Q .normal { tmps := List.toArray (x0 :: (.pointer (some ⟨g, 0, none⟩)) :: x2 :: x3 :: x4 :: x5 :: (.int .i64 i) :: x7 :: x8 :: x9 :: x10 :: x11 :: x12 :: x13 :: x14 :: x15 :: x16 :: x17 :: x18 :: x19 :: x20 :: x21 :: x22 :: x23 :: x24 :: x25 :: x26 :: x27 :: x28 :: x29 :: x30 :: x31 :: x32 :: x33 :: x34 :: x35 :: x36 :: x37 :: x38 :: x39 :: x40 :: x41 :: x42 :: x43 :: x44 :: x45 :: x46 :: x47 :: x48 :: x49 :: x50 :: x51 :: x52 :: x53 :: x54 :: x55 :: x56 :: y57 :: y58 :: y59 :: y60 :: y61 :: y62 :: y63 :: y64 :: y65 :: y66 :: y67 :: y68 :: y69 :: y70 :: y71 :: y72 :: y73 :: y74 :: y75 :: y76 :: y77 :: y78 :: y79 :: y80 :: y81 :: y82 :: y83 :: y84 :: y85 :: y86 :: y87 :: y88 :: y89 :: (.bool true) :: x91 :: x92 :: x93 :: x94 :: x95 :: x96 :: x97 :: x98 :: x99 :: x100 :: x101 :: x102 :: x103 :: x104 :: x105 :: x106 :: x107 :: x108 :: x109 :: x110 :: x111 :: x112 :: x113 :: x114 :: x115 :: x116 :: x117 :: x118 :: x119 :: x120 :: x121 :: []), defers := [] } w') :
    Code.wp Tryd.prog (cLeft (cIn (cLeft (cRight (cIn (cIn (cRight (cLeft (cRight (cThen (cRight (cIn (cRight (cLeft (cRight (cRight (cRight (cRight (Tryd.f99.body.getD .skip))))))))))))))))))) Q { tmps := List.toArray (x0 :: (.pointer (some ⟨g, 0, none⟩)) :: x2 :: x3 :: x4 :: x5 :: (.int .i64 i) :: x7 :: x8 :: x9 :: x10 :: x11 :: x12 :: x13 :: x14 :: x15 :: x16 :: x17 :: x18 :: x19 :: x20 :: x21 :: x22 :: x23 :: x24 :: x25 :: x26 :: x27 :: x28 :: x29 :: x30 :: x31 :: x32 :: x33 :: x34 :: x35 :: x36 :: x37 :: x38 :: x39 :: x40 :: x41 :: x42 :: x43 :: x44 :: x45 :: x46 :: x47 :: x48 :: x49 :: x50 :: x51 :: x52 :: x53 :: x54 :: x55 :: x56 :: x57 :: x58 :: x59 :: x60 :: x61 :: x62 :: x63 :: x64 :: x65 :: x66 :: x67 :: x68 :: x69 :: x70 :: x71 :: x72 :: x73 :: x74 :: x75 :: x76 :: x77 :: x78 :: x79 :: x80 :: x81 :: x82 :: x83 :: x84 :: x85 :: x86 :: x87 :: x88 :: x89 :: x90 :: x91 :: x92 :: x93 :: x94 :: x95 :: x96 :: x97 :: x98 :: x99 :: x100 :: x101 :: x102 :: x103 :: x104 :: x105 :: x106 :: x107 :: x108 :: x109 :: x110 :: x111 :: x112 :: x113 :: x114 :: x115 :: x116 :: x117 :: x118 :: x119 :: x120 :: x121 :: []), defers := [] } W0 := by
  have HNM : Hid (∀ n, Calls Tryd.prog 109 #[vs s1] (W0.drewN n) fun e w' => e = .returned (.bool false) ∧ ∃ m, w' = W0.drewN m) := fun n => quiet_name s1 hs false hnm W0 n
  clear hs hnm
  dsimp only [Tryd.f99, cRight, cLeft, cIn, cThen, Option.getD]
  go_quiet ((go_at_call 109; with_reducible exact HNM.out _))
  exact hQ _ (below_drewN (Below.refl _ _) _)
end Go.Proofs.YtggmogjgaoobjaaDoor

/- The reference's form: the question of one name and one kid, way b. -/
namespace Go.Proofs.YtggmogjgaoobjaaDoor
open Go.RowKit TreeMath RealMath
set_option maxHeartbeats 8000000 in
set_option maxRecDepth 100000 in
theorem reg11_order {x0 x2 x3 x4 x5 x7 x8 x9 x10 x11 x12 x13 x14 x15 x16 x17 x18 x19 x20 x21 x22 x23 x24 x25 x26 x27 x28 x29 x30 x31 x32 x33 x34 x35 x36 x37 x38 x39 x40 x41 x42 x43 x44 x45 x46 x47 x48 x49 x50 x51 x52 x53 x54 x55 x56 x57 x58 x59 x60 x61 x62 x63 x64 x65 x66 x67 x68 x69 x70 x71 x72 x73 x74 x75 x76 x77 x78 x79 x80 x81 x82 x83 x84 x85 x86 x87 x88 x89 x90 x91 x92 x93 x94 x95 x96 x97 x98 x99 x100 x101 x102 x103 x104 x105 x106 x107 x108 x109 x110 x111 x112 x113 x114 x115 x116 x117 x118 x119 x120 x121 : Value} (g i j nb no cn ln : Nat) (s1 s0 : List By) (W0 : World) (Q : Exit → Act → World → Prop) (hs : s1.length ≤ maxLen) (hnm : nameOk s1 = true) (hi : i < ln) (hln : ln ≤ 100000) (c1 : W0.cell? ⟨g, 1, none⟩ = some (.slice (some ⟨nb, no, none⟩) ln cn)) (n1 : W0.cell? ⟨nb, no + i, none⟩ = some (vs s1)) (hj : i = j + 1) (n0 : W0.cell? ⟨nb, no + j, none⟩ = some (vs s0)) (hle : (Op.bytesLess s1 s0 || s1 == s0) = true)
    (hQ : ∀ {y57 y58 y59 y60 y61 y62 y63 y64 y65 y66 y67 y68 y69 y70 y71 y72 y73 y74 y75 y76 y77 y78 y79 y80 y81 y82 y83 y84 y85 y86 y87 y88 y89 : Value} (w' : World), Below W0.heap.size W0 w' → Q .normal { tmps := List.toArray (x0 :: (.pointer (some ⟨g, 0, none⟩)) :: x2 :: x3 :: x4 :: x5 :: (.int .i64 i) :: x7 :: x8 :: x9 :: x10 :: x11 :: x12 :: x13 :: x14 :: x15 :: x16 :: x17 :: x18 :: x19 :: x20 :: x21 :: x22 :: x23 :: x24 :: x25 :: x26 :: x27 :: x28 :: x29 :: x30 :: x31 :: x32 :: x33 :: x34 :: x35 :: x36 :: x37 :: x38 :: x39 :: x40 :: x41 :: x42 :: x43 :: x44 :: x45 :: x46 :: x47 :: x48 :: x49 :: x50 :: x51 :: x52 :: x53 :: x54 :: x55 :: x56 :: y57 :: y58 :: y59 :: y60 :: y61 :: y62 :: y63 :: y64 :: y65 :: y66 :: y67 :: y68 :: y69 :: y70 :: y71 :: y72 :: y73 :: y74 :: y75 :: y76 :: y77 :: y78 :: y79 :: y80 :: y81 :: y82 :: y83 :: y84 :: y85 :: y86 :: y87 :: y88 :: y89 :: (.bool true) :: x91 :: x92 :: x93 :: x94 :: x95 :: x96 :: x97 :: x98 :: x99 :: x100 :: x101 :: x102 :: x103 :: x104 :: x105 :: x106 :: x107 :: x108 :: x109 :: x110 :: x111 :: x112 :: x113 :: x114 :: x115 :: x116 :: x117 :: x118 :: x119 :: x120 :: x121 :: []), defers := [] } w') :
    Code.wp Tryd.prog (cLeft (cIn (cLeft (cRight (cIn (cIn (cRight (cLeft (cRight (cThen (cRight (cIn (cRight (cLeft (cRight (cRight (cRight (cRight (Tryd.f99.body.getD .skip))))))))))))))))))) Q { tmps := List.toArray (x0 :: (.pointer (some ⟨g, 0, none⟩)) :: x2 :: x3 :: x4 :: x5 :: (.int .i64 i) :: x7 :: x8 :: x9 :: x10 :: x11 :: x12 :: x13 :: x14 :: x15 :: x16 :: x17 :: x18 :: x19 :: x20 :: x21 :: x22 :: x23 :: x24 :: x25 :: x26 :: x27 :: x28 :: x29 :: x30 :: x31 :: x32 :: x33 :: x34 :: x35 :: x36 :: x37 :: x38 :: x39 :: x40 :: x41 :: x42 :: x43 :: x44 :: x45 :: x46 :: x47 :: x48 :: x49 :: x50 :: x51 :: x52 :: x53 :: x54 :: x55 :: x56 :: x57 :: x58 :: x59 :: x60 :: x61 :: x62 :: x63 :: x64 :: x65 :: x66 :: x67 :: x68 :: x69 :: x70 :: x71 :: x72 :: x73 :: x74 :: x75 :: x76 :: x77 :: x78 :: x79 :: x80 :: x81 :: x82 :: x83 :: x84 :: x85 :: x86 :: x87 :: x88 :: x89 :: x90 :: x91 :: x92 :: x93 :: x94 :: x95 :: x96 :: x97 :: x98 :: x99 :: x100 :: x101 :: x102 :: x103 :: x104 :: x105 :: x106 :: x107 :: x108 :: x109 :: x110 :: x111 :: x112 :: x113 :: x114 :: x115 :: x116 :: x117 :: x118 :: x119 :: x120 :: x121 :: []), defers := [] } W0 := by
  have HNM : Hid (∀ n, Calls Tryd.prog 109 #[vs s1] (W0.drewN n) fun e w' => e = .returned (.bool true) ∧ ∃ m, w' = W0.drewN m) := fun n => quiet_name s1 hs true hnm W0 n
  have h0' : decide ((0 : Int) < i) = true := decide_eq_true (by omega)
  have h0n : decide (0 < i) = true := decide_eq_true (by omega)
  have e3 : (0 : Int) ≤ (j : Int) := by omega
  have e4 : (j : Int) < ln := by omega
  have e1 : IntKind.i64.wrap ((i : Int) - 1) = (j : Int) := by rw [IntWalk.i64_in _ (by omega)]; omega
  clear hs hnm hj
  dsimp only [Tryd.f99, cRight, cLeft, cIn, cThen, Option.getD]
  go_quiet ((go_at_call 109; with_reducible exact HNM.out _))
  exact hQ _ (below_drewN (Below.refl _ _) _)
end Go.Proofs.YtggmogjgaoobjaaDoor
