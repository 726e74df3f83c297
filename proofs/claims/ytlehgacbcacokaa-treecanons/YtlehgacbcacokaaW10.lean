/- The contracts of the reference's All, Depth and Size. -/
import Derived.Test.YtlehgacbcacokaaW3
namespace Go.Proofs.Ytlehgacbcacokaa
open Go.RowKit TreeMath RealMath

theorem info27 : (Try.prog.info? 27).map (fun i => (i.zero, i.size, i.bytes)) = some (some (nv zero 0), 7, 112) := by kernel_rfl
/-- a row of nodes of the call's own -/
def Nodes (w : World) (base : Nat) (v : Value) (ts : List T) : Prop := w.ownsRow base 27 7 v ts.length (ts.flatMap cellsT)
theorem cellsT_length (t : T) : (cellsT t).length = 7 := by cases t; rfl
theorem flat_length : ∀ ts : List T, (ts.flatMap cellsT).length = ts.length * 7
  | [] => rfl
  | t :: l => by rw [List.flatMap_cons, List.length_append, flat_length l, cellsT_length]; simp; omega
theorem cellsT_one (t : T) : ∀ u ∈ cellsT t, u.oneCell' = true := by
  cases t with
  | mk x ks => intro u hu; simp [cellsT, cellsOf] at hu; rcases hu with h | h | h | h | h | h | h <;> subst h <;> rfl
theorem flat_one (ts : List T) : ∀ u ∈ ts.flatMap cellsT, u.oneCell' = true := by
  intro u hu
  obtain ⟨t, _, h⟩ := List.mem_flatMap.1 hu
  exact cellsT_one t u h
theorem flat_get : ∀ (ts : List T) (i : Nat) (h : i < ts.length) (j : Nat) (_ : j < 7), (ts.flatMap cellsT)[i * 7 + j]? = (cellsT ts[i])[j]?
  | t :: l, 0, _, j, hj => by rw [List.flatMap_cons, List.getElem?_append_left (by rw [cellsT_length]; omega)]; simp
  | t :: l, i + 1, h, j, hj => by
    rw [List.flatMap_cons, List.getElem?_append_right (by rw [cellsT_length]; omega), cellsT_length, show (i + 1) * 7 + j - 7 = i * 7 + j by omega, flat_get l i (by simpa using h) j hj]; rfl
theorem Nodes.at {w : World} {base : Nat} {v : Value} {ts : List T} (h : Nodes w base v ts) (h0 : 0 < ts.length) :
    ∃ g c, v = .slice (some ⟨g, 0, none⟩) ts.length c ∧ base ≤ g ∧ g < w.heap.size ∧ ts.length ≤ c ∧ (∀ i (hi : i < ts.length), CellsAt w g (i * 7) (cellsT ts[i])) ∧ ∀ j u, (ts.flatMap cellsT)[j]? = some u → w.cell? ((⟨g, 0, none⟩ : Addr).add j) = some u := by
  have hc := fun g => h.cells (g := g)
  have hlt := h.lt
  rcases h.2 with ⟨_, h2⟩ | ⟨g, cap, cur, hv, hg, hcur, hn, _, hs, ht⟩
  · omega
  · subst hv
    refine ⟨g, cap, rfl, hg, (hlt g rfl).2, hn, fun i hi j u hj => ?_, hc g rfl⟩
    have hj7 : j < 7 := by have := (List.getElem?_eq_some_iff.1 hj).1; rw [cellsT_length] at this; exact this
    have := hc g rfl (i * 7 + j) u (by rw [flat_get ts i hi j hj7]; exact hj)
    simpa [Addr.add_mid] using this
/-- NODES APPENDED TO A ROW OF THE CALL's OWN -/
theorem wpList_append_nodes {w : World} {ops : Array Oper} {rest : List Oper} {o : Oper} {a : Act} {Q : Exit → Act → World → Prop} (hgd : o.guard = none) (s x : Operand)
    (ho : o.op = .call { callee := .builtin .append, args := #[s, x], argTypes := #[23, 23] }) (base : Nat)
    (v : Value) (ts : List T) (hs : a.eval s = v) (hown : Nodes w base v ts)
    (ad : Addr) (c m : Nat) (ls : List T) (hm : ls.length = m) (hx : a.eval x = .slice (some ad) m c) (hA : ∀ j u, (ls.flatMap cellsT)[j]? = some u → w.cell? (ad.add j) = some u) (hbd : ts.length + m ≤ 1000000) (hbase : base ≤ w.heap.size)
    (h : ∀ v' w', Nodes w' base v' (ts ++ ls) → w.grownBy w' v.ownBlock → wpList Try.prog ops Q rest (a.put o.dst v') w') : wpList Try.prog ops Q (o :: rest) a w := by
  obtain ⟨i0, hi, hz0, hz1, hz2⟩ := info_parts info27
  subst hm
  refine wpList_append_own w hgd s x 23 ho base 27 i0 (nv zero 0) 7 112 Try.underlying23 hi hz0 hz1 hz2 rfl (by decide) v ts.length (ts.flatMap cellsT) hs hown ad ls.length c (ls.flatMap cellsT) hx (flat_length ls) hA (flat_one ls) (by unfold maxLen; omega) (by omega) hbase ?_
  intro v' w' h1 h2 _
  refine h v' w' ?_ h2
  unfold Nodes; rw [List.length_append, List.flatMap_append]; exact h1
def AllOf (top : Nat) (t : T) : Prop := ∀ (w : World), top ≤ w.heap.size → Ok w top t → count t ≤ 90000 → Calls Try.prog 19 #[val t] w fun e w' => ∃ v, e = .returned v ∧ Nodes w' w.heap.size v (all t) ∧ Below w.heap.size w w'
theorem all_count_le {ks : List T} {x : Hd} (i : Nat) (h : i < ks.length) : 1 + (allL (ks.take i)).length + count ks[i] ≤ count (.mk x ks) := by
  have e : allL ks = allL (ks.take (i + 1)) ++ allL (ks.drop (i + 1)) := by rw [← allL_append, List.take_append_drop]
  rw [count_mk, e, allL_take ks i h]; unfold count; simp; omega
set_option maxHeartbeats 4000000 in
theorem all_of (top : Nat) : ∀ t, AllOf top t := by
  refine T.ind fun x ks IH => ?_
  intro w htop hok hn
  show Calls Try.prog 19 #[nv x ks.length] w _
  have hlen := hok.len
  unfold maxLen at hlen
  have HIH := Lib.hid IH; have HOK := Lib.hid hok; have HN := Lib.hid hn
  have HALL : Hid (all (.mk x ks) = .mk x ks :: allL ks) := by show _ = _; rw [all]
  clear IH hok hn
  have HB : Hid (∀ box, Below w.heap.size w (w.alloc box)) := fun box => (Below.refl _ _).alloc (Nat.le_refl _) _
  go_enter Try.func19, Try.ntmps19
  go_wp2_with fail
  have hbox := Blk.new w 27 #[vb x.kind, .slice x.na x.names.length x.nc, .slice x.ka ks.length x.kc, .slice x.da x.data.length x.dc, .bool x.run, .float .f64 x.stamp, vs x.target]
  have hB1 : Below w.heap.size w (w.alloc (.cells #[vb x.kind, .slice x.na x.names.length x.nc, .slice x.ka ks.length x.kc, .slice x.da x.data.length x.dc, .bool x.run, .float .f64 x.stamp, vs x.target] 27)) := HB.out _
  have hs1 : (w.alloc (.cells #[vb x.kind, .slice x.na x.names.length x.nc, .slice x.ka ks.length x.kc, .slice x.da x.data.length x.dc, .bool x.run, .float .f64 x.stamp, vs x.target] 27)).heap.size = w.heap.size + 1 := by simp
  generalize w.alloc (.cells #[vb x.kind, .slice x.na x.names.length x.nc, .slice x.ka ks.length x.kc, .slice x.da x.data.length x.dc, .bool x.run, .float .f64 x.stamp, vs x.target] 27) = W1 at *
  have HBOX := Lib.hid hbox; have HB1 := Lib.hid hB1
  clear hbox hB1 HB
  have h00 : Nodes (W1.alloc (.cells #[vb x.kind, .slice x.na x.names.length x.nc, .slice x.ka ks.length x.kc, .slice x.da x.data.length x.dc, .bool x.run, .float .f64 x.stamp, vs x.target] 27)) (w.heap.size + 1) (.slice (some ⟨w.heap.size + 1, 0, none⟩) 1 1) [.mk x ks] := by
    have := World.ownsRow_lit (base := w.heap.size + 1) (e := 27) (size := 7) W1 #[vb x.kind, .slice x.na x.names.length x.nc, .slice x.ka ks.length x.kc, .slice x.da x.data.length x.dc, .bool x.run, .float .f64 x.stamp, vs x.target] 1 (by omega) (by unfold maxLen; omega) rfl
    rw [hs1] at this
    exact this
  have H00 := Lib.hid h00
  clear h00
  go_loopw [3, 4] (fun vl vi wr => ∃ i : Nat, i ≤ ks.length ∧ vi = .int .i64 i ∧ Hid (Nodes wr (w.heap.size + 1) vl (.mk x ks :: allL (ks.take i)) ∧ Below (w.heap.size + 1) W1 wr)) (fun _ vi _ => ks.length - (intOf vi).toNat)
  case atStart => exact ⟨0, Nat.zero_le _, rfl, by simpa [allL] using H00.out, (Below.refl _ _).alloc (by omega) _⟩
  case round =>
    obtain ⟨i, hi, rfl, HP⟩ := hrel
    rename World => W0
    clear H00
    have hb2 := (HBOX.out.below HP.out.2 (by omega)).cell 2
    simp only [List.getElem?_cons_zero, List.getElem?_cons_succ] at hb2
    by_cases hlt : i < ks.length
    · obtain ⟨hN, hBe⟩ := HP.out
      have hbt : Below top w W0 := (HB1.out.mono htop).trans (hBe.mono (by omega))
      obtain ⟨a, oa, y, ly, hAe, hat, hy, hca⟩ := HOK.out.at.cells i hlt
      have hc := hca.same (hbt.block a hat)
      obtain ⟨a0, a1, a2, a3, a4, a5, a6⟩ := hc.seven
      have hle := all_count_le (x := x) i hlt
      have hsz : w.heap.size + 1 ≤ W0.heap.size := by have := hBe.size; omega
      have HC : Hid (Calls Try.prog 19 #[nv y ly.length] W0 fun e w' => ∃ v, e = .returned v ∧ Nodes w' W0.heap.size v (all ks[i]) ∧ Below W0.heap.size W0 w') := by
        have := HIH.out ks[i] (List.getElem_mem _) W0 (by omega) ((HOK.out.kid (List.getElem_mem hlt)).keep hbt) (by have := HN.out; omega)
        rw [hy] at this ⊢; exact this
      have HNN := Lib.hid hN; have HBE := Lib.hid hBe
      have HLE : Hid (1 + (allL (ks.take i)).length + count ks[i] ≤ 90000) := Nat.le_trans hle HN.out
      clear hN hBe hbt hc hca hle HP hat
      rw [hAe] at hb2
      clear hAe
      have HTK : Hid (T.mk x ks :: allL (ks.take i) ++ all ks[i] = T.mk x ks :: allL (ks.take (i + 1))) := by show _ = _; rw [allL_take ks i hlt]; rfl
      generalize hk : ks[i] = k at *
      clear hk hy
      go_wp2_with fail
      refine HC.out.mono ?_
      rintro e w2 ⟨v2, rfl, hn2, hb2'⟩
      have hcnt : 0 < (all k).length := count_pos k
      obtain ⟨g2, c2, rfl, hg2, hg2', hc2, -, hcells⟩ := hn2.at hcnt
      have HN2 : Hid (Nodes w2 (w.heap.size + 1) u3 (T.mk x ks :: allL (ks.take i))) :=
        HNN.out.kept (row := none) ⟨hb2'.os, hb2'.tape, hb2'.output, hb2'.size, fun k hk _ => hb2'.block k hk⟩ (by cases u3.ownBlock <;> simp)
      have HBE2 : Hid (Below (w.heap.size + 1) W1 w2) := HBE.out.trans (hb2'.mono hsz)
      have HCE := Lib.hid hcells
      have hsz2 : w.heap.size + 1 ≤ w2.heap.size := by have := hb2'.size; omega
      clear hcells hn2 hb2' HC HNN HBE hg2 hg2' hc2
      go_wp2_with (refine wpList_append_nodes rfl (.tmp 14) (.tmp 20) rfl (w.heap.size + 1) u3 (T.mk x ks :: allL (ks.take i)) rfl HN2.out ⟨g2, 0, none⟩ c2 (all k).length (all k) rfl rfl HCE.out (by have := HLE.out; unfold count at this; simp; omega) hsz2 ?_)
      intro v3 w3 hn3 hg3
      have HN3 : Hid (Nodes w3 (w.heap.size + 1) v3 (T.mk x ks :: allL (ks.take (i + 1)))) := by rw [← HTK.out]; exact hn3
      have HBE3 : Hid (Below (w.heap.size + 1) W1 w3) := HBE2.out.grown hg3 hsz2 (fun k hk => (HN2.out.lt k hk).1)
      clear hn3 hg3 HN2 HBE2 HCE
      go_wp2_with fail
      go_roundw
      case rel => exact ⟨i + 1, by omega, by go_num, HN3.out, HBE3.out⟩
      case measure => simp [intOf]; omega
    · obtain rfl : i = ks.length := by omega
      obtain ⟨hN, hBe⟩ := HP.out
      have HNN : Hid (Nodes W0 w.heap.size u3 (all (.mk x ks))) := by
        rw [HALL.out]
        rw [List.take_length] at hN
        refine ⟨hN.1, hN.2.imp id ?_⟩
        rintro ⟨g, cap, cur, h1, h2, h3⟩
        exact ⟨g, cap, cur, h1, by omega, h3⟩
      have HBE : Hid (Below w.heap.size w W0) := HB1.out.trans (hBe.mono (by omega))
      clear hN hBe HP
      go_wp2_with fail
      go_ret
      exact ⟨_, rfl, HNN.out, HBE.out⟩
def DepthOf (top : Nat) (t : T) : Prop := ∀ (w : World), top ≤ w.heap.size → Ok w top t → count t ≤ 90000 → Calls Try.prog 21 #[val t] w fun e w' => e = .returned (.int .i64 (depth t : Nat)) ∧ Below w.heap.size w w'
set_option maxHeartbeats 4000000 in
theorem rdepth_of (top : Nat) : ∀ t, DepthOf top t := by
  refine T.ind fun x ks IH => ?_
  intro w htop hok hn
  show Calls Try.prog 21 #[nv x ks.length] w _
  have hlen := hok.len
  unfold maxLen at hlen
  have HIH := Lib.hid IH; have HOK := Lib.hid hok; have HN := Lib.hid hn
  have HD : Hid (depth (.mk x ks) = depthL ks + 1) := by show _ = _; rw [depth]
  have hdep : depthL ks ≤ 90000 := by have := depth_count (.mk x ks); rw [depth] at this; omega
  clear IH hok hn
  have HB : Hid (∀ box, Below w.heap.size w (w.alloc box)) := fun box => (Below.refl _ _).alloc (Nat.le_refl _) _
  go_enter Try.func21, Try.ntmps21
  go_wp2_with fail
  have hbox := Blk.new w 27 #[vb x.kind, .slice x.na x.names.length x.nc, .slice x.ka ks.length x.kc, .slice x.da x.data.length x.dc, .bool x.run, .float .f64 x.stamp, vs x.target]
  have hB1 : Below w.heap.size w (w.alloc (.cells #[vb x.kind, .slice x.na x.names.length x.nc, .slice x.ka ks.length x.kc, .slice x.da x.data.length x.dc, .bool x.run, .float .f64 x.stamp, vs x.target] 27)) := HB.out _
  have hs1 : (w.alloc (.cells #[vb x.kind, .slice x.na x.names.length x.nc, .slice x.ka ks.length x.kc, .slice x.da x.data.length x.dc, .bool x.run, .float .f64 x.stamp, vs x.target] 27)).heap.size = w.heap.size + 1 := by simp
  generalize w.alloc (.cells #[vb x.kind, .slice x.na x.names.length x.nc, .slice x.ka ks.length x.kc, .slice x.da x.data.length x.dc, .bool x.run, .float .f64 x.stamp, vs x.target] 27) = W1 at *
  have HBOX := Lib.hid hbox; have HB1 := Lib.hid hB1
  clear hbox hB1 HB
  go_loopw [3, 4] (fun vl vi wr => ∃ i d : Nat, i ≤ ks.length ∧ vi = .int .i64 i ∧ d ≤ 90000 ∧ vl = .int .i64 d ∧ Hid (d = depthL (ks.take i)) ∧ Hid (Below (w.heap.size + 1) W1 wr)) (fun _ vi _ => ks.length - (intOf vi).toNat)
  case atStart => exact ⟨0, 0, Nat.zero_le _, rfl, by omega, rfl, Lib.hid (by simp [depthL]), Below.refl _ _⟩
  case round =>
    obtain ⟨i, d, hi, rfl, hd9, rfl, HD0, HP⟩ := hrel
    rename World => W0
    have hb2 := (HBOX.out.below HP.out (by omega)).cell 2
    simp only [List.getElem?_cons_zero, List.getElem?_cons_succ] at hb2
    by_cases hlt : i < ks.length
    · have hBe := HP.out
      have hbt : Below top w W0 := (HB1.out.mono htop).trans (hBe.mono (by omega))
      obtain ⟨a, oa, y, ly, hAe, hat, hy, hca⟩ := HOK.out.at.cells i hlt
      have hc := hca.same (hbt.block a hat)
      obtain ⟨a0, a1, a2, a3, a4, a5, a6⟩ := hc.seven
      have hle := all_count_le (x := x) i hlt
      have hsz : w.heap.size + 1 ≤ W0.heap.size := by have := hBe.size; omega
      have HC : Hid (Calls Try.prog 21 #[nv y ly.length] W0 fun e w' => e = .returned (.int .i64 (depth ks[i] : Nat)) ∧ Below W0.heap.size W0 w') := by
        have := HIH.out ks[i] (List.getElem_mem _) W0 (by omega) ((HOK.out.kid (List.getElem_mem hlt)).keep hbt) (by have := HN.out; omega)
        rw [hy] at this ⊢; exact this
      have HBE := Lib.hid hBe
      have hdk : depth ks[i] ≤ 90000 := Nat.le_trans (depth_mem (List.getElem_mem hlt)) hdep
      clear hBe hbt hc hca hle HP hat
      rw [hAe] at hb2
      clear hAe
      have HTK : Hid (depthL (ks.take (i + 1)) = max d (depth ks[i])) := by show _ = _; rw [depth_take ks i hlt, HD0.out]
      clear HD0
      generalize hk : depth ks[i] = dk at *
      clear hk hy
      go_wp2_with fail
      refine HC.out.mono ?_
      rintro e w2 ⟨rfl, hb2'⟩
      have HBE2 : Hid (Below (w.heap.size + 1) W1 w2) := HBE.out.trans (hb2'.mono hsz)
      clear hb2' HC HBE
      by_cases hdd : d < dk
      · have hdd' : (d : Int) < dk := by omega
        have HM : Hid (dk = depthL (ks.take (i + 1))) := by show _ = _; rw [HTK.out]; omega
        go_wp2_with fail
        go_roundw
        case rel => exact ⟨i + 1, dk, by omega, by go_num, by omega, rfl, HM.out, HBE2.out⟩
        case measure => simp [intOf]; omega
      · have hdd' : ¬ (d : Int) < dk := by omega
        have HM : Hid (d = depthL (ks.take (i + 1))) := by show _ = _; rw [HTK.out]; omega
        go_wp2_with fail
        go_roundw
        case rel => exact ⟨i + 1, d, by omega, by go_num, by omega, rfl, HM.out, HBE2.out⟩
        case measure => simp [intOf]; omega
    · obtain rfl : i = ks.length := by omega
      have HBE : Hid (Below w.heap.size w W0) := HB1.out.trans (HP.out.mono (by omega))
      rw [List.take_length] at HD0
      clear HP
      go_wp2_with fail
      go_ret
      exact ⟨ret_int (by rw [HD.out, ← HD0.out]; omega), HBE.out⟩
end Go.Proofs.Ytlehgacbcacokaa
