/- The contracts of the program's Same and of slices.EqualFunc, which call each other. -/
import Derived.Test.YtlehgacbcacokaaG4
namespace Go.Proofs.Ytlehgacbcacokaa
open Go.RowKit TreeMath RealMath

theorem below_node {B : Nat} {a w : World} (h : Below B a w) (hB : B ≤ w.heap.size) (o : Obj) (g : Nat) (hg : g = w.heap.size) (v0 v1 v2 v3 v4 v5 v6 : Value) :
    Below B a ((((((((w.alloc o).setCell ⟨g, 0, none⟩ v0).setCell ⟨g, 1, none⟩ v1).setCell ⟨g, 2, none⟩ v2).setCell ⟨g, 3, none⟩ v3).setCell ⟨g, 4, none⟩ v4).setCell ⟨g, 5, none⟩ v5).setCell ⟨g, 6, none⟩ v6) := by
  subst hg
  exact ((((((((h.alloc hB o).setCell (by exact hB) _).setCell (by exact hB) _).setCell (by exact hB) _).setCell (by exact hB) _).setCell (by exact hB) _).setCell (by exact hB) _).setCell (by exact hB) _)
theorem KidsAt.cells {w : World} {top : Nat} {A : Option Addr} {ks : List T} (h : KidsAt w top A ks) (i : Nat) (hi : i < ks.length) : ∃ b o x l, A = some ⟨b, o, none⟩ ∧ b < top ∧ ks[i] = .mk x l ∧ CellsAt w b (o + i * 7) (cellsOf x l.length) := by
  obtain ⟨b, o, e, hb, hc⟩ := h (by omega)
  have := hc i hi
  cases hk : ks[i] with
  | mk x l => rw [hk] at this; exact ⟨b, o, x, l, e, hb, rfl, this⟩
theorem CellsAt.seven {w : World} {b o n : Nat} {x : Hd} (h : CellsAt w b o (cellsOf x n)) :
    w.cell? ⟨b, o, none⟩ = some (vb x.kind) ∧ w.cell? ⟨b, o + 1, none⟩ = some (.slice x.na x.names.length x.nc) ∧ w.cell? ⟨b, o + 2, none⟩ = some (.slice x.ka n x.kc) ∧ w.cell? ⟨b, o + 3, none⟩ = some (.slice x.da x.data.length x.dc) ∧
    w.cell? ⟨b, o + 4, none⟩ = some (.bool x.run) ∧ w.cell? ⟨b, o + 5, none⟩ = some (.float .f64 x.stamp) ∧ w.cell? ⟨b, o + 6, none⟩ = some (vs x.target) :=
  ⟨h 0 _ rfl, h 1 _ rfl, h 2 _ rfl, h 3 _ rfl, h 4 _ rfl, h 5 _ rfl, h 6 _ rfl⟩
def SameOf (top : Nat) (k : T) : Prop := ∀ (b : T) (w : World), top ≤ w.heap.size → Ok w top k → Ok w top b → Calls Try.prog 26 #[val k, val b] w fun e w' => e = .returned (.bool (same k b)) ∧ Below w.heap.size w w'
set_option maxHeartbeats 4000000 in
theorem eqfunc_any (ks ls : List T) (A B : Option Addr) (ca cb top : Nat) (hl : ks.length ≤ maxLen) (hm : ls.length ≤ maxLen) (IH : ∀ k ∈ ks, SameOf top k) (w : World) (htop : top ≤ w.heap.size)
    (hA : KidsAt w top A ks) (hB : KidsAt w top B ls) (hks : ∀ k ∈ ks, Ok w top k) (hls : ∀ k ∈ ls, Ok w top k) :
    Calls Try.prog 59 #[.slice A ks.length ca, .slice B ls.length cb, .func (.func 26) #[] #[]] w fun e w' => e = .returned (.bool (sameL ks ls)) ∧ Below w.heap.size w w' := by
  have HA := Lib.hid hA; have HB := Lib.hid hB; have HIH := Lib.hid IH; have HK := Lib.hid hks; have HL := Lib.hid hls
  clear hA hB IH hks hls
  unfold maxLen at hl hm
  by_cases hlen : ks.length = ls.length
  · generalize hn : ks.length = n at *
    generalize hn' : ls.length = n' at *
    subst hlen
    go_enter Try.func59, Try.ntmps59
    go_wp2_with fail
    go_loopw [17] (fun vi wr => ∃ k : Nat, k ≤ n ∧ vi = .int .i64 k ∧ Hid (∀ j (h1 : j < ks.length) (h2 : j < ls.length), j < k → same ks[j] ls[j] = true) ∧ Hid (Below w.heap.size w wr)) (fun vi _ => n - (intOf vi).toNat)
    case atStart => exact ⟨0, Nat.zero_le _, rfl, fun j h1 h2 h3 => by omega, Below.refl _ _⟩
    case round =>
      obtain ⟨k, hk, rfl, HE, HR⟩ := hrel
      rename World => W0
      by_cases hlt : k < n
      · obtain ⟨a, oa, x, lx, rfl, hat, hx, hca⟩ := HA.out.cells k (by omega)
        obtain ⟨b, ob, y, ly, rfl, hbt, hy, hcb⟩ := HB.out.cells k (by omega)
        have ha := hca.same (HR.out.block a (by omega)); have hb := hcb.same (HR.out.block b (by omega))
        obtain ⟨a0, a1, a2, a3, a4, a5, a6⟩ := ha.seven
        obtain ⟨b0, b1, b2, b3, b4, b5, b6⟩ := hb.seven
        have hbW : b < W0.heap.size := by have := HR.out.size; omega
        clear ha hb hca hcb
        have HS : Hid (∀ W : World, Below w.heap.size w W → Calls Try.prog 26 #[nv x lx.length, nv y ly.length] W fun e w' => e = .returned (.bool (same (ks[k]'(by omega)) (ls[k]'(by omega)))) ∧ Below W.heap.size W w') := fun W hW => by
          have := HIH.out (ks[k]'(by omega)) (List.getElem_mem _) (ls[k]'(by omega)) W (by have := hW.size; omega) ((HK.out _ (List.getElem_mem _)).keep (hW.mono htop)) ((HL.out _ (List.getElem_mem _)).keep (hW.mono htop))
          rw [hx, hy] at this ⊢; exact this
        have HNE : Hid (same (ks[k]'(by omega)) (ls[k]'(by omega)) = false → sameL ks ls = false) := fun h => sameL_not k (by omega) (by omega) h
        have HEQ : Hid (same (ks[k]'(by omega)) (ls[k]'(by omega)) = true → ∀ j (h1 : j < ks.length) (h2 : j < ls.length), j < k + 1 → same ks[j] ls[j] = true) := fun h j h1 h2 h3 => by
          by_cases e : j = k
          · subst e; exact h
          · exact HE.out j h1 h2 (by omega)
        have hs0 := HR.out.size
        clear HE HA HB HIH HK HL
        generalize same (ks[k]'(by omega)) (ls[k]'(by omega)) = sb at *
        clear hx hy
        go_wp2_with fail
        refine (HS.out _ ((HR.out.alloc hs0 _).alloc (by simp; omega) _)).mono ?_
        rintro e w1 ⟨rfl, hb1⟩
        have HB1 : Hid (Below w.heap.size w w1) := ((HR.out.alloc hs0 _).alloc (by simp; omega) _).trans (hb1.mono (by simp; omega))
        clear hb1 HS HR
        cases sb with
        | true =>
          have HEQ' := Lib.hid (HEQ.out rfl)
          clear HNE HEQ
          go_wp2_with fail
          go_roundw
          case rel => exact ⟨k + 1, by omega, by go_num, HEQ'.out, HB1.out⟩
          case measure => simp [intOf]; omega
        | false =>
          have HF := Lib.hid (HNE.out rfl)
          clear HNE HEQ
          go_wp2_with fail
          go_ret
          exact ⟨by rw [HF.out]; rfl, HB1.out⟩
      · have HT : Hid (sameL ks ls = true) := sameL_get (by omega) (fun j h1 h2 => HE.out j h1 h2 (by omega))
        obtain rfl : k = n := by omega
        clear HE
        go_wp2_with fail
        go_ret
        exact ⟨by rw [HT.out]; rfl, HR.out⟩
  · have HF : Hid (sameL ks ls = false) := sameL_ne hlen
    have hb : ((ks.length : Int) == (ls.length : Int)) = false := by rw [beq_eq_false_iff_ne]; omega
    have hb' : (ks.length == ls.length) = false := by rw [beq_eq_false_iff_ne]; omega
    clear hlen
    go_enter Try.func59, Try.ntmps59
    go_wp2_with fail
    go_ret
    exact ⟨by rw [HF.out]; rfl, Below.refl _ _⟩
set_option maxHeartbeats 4000000 in
theorem same_of (top : Nat) : ∀ a, SameOf top a := by
  refine T.ind fun x ks IH => ?_
  rintro ⟨y, ls⟩ w htop ha hb
  show Calls Try.prog 26 #[nv x ks.length, nv y ls.length] w _
  have hx := ha.hd; have hy := hb.hd
  have hcx := hx.stamp; have hcy := hy.stamp
  have HX := Lib.hid hx; have HY := Lib.hid hy; have HA := Lib.hid ha; have HB := Lib.hid hb; have HIH := Lib.hid IH
  clear hx hy ha hb IH
  by_cases h1 : x.kind = y.kind
  · have e1 : ((x.kind.toNat : Int) == (y.kind.toNat : Int)) = true := by rw [vb_eq]; exact decide_eq_true h1
    by_cases h2 : x.run = y.run
    · have e2 : (x.run == y.run) = true := by simp [h2]
      by_cases h3 : x.target = y.target
      · have e3 : (x.target == y.target) = true := by simp [h3]
        have HEQ : Hid (same (.mk x ks) (.mk y ls) = (decide (canonB x.stamp = canonB y.stamp) && decide (x.data = y.data) && decide (x.names = y.names) && sameL ks ls)) := by
          show _ = _; rw [same, hdSame, decide_eq_true h1, decide_eq_true h2, decide_eq_true h3]; rfl
        clear h1 h2 h3
        go_enter Try.func26, Try.ntmps26
        go_wp2_with fail
        refine (rsame_any x.stamp y.stamp hcx hcy _).mono ?_
        rintro e w1 ⟨rfl, rfl⟩
        cases hc4 : decide (canonB x.stamp = canonB y.stamp) with
        | false =>
          rw [hc4] at HEQ
          clear hc4
          go_wp2_with fail
          go_ret
          exact ⟨by rw [HEQ.out]; rfl, (Below.refl _ _).alloc (Nat.le_refl _) _ |>.alloc (by simp) _⟩
        | true =>
          rw [hc4] at HEQ
          clear hc4
          go_wp2_with fail
          refine (equal_any x.da y.da x.dc y.dc x.data y.data _ (HX.out.dsrc.below ((Below.refl _ _).alloc (Nat.le_refl _) _ |>.alloc (by simp) _)) (HY.out.dsrc.below ((Below.refl _ _).alloc (Nat.le_refl _) _ |>.alloc (by simp) _))).mono ?_
          rintro e w1 ⟨rfl, rfl⟩
          cases hc5 : decide (x.data = y.data) with
          | false =>
            rw [hc5] at HEQ
            clear hc5
            go_wp2_with fail
            go_ret
            exact ⟨by rw [HEQ.out]; rfl, (Below.refl _ _).alloc (Nat.le_refl _) _ |>.alloc (by simp) _⟩
          | true =>
            rw [hc5] at HEQ
            clear hc5
            go_wp2_with fail
            refine (sequal_any x.na y.na x.nc y.nc x.names y.names HX.out.nlen HY.out.nlen _ (HX.out.nsrc.below ((Below.refl _ _).alloc (Nat.le_refl _) _ |>.alloc (by simp) _) HX.out.nsrc.lt) (HY.out.nsrc.below ((Below.refl _ _).alloc (Nat.le_refl _) _ |>.alloc (by simp) _) HY.out.nsrc.lt)).mono ?_
            rintro e w1 ⟨rfl, q, rfl⟩
            cases hc6 : decide (x.names = y.names) with
            | false =>
              rw [hc6] at HEQ
              clear hc6
              go_wp2_with fail
              go_ret
              exact ⟨by rw [HEQ.out]; rfl, below_drewN ((Below.refl _ _).alloc (Nat.le_refl _) _ |>.alloc (by simp) _) _⟩
            | true =>
              rw [hc6] at HEQ
              clear hc6
              go_wp2_with fail
              have hB : Below w.heap.size w (((w.alloc (.cells #[vb x.kind, .slice x.na x.names.length x.nc, .slice x.ka ks.length x.kc, .slice x.da x.data.length x.dc, .bool x.run, .float .f64 x.stamp, vs x.target] 27)).alloc (.cells #[vb y.kind, .slice y.na y.names.length y.nc, .slice y.ka ls.length y.kc, .slice y.da y.data.length y.dc, .bool y.run, .float .f64 y.stamp, vs y.target] 27)).drewN q) :=
                below_drewN ((Below.refl _ _).alloc (Nat.le_refl _) _ |>.alloc (by simp) _) _
              refine (eqfunc_any ks ls x.ka y.ka x.kc y.kc top HA.out.len HB.out.len HIH.out _ (Nat.le_trans htop hB.size) (HA.out.at.below (hB.mono htop)) (HB.out.at.below (hB.mono htop)) (fun k hk => (HA.out.kid hk).keep (hB.mono htop)) (fun k hk => (HB.out.kid hk).keep (hB.mono htop))).mono ?_
              rintro e w1 ⟨rfl, hb1⟩
              have HB1 : Hid (Below w.heap.size w w1) := hB.trans (hb1.mono hB.size)
              clear hb1 hB
              generalize sameL ks ls = sb at *
              go_wp2_with fail
              go_ret
              exact ⟨by rw [HEQ.out]; rfl, HB1.out⟩
      · have e3 : (x.target == y.target) = false := by rw [list_beq]; exact decide_eq_false h3
        have HEQ : Hid (same (.mk x ks) (.mk y ls) = false) := by
          show _ = _; rw [same, hdSame, decide_eq_false h3]; simp
        clear h1 h2 h3
        go_enter Try.func26, Try.ntmps26
        go_wp2_with fail
        go_ret
        exact ⟨by rw [HEQ.out]; rfl, (Below.refl _ _).alloc (Nat.le_refl _) _ |>.alloc (by simp) _⟩
    · have e2 : (x.run == y.run) = false := by simp [h2]
      have HEQ : Hid (same (.mk x ks) (.mk y ls) = false) := by
        show _ = _; rw [same, hdSame, decide_eq_false h2]; simp
      clear h1 h2
      go_enter Try.func26, Try.ntmps26
      go_wp2_with fail
      go_ret
      exact ⟨by rw [HEQ.out]; rfl, (Below.refl _ _).alloc (Nat.le_refl _) _ |>.alloc (by simp) _⟩
  · have e1 : ((x.kind.toNat : Int) == (y.kind.toNat : Int)) = false := by rw [vb_eq]; exact decide_eq_false h1
    have HEQ : Hid (same (.mk x ks) (.mk y ls) = false) := by
      show _ = _; rw [same, hdSame, decide_eq_false h1]; rfl
    go_enter Try.func26, Try.ntmps26
    go_wp2_with fail
    go_ret
    exact ⟨by rw [HEQ.out]; rfl, (Below.refl _ _).alloc (Nat.le_refl _) _ |>.alloc (by simp) _⟩
end Go.Proofs.Ytlehgacbcacokaa

/- The contracts of the reference's All, Depth and Size. -/
namespace Go.Proofs.Ytlehgacbcacokaa
open Go.RowKit TreeMath RealMath

theorem info27 : (Try.prog.info? 27).map (fun i => (i.zero, i.size, i.bytes)) = some (some (nv zero 0), 7, 112) := by kernel_rfl
/-- a row of nodes of the call's own -/
def Nodes (w : World) (base : Nat) (v : Value) (ts : List T) : Prop := w.ownsRow base 27 7 v ts.length (ts.flatMap cellsT)
theorem cellsT_length (t : T) : (cellsT t).length = 7 := by cases t; rfl
theorem flat_length : ∀ ts : List T, (ts.flatMap cellsT).length = ts.length * 7
  | [] => rfl
  | t :: l => by rw [List.flatMap_cons, List.length_append, flat_length l, cellsT_length]; simp; omega
theorem cellsT_one (t : T) : ∀ u ∈ cellsT t, u.oneCell' = true := by
  cases t with
  | mk x ks => intro u hu; simp [cellsT, cellsOf] at hu; rcases hu with h | h | h | h | h | h | h <;> subst h <;> rfl
theorem flat_one (ts : List T) : ∀ u ∈ ts.flatMap cellsT, u.oneCell' = true := by
  intro u hu
  obtain ⟨t, _, h⟩ := List.mem_flatMap.1 hu
  exact cellsT_one t u h
theorem flat_get : ∀ (ts : List T) (i : Nat) (h : i < ts.length) (j : Nat) (_ : j < 7), (ts.flatMap cellsT)[i * 7 + j]? = (cellsT ts[i])[j]?
  | t :: l, 0, _, j, hj => by rw [List.flatMap_cons, List.getElem?_append_left (by rw [cellsT_length]; omega)]; simp
  | t :: l, i + 1, h, j, hj => by
    rw [List.flatMap_cons, List.getElem?_append_right (by rw [cellsT_length]; omega), cellsT_length, show (i + 1) * 7 + j - 7 = i * 7 + j by omega, flat_get l i (by simpa using h) j hj]; rfl
theorem Nodes.at {w : World} {base : Nat} {v : Value} {ts : List T} (h : Nodes w base v ts) (h0 : 0 < ts.length) :
    ∃ g c, v = .slice (some ⟨g, 0, none⟩) ts.length c ∧ base ≤ g ∧ g < w.heap.size ∧ ts.length ≤ c ∧ (∀ i (hi : i < ts.length), CellsAt w g (i * 7) (cellsT ts[i])) ∧ ∀ j u, (ts.flatMap cellsT)[j]? = some u → w.cell? ((⟨g, 0, none⟩ : Addr).add j) = some u := by
  have hc := fun g => h.cells (g := g)
  have hlt := h.lt
  rcases h.2 with ⟨_, h2⟩ | ⟨g, cap, cur, hv, hg, hcur, hn, _, hs, ht⟩
  · omega
  · subst hv
    refine ⟨g, cap, rfl, hg, (hlt g rfl).2, hn, fun i hi j u hj => ?_, hc g rfl⟩
    have hj7 : j < 7 := by have := (List.getElem?_eq_some_iff.1 hj).1; rw [cellsT_length] at this; exact this
    have := hc g rfl (i * 7 + j) u (by rw [flat_get ts i hi j hj7]; exact hj)
    simpa [Addr.add_mid] using this
/-- NODES APPENDED TO A ROW OF THE CALL's OWN -/
theorem wpList_append_nodes {w : World} {ops : Array Oper} {rest : List Oper} {o : Oper} {a : Act} {Q : Exit → Act → World → Prop} (hgd : o.guard = none) (s x : Operand)
    (ho : o.op = .call { callee := .builtin .append, args := #[s, x], argTypes := #[23, 23] }) (base : Nat)
    (v : Value) (ts : List T) (hs : a.eval s = v) (hown : Nodes w base v ts)
    (ad : Addr) (c m : Nat) (ls : List T) (hm : ls.length = m) (hx : a.eval x = .slice (some ad) m c) (hA : ∀ j u, (ls.flatMap cellsT)[j]? = some u → w.cell? (ad.add j) = some u) (hbd : ts.length + m ≤ 1000000) (hbase : base ≤ w.heap.size)
    (h : ∀ v' w', Nodes w' base v' (ts ++ ls) → w.grownBy w' v.ownBlock → wpList Try.prog ops Q rest (a.put o.dst v') w') : wpList Try.prog ops Q (o :: rest) a w := by
  obtain ⟨i0, hi, hz0, hz1, hz2⟩ := info_parts info27
  subst hm
  refine wpList_append_own w hgd s x 23 ho base 27 i0 (nv zero 0) 7 112 Try.underlying23 hi hz0 hz1 hz2 rfl (by decide) v ts.length (ts.flatMap cellsT) hs hown ad ls.length c (ls.flatMap cellsT) hx (flat_length ls) hA (flat_one ls) (by unfold maxLen; omega) (by omega) hbase ?_
  intro v' w' h1 h2 _
  refine h v' w' ?_ h2
  unfold Nodes; rw [List.length_append, List.flatMap_append]; exact h1
def AllOf (top : Nat) (t : T) : Prop := ∀ (w : World), top ≤ w.heap.size → Ok w top t → count t ≤ 90000 → Calls Try.prog 19 #[val t] w fun e w' => ∃ v, e = .returned v ∧ Nodes w' w.heap.size v (all t) ∧ Below w.heap.size w w'
theorem all_count_le {ks : List T} {x : Hd} (i : Nat) (h : i < ks.length) : 1 + (allL (ks.take i)).length + count ks[i] ≤ count (.mk x ks) := by
  have e : allL ks = allL (ks.take (i + 1)) ++ allL (ks.drop (i + 1)) := by rw [← allL_append, List.take_append_drop]
  rw [count_mk, e, allL_take ks i h]; unfold count; simp; omega
set_option maxHeartbeats 4000000 in
theorem all_of (top : Nat) : ∀ t, AllOf top t := by
  refine T.ind fun x ks IH => ?_
  intro w htop hok hn
  show Calls Try.prog 19 #[nv x ks.length] w _
  have hlen := hok.len
  unfold maxLen at hlen
  have HIH := Lib.hid IH; have HOK := Lib.hid hok; have HN := Lib.hid hn
  have HALL : Hid (all (.mk x ks) = .mk x ks :: allL ks) := by show _ = _; rw [all]
  clear IH hok hn
  have HB : Hid (∀ box, Below w.heap.size w (w.alloc box)) := fun box => (Below.refl _ _).alloc (Nat.le_refl _) _
  go_enter Try.func19, Try.ntmps19
  go_wp2_with fail
  have hbox := Blk.new w 27 #[vb x.kind, .slice x.na x.names.length x.nc, .slice x.ka ks.length x.kc, .slice x.da x.data.length x.dc, .bool x.run, .float .f64 x.stamp, vs x.target]
  have hB1 : Below w.heap.size w (w.alloc (.cells #[vb x.kind, .slice x.na x.names.length x.nc, .slice x.ka ks.length x.kc, .slice x.da x.data.length x.dc, .bool x.run, .float .f64 x.stamp, vs x.target] 27)) := HB.out _
  have hs1 : (w.alloc (.cells #[vb x.kind, .slice x.na x.names.length x.nc, .slice x.ka ks.length x.kc, .slice x.da x.data.length x.dc, .bool x.run, .float .f64 x.stamp, vs x.target] 27)).heap.size = w.heap.size + 1 := by simp
  generalize w.alloc (.cells #[vb x.kind, .slice x.na x.names.length x.nc, .slice x.ka ks.length x.kc, .slice x.da x.data.length x.dc, .bool x.run, .float .f64 x.stamp, vs x.target] 27) = W1 at *
  have HBOX := Lib.hid hbox; have HB1 := Lib.hid hB1
  clear hbox hB1 HB
  have h00 : Nodes (W1.alloc (.cells #[vb x.kind, .slice x.na x.names.length x.nc, .slice x.ka ks.length x.kc, .slice x.da x.data.length x.dc, .bool x.run, .float .f64 x.stamp, vs x.target] 27)) (w.heap.size + 1) (.slice (some ⟨w.heap.size + 1, 0, none⟩) 1 1) [.mk x ks] := by
    have := World.ownsRow_lit (base := w.heap.size + 1) (e := 27) (size := 7) W1 #[vb x.kind, .slice x.na x.names.length x.nc, .slice x.ka ks.length x.kc, .slice x.da x.data.length x.dc, .bool x.run, .float .f64 x.stamp, vs x.target] 1 (by omega) (by unfold maxLen; omega) rfl
    rw [hs1] at this
    exact this
  have H00 := Lib.hid h00
  clear h00
  go_loopw [3, 4] (fun vl vi wr => ∃ i : Nat, i ≤ ks.length ∧ vi = .int .i64 i ∧ Hid (Nodes wr (w.heap.size + 1) vl (.mk x ks :: allL (ks.take i)) ∧ Below (w.heap.size + 1) W1 wr)) (fun _ vi _ => ks.length - (intOf vi).toNat)
  case atStart => exact ⟨0, Nat.zero_le _, rfl, by simpa [allL] using H00.out, (Below.refl _ _).alloc (by omega) _⟩
  case round =>
    obtain ⟨i, hi, rfl, HP⟩ := hrel
    rename World => W0
    clear H00
    have hb2 := (HBOX.out.below HP.out.2 (by omega)).cell 2
    simp only [List.getElem?_cons_zero, List.getElem?_cons_succ] at hb2
    by_cases hlt : i < ks.length
    · obtain ⟨hN, hBe⟩ := HP.out
      have hbt : Below top w W0 := (HB1.out.mono htop).trans (hBe.mono (by omega))
      obtain ⟨a, oa, y, ly, hAe, hat, hy, hca⟩ := HOK.out.at.cells i hlt
      have hc := hca.same (hbt.block a hat)
      obtain ⟨a0, a1, a2, a3, a4, a5, a6⟩ := hc.seven
      have hle := all_count_le (x := x) i hlt
      have hsz : w.heap.size + 1 ≤ W0.heap.size := by have := hBe.size; omega
      have HC : Hid (Calls Try.prog 19 #[nv y ly.length] W0 fun e w' => ∃ v, e = .returned v ∧ Nodes w' W0.heap.size v (all ks[i]) ∧ Below W0.heap.size W0 w') := by
        have := HIH.out ks[i] (List.getElem_mem _) W0 (by omega) ((HOK.out.kid (List.getElem_mem hlt)).keep hbt) (by have := HN.out; omega)
        rw [hy] at this ⊢; exact this
      have HNN := Lib.hid hN; have HBE := Lib.hid hBe
      have HLE : Hid (1 + (allL (ks.take i)).length + count ks[i] ≤ 90000) := Nat.le_trans hle HN.out
      clear hN hBe hbt hc hca hle HP hat
      rw [hAe] at hb2
      clear hAe
      have HTK : Hid (T.mk x ks :: allL (ks.take i) ++ all ks[i] = T.mk x ks :: allL (ks.take (i + 1))) := by show _ = _; rw [allL_take ks i hlt]; rfl
      generalize hk : ks[i] = k at *
      clear hk hy
      go_wp2_with fail
      refine HC.out.mono ?_
      rintro e w2 ⟨v2, rfl, hn2, hb2'⟩
      have hcnt : 0 < (all k).length := count_pos k
      obtain ⟨g2, c2, rfl, hg2, hg2', hc2, -, hcells⟩ := hn2.at hcnt
      have HN2 : Hid (Nodes w2 (w.heap.size + 1) u3 (T.mk x ks :: allL (ks.take i))) :=
        HNN.out.kept (row := none) ⟨hb2'.os, hb2'.tape, hb2'.output, hb2'.size, fun k hk _ => hb2'.block k hk⟩ (by cases u3.ownBlock <;> simp)
      have HBE2 : Hid (Below (w.heap.size + 1) W1 w2) := HBE.out.trans (hb2'.mono hsz)
      have HCE := Lib.hid hcells
      have hsz2 : w.heap.size + 1 ≤ w2.heap.size := by have := hb2'.size; omega
      clear hcells hn2 hb2' HC HNN HBE hg2 hg2' hc2
      go_wp2_with (refine wpList_append_nodes rfl (.tmp 14) (.tmp 20) rfl (w.heap.size + 1) u3 (T.mk x ks :: allL (ks.take i)) rfl HN2.out ⟨g2, 0, none⟩ c2 (all k).length (all k) rfl rfl HCE.out (by have := HLE.out; unfold count at this; simp; omega) hsz2 ?_)
      intro v3 w3 hn3 hg3
      have HN3 : Hid (Nodes w3 (w.heap.size + 1) v3 (T.mk x ks :: allL (ks.take (i + 1)))) := by rw [← HTK.out]; exact hn3
      have HBE3 : Hid (Below (w.heap.size + 1) W1 w3) := HBE2.out.grown hg3 hsz2 (fun k hk => (HN2.out.lt k hk).1)
      clear hn3 hg3 HN2 HBE2 HCE
      go_wp2_with fail
      go_roundw
      case rel => exact ⟨i + 1, by omega, by go_num, HN3.out, HBE3.out⟩
      case measure => simp [intOf]; omega
    · obtain rfl : i = ks.length := by omega
      obtain ⟨hN, hBe⟩ := HP.out
      have HNN : Hid (Nodes W0 w.heap.size u3 (all (.mk x ks))) := by
        rw [HALL.out]
        rw [List.take_length] at hN
        refine ⟨hN.1, hN.2.imp id ?_⟩
        rintro ⟨g, cap, cur, h1, h2, h3⟩
        exact ⟨g, cap, cur, h1, by omega, h3⟩
      have HBE : Hid (Below w.heap.size w W0) := HB1.out.trans (hBe.mono (by omega))
      clear hN hBe HP
      go_wp2_with fail
      go_ret
      exact ⟨_, rfl, HNN.out, HBE.out⟩
def DepthOf (top : Nat) (t : T) : Prop := ∀ (w : World), top ≤ w.heap.size → Ok w top t → count t ≤ 90000 → Calls Try.prog 21 #[val t] w fun e w' => e = .returned (.int .i64 (depth t : Nat)) ∧ Below w.heap.size w w'
set_option maxHeartbeats 4000000 in
theorem rdepth_of (top : Nat) : ∀ t, DepthOf top t := by
  refine T.ind fun x ks IH => ?_
  intro w htop hok hn
  show Calls Try.prog 21 #[nv x ks.length] w _
  have hlen := hok.len
  unfold maxLen at hlen
  have HIH := Lib.hid IH; have HOK := Lib.hid hok; have HN := Lib.hid hn
  have HD : Hid (depth (.mk x ks) = depthL ks + 1) := by show _ = _; rw [depth]
  have hdep : depthL ks ≤ 90000 := by have := depth_count (.mk x ks); rw [depth] at this; omega
  clear IH hok hn
  have HB : Hid (∀ box, Below w.heap.size w (w.alloc box)) := fun box => (Below.refl _ _).alloc (Nat.le_refl _) _
  go_enter Try.func21, Try.ntmps21
  go_wp2_with fail
  have hbox := Blk.new w 27 #[vb x.kind, .slice x.na x.names.length x.nc, .slice x.ka ks.length x.kc, .slice x.da x.data.length x.dc, .bool x.run, .float .f64 x.stamp, vs x.target]
  have hB1 : Below w.heap.size w (w.alloc (.cells #[vb x.kind, .slice x.na x.names.length x.nc, .slice x.ka ks.length x.kc, .slice x.da x.data.length x.dc, .bool x.run, .float .f64 x.stamp, vs x.target] 27)) := HB.out _
  have hs1 : (w.alloc (.cells #[vb x.kind, .slice x.na x.names.length x.nc, .slice x.ka ks.length x.kc, .slice x.da x.data.length x.dc, .bool x.run, .float .f64 x.stamp, vs x.target] 27)).heap.size = w.heap.size + 1 := by simp
  generalize w.alloc (.cells #[vb x.kind, .slice x.na x.names.length x.nc, .slice x.ka ks.length x.kc, .slice x.da x.data.length x.dc, .bool x.run, .float .f64 x.stamp, vs x.target] 27) = W1 at *
  have HBOX := Lib.hid hbox; have HB1 := Lib.hid hB1
  clear hbox hB1 HB
  go_loopw [3, 4] (fun vl vi wr => ∃ i d : Nat, i ≤ ks.length ∧ vi = .int .i64 i ∧ d ≤ 90000 ∧ vl = .int .i64 d ∧ Hid (d = depthL (ks.take i)) ∧ Hid (Below (w.heap.size + 1) W1 wr)) (fun _ vi _ => ks.length - (intOf vi).toNat)
  case atStart => exact ⟨0, 0, Nat.zero_le _, rfl, by omega, rfl, Lib.hid (by simp [depthL]), Below.refl _ _⟩
  case round =>
    obtain ⟨i, d, hi, rfl, hd9, rfl, HD0, HP⟩ := hrel
    rename World => W0
    have hb2 := (HBOX.out.below HP.out (by omega)).cell 2
    simp only [List.getElem?_cons_zero, List.getElem?_cons_succ] at hb2
    by_cases hlt : i < ks.length
    · have hBe := HP.out
      have hbt : Below top w W0 := (HB1.out.mono htop).trans (hBe.mono (by omega))
      obtain ⟨a, oa, y, ly, hAe, hat, hy, hca⟩ := HOK.out.at.cells i hlt
      have hc := hca.same (hbt.block a hat)
      obtain ⟨a0, a1, a2, a3, a4, a5, a6⟩ := hc.seven
      have hle := all_count_le (x := x) i hlt
      have hsz : w.heap.size + 1 ≤ W0.heap.size := by have := hBe.size; omega
      have HC : Hid (Calls Try.prog 21 #[nv y ly.length] W0 fun e w' => e = .returned (.int .i64 (depth ks[i] : Nat)) ∧ Below W0.heap.size W0 w') := by
        have := HIH.out ks[i] (List.getElem_mem _) W0 (by omega) ((HOK.out.kid (List.getElem_mem hlt)).keep hbt) (by have := HN.out; omega)
        rw [hy] at this ⊢; exact this
      have HBE := Lib.hid hBe
      have hdk : depth ks[i] ≤ 90000 := Nat.le_trans (depth_mem (List.getElem_mem hlt)) hdep
      clear hBe hbt hc hca hle HP hat
      rw [hAe] at hb2
      clear hAe
      have HTK : Hid (depthL (ks.take (i + 1)) = max d (depth ks[i])) := by show _ = _; rw [depth_take ks i hlt, HD0.out]
      clear HD0
      generalize hk : depth ks[i] = dk at *
      clear hk hy
      go_wp2_with fail
      refine HC.out.mono ?_
      rintro e w2 ⟨rfl, hb2'⟩
      have HBE2 : Hid (Below (w.heap.size + 1) W1 w2) := HBE.out.trans (hb2'.mono hsz)
      clear hb2' HC HBE
      by_cases hdd : d < dk
      · have hdd' : (d : Int) < dk := by omega
        have HM : Hid (dk = depthL (ks.take (i + 1))) := by show _ = _; rw [HTK.out]; omega
        go_wp2_with fail
        go_roundw
        case rel => exact ⟨i + 1, dk, by omega, by go_num, by omega, rfl, HM.out, HBE2.out⟩
        case measure => simp [intOf]; omega
      · have hdd' : ¬ (d : Int) < dk := by omega
        have HM : Hid (d = depthL (ks.take (i + 1))) := by show _ = _; rw [HTK.out]; omega
        go_wp2_with fail
        go_roundw
        case rel => exact ⟨i + 1, d, by omega, by go_num, by omega, rfl, HM.out, HBE2.out⟩
        case measure => simp [intOf]; omega
    · obtain rfl : i = ks.length := by omega
      have HBE : Hid (Below w.heap.size w W0) := HB1.out.trans (HP.out.mono (by omega))
      rw [List.take_length] at HD0
      clear HP
      go_wp2_with fail
      go_ret
      exact ⟨ret_int (by rw [HD.out, ← HD0.out]; omega), HBE.out⟩
end Go.Proofs.Ytlehgacbcacokaa
