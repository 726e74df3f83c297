/- The contracts of the program's Same and of slices.EqualFunc, which call each other. -/
import Derived.Test.YtlehgacbcacokaaW2
namespace Go.Proofs.Ytlehgacbcacokaa
open Go.RowKit TreeMath RealMath

theorem below_node {B : Nat} {a w : World} (h : Below B a w) (hB : B ≤ w.heap.size) (o : Obj) (g : Nat) (hg : g = w.heap.size) (v0 v1 v2 v3 v4 v5 v6 : Value) :
    Below B a ((((((((w.alloc o).setCell ⟨g, 0, none⟩ v0).setCell ⟨g, 1, none⟩ v1).setCell ⟨g, 2, none⟩ v2).setCell ⟨g, 3, none⟩ v3).setCell ⟨g, 4, none⟩ v4).setCell ⟨g, 5, none⟩ v5).setCell ⟨g, 6, none⟩ v6) := by
  subst hg
  exact ((((((((h.alloc hB o).setCell (by exact hB) _).setCell (by exact hB) _).setCell (by exact hB) _).setCell (by exact hB) _).setCell (by exact hB) _).setCell (by exact hB) _).setCell (by exact hB) _)
theorem KidsAt.cells {w : World} {top : Nat} {A : Option Addr} {ks : List T} (h : KidsAt w top A ks) (i : Nat) (hi : i < ks.length) : ∃ b o x l, A = some ⟨b, o, none⟩ ∧ b < top ∧ ks[i] = .mk x l ∧ CellsAt w b (o + i * 7) (cellsOf x l.length) := by
  obtain ⟨b, o, e, hb, hc⟩ := h (by omega)
  have := hc i hi
  cases hk : ks[i] with
  | mk x l => rw [hk] at this; exact ⟨b, o, x, l, e, hb, rfl, this⟩
theorem CellsAt.seven {w : World} {b o n : Nat} {x : Hd} (h : CellsAt w b o (cellsOf x n)) :
    w.cell? ⟨b, o, none⟩ = some (vb x.kind) ∧ w.cell? ⟨b, o + 1, none⟩ = some (.slice x.na x.names.length x.nc) ∧ w.cell? ⟨b, o + 2, none⟩ = some (.slice x.ka n x.kc) ∧ w.cell? ⟨b, o + 3, none⟩ = some (.slice x.da x.data.length x.dc) ∧
    w.cell? ⟨b, o + 4, none⟩ = some (.bool x.run) ∧ w.cell? ⟨b, o + 5, none⟩ = some (.float .f64 x.stamp) ∧ w.cell? ⟨b, o + 6, none⟩ = some (vs x.target) :=
  ⟨h 0 _ rfl, h 1 _ rfl, h 2 _ rfl, h 3 _ rfl, h 4 _ rfl, h 5 _ rfl, h 6 _ rfl⟩
def SameOf (top : Nat) (k : T) : Prop := ∀ (b : T) (w : World), top ≤ w.heap.size → Ok w top k → Ok w top b → Calls Try.prog 26 #[val k, val b] w fun e w' => e = .returned (.bool (same k b)) ∧ Below w.heap.size w w'
set_option maxHeartbeats 4000000 in
theorem eqfunc_any (ks ls : List T) (A B : Option Addr) (ca cb top : Nat) (hl : ks.length ≤ maxLen) (hm : ls.length ≤ maxLen) (IH : ∀ k ∈ ks, SameOf top k) (w : World) (htop : top ≤ w.heap.size)
    (hA : KidsAt w top A ks) (hB : KidsAt w top B ls) (hks : ∀ k ∈ ks, Ok w top k) (hls : ∀ k ∈ ls, Ok w top k) :
    Calls Try.prog 59 #[.slice A ks.length ca, .slice B ls.length cb, .func (.func 26) #[] #[]] w fun e w' => e = .returned (.bool (sameL ks ls)) ∧ Below w.heap.size w w' := by
  have HA := Lib.hid hA; have HB := Lib.hid hB; have HIH := Lib.hid IH; have HK := Lib.hid hks; have HL := Lib.hid hls
  clear hA hB IH hks hls
  unfold maxLen at hl hm
  by_cases hlen : ks.length = ls.length
  · generalize hn : ks.length = n at *
    generalize hn' : ls.length = n' at *
    subst hlen
    go_enter Try.func59, Try.ntmps59
    go_wp2_with fail
    go_loopw [17] (fun vi wr => ∃ k : Nat, k ≤ n ∧ vi = .int .i64 k ∧ Hid (∀ j (h1 : j < ks.length) (h2 : j < ls.length), j < k → same ks[j] ls[j] = true) ∧ Hid (Below w.heap.size w wr)) (fun vi _ => n - (intOf vi).toNat)
    case atStart => exact ⟨0, Nat.zero_le _, rfl, fun j h1 h2 h3 => by omega, Below.refl _ _⟩
    case round =>
      obtain ⟨k, hk, rfl, HE, HR⟩ := hrel
      rename World => W0
      by_cases hlt : k < n
      · obtain ⟨a, oa, x, lx, rfl, hat, hx, hca⟩ := HA.out.cells k (by omega)
        obtain ⟨b, ob, y, ly, rfl, hbt, hy, hcb⟩ := HB.out.cells k (by omega)
        have ha := hca.same (HR.out.block a (by omega)); have hb := hcb.same (HR.out.block b (by omega))
        obtain ⟨a0, a1, a2, a3, a4, a5, a6⟩ := ha.seven
        obtain ⟨b0, b1, b2, b3, b4, b5, b6⟩ := hb.seven
        have hbW : b < W0.heap.size := by have := HR.out.size; omega
        clear ha hb hca hcb
        have HS : Hid (∀ W : World, Below w.heap.size w W → Calls Try.prog 26 #[nv x lx.length, nv y ly.length] W fun e w' => e = .returned (.bool (same (ks[k]'(by omega)) (ls[k]'(by omega)))) ∧ Below W.heap.size W w') := fun W hW => by
          have := HIH.out (ks[k]'(by omega)) (List.getElem_mem _) (ls[k]'(by omega)) W (by have := hW.size; omega) ((HK.out _ (List.getElem_mem _)).keep (hW.mono htop)) ((HL.out _ (List.getElem_mem _)).keep (hW.mono htop))
          rw [hx, hy] at this ⊢; exact this
        have HNE : Hid (same (ks[k]'(by omega)) (ls[k]'(by omega)) = false → sameL ks ls = false) := fun h => sameL_not k (by omega) (by omega) h
        have HEQ : Hid (same (ks[k]'(by omega)) (ls[k]'(by omega)) = true → ∀ j (h1 : j < ks.length) (h2 : j < ls.length), j < k + 1 → same ks[j] ls[j] = true) := fun h j h1 h2 h3 => by
          by_cases e : j = k
          · subst e; exact h
          · exact HE.out j h1 h2 (by omega)
        have hs0 := HR.out.size
        clear HE HA HB HIH HK HL
        generalize same (ks[k]'(by omega)) (ls[k]'(by omega)) = sb at *
        clear hx hy
        go_wp2_with fail
        refine (HS.out _ ((HR.out.alloc hs0 _).alloc (by simp; omega) _)).mono ?_
        rintro e w1 ⟨rfl, hb1⟩
        have HB1 : Hid (Below w.heap.size w w1) := ((HR.out.alloc hs0 _).alloc (by simp; omega) _).trans (hb1.mono (by simp; omega))
        clear hb1 HS HR
        cases sb with
        | true =>
          have HEQ' := Lib.hid (HEQ.out rfl)
          clear HNE HEQ
          go_wp2_with fail
          go_roundw
          case rel => exact ⟨k + 1, by omega, by go_num, HEQ'.out, HB1.out⟩
          case measure => simp [intOf]; omega
        | false =>
          have HF := Lib.hid (HNE.out rfl)
          clear HNE HEQ
          go_wp2_with fail
          go_ret
          exact ⟨by rw [HF.out]; rfl, HB1.out⟩
      · have HT : Hid (sameL ks ls = true) := sameL_get (by omega) (fun j h1 h2 => HE.out j h1 h2 (by omega))
        obtain rfl : k = n := by omega
        clear HE
        go_wp2_with fail
        go_ret
        exact ⟨by rw [HT.out]; rfl, HR.out⟩
  · have HF : Hid (sameL ks ls = false) := sameL_ne hlen
    have hb : ((ks.length : Int) == (ls.length : Int)) = false := by rw [beq_eq_false_iff_ne]; omega
    have hb' : (ks.length == ls.length) = false := by rw [beq_eq_false_iff_ne]; omega
    clear hlen
    go_enter Try.func59, Try.ntmps59
    go_wp2_with fail
    go_ret
    exact ⟨by rw [HF.out]; rfl, Below.refl _ _⟩
set_option maxHeartbeats 4000000 in
theorem same_of (top : Nat) : ∀ a, SameOf top a := by
  refine T.ind fun x ks IH => ?_
  rintro ⟨y, ls⟩ w htop ha hb
  show Calls Try.prog 26 #[nv x ks.length, nv y ls.length] w _
  have hx := ha.hd; have hy := hb.hd
  have hcx := hx.stamp; have hcy := hy.stamp
  have HX := Lib.hid hx; have HY := Lib.hid hy; have HA := Lib.hid ha; have HB := Lib.hid hb; have HIH := Lib.hid IH
  clear hx hy ha hb IH
  by_cases h1 : x.kind = y.kind
  · have e1 : ((x.kind.toNat : Int) == (y.kind.toNat : Int)) = true := by rw [vb_eq]; exact decide_eq_true h1
    by_cases h2 : x.run = y.run
    · have e2 : (x.run == y.run) = true := by simp [h2]
      by_cases h3 : x.target = y.target
      · have e3 : (x.target == y.target) = true := by simp [h3]
        have HEQ : Hid (same (.mk x ks) (.mk y ls) = (decide (canonB x.stamp = canonB y.stamp) && decide (x.data = y.data) && decide (x.names = y.names) && sameL ks ls)) := by
          show _ = _; rw [same, hdSame, decide_eq_true h1, decide_eq_true h2, decide_eq_true h3]; rfl
        clear h1 h2 h3
        go_enter Try.func26, Try.ntmps26
        go_wp2_with fail
        refine (rsame_any x.stamp y.stamp hcx hcy _).mono ?_
        rintro e w1 ⟨rfl, rfl⟩
        cases hc4 : decide (canonB x.stamp = canonB y.stamp) with
        | false =>
          rw [hc4] at HEQ
          clear hc4
          go_wp2_with fail
          go_ret
          exact ⟨by rw [HEQ.out]; rfl, (Below.refl _ _).alloc (Nat.le_refl _) _ |>.alloc (by simp) _⟩
        | true =>
          rw [hc4] at HEQ
          clear hc4
          go_wp2_with fail
          refine (equal_any x.da y.da x.dc y.dc x.data y.data _ (HX.out.dsrc.below ((Below.refl _ _).alloc (Nat.le_refl _) _ |>.alloc (by simp) _)) (HY.out.dsrc.below ((Below.refl _ _).alloc (Nat.le_refl _) _ |>.alloc (by simp) _))).mono ?_
          rintro e w1 ⟨rfl, rfl⟩
          cases hc5 : decide (x.data = y.data) with
          | false =>
            rw [hc5] at HEQ
            clear hc5
            go_wp2_with fail
            go_ret
            exact ⟨by rw [HEQ.out]; rfl, (Below.refl _ _).alloc (Nat.le_refl _) _ |>.alloc (by simp) _⟩
          | true =>
            rw [hc5] at HEQ
            clear hc5
            go_wp2_with fail
            refine (sequal_any x.na y.na x.nc y.nc x.names y.names HX.out.nlen HY.out.nlen _ (HX.out.nsrc.below ((Below.refl _ _).alloc (Nat.le_refl _) _ |>.alloc (by simp) _) HX.out.nsrc.lt) (HY.out.nsrc.below ((Below.refl _ _).alloc (Nat.le_refl _) _ |>.alloc (by simp) _) HY.out.nsrc.lt)).mono ?_
            rintro e w1 ⟨rfl, q, rfl⟩
            cases hc6 : decide (x.names = y.names) with
            | false =>
              rw [hc6] at HEQ
              clear hc6
              go_wp2_with fail
              go_ret
              exact ⟨by rw [HEQ.out]; rfl, below_drewN ((Below.refl _ _).alloc (Nat.le_refl _) _ |>.alloc (by simp) _) _⟩
            | true =>
              rw [hc6] at HEQ
              clear hc6
              go_wp2_with fail
              have hB : Below w.heap.size w (((w.alloc (.cells #[vb x.kind, .slice x.na x.names.length x.nc, .slice x.ka ks.length x.kc, .slice x.da x.data.length x.dc, .bool x.run, .float .f64 x.stamp, vs x.target] 27)).alloc (.cells #[vb y.kind, .slice y.na y.names.length y.nc, .slice y.ka ls.length y.kc, .slice y.da y.data.length y.dc, .bool y.run, .float .f64 y.stamp, vs y.target] 27)).drewN q) :=
                below_drewN ((Below.refl _ _).alloc (Nat.le_refl _) _ |>.alloc (by simp) _) _
              refine (eqfunc_any ks ls x.ka y.ka x.kc y.kc top HA.out.len HB.out.len HIH.out _ (Nat.le_trans htop hB.size) (HA.out.at.below (hB.mono htop)) (HB.out.at.below (hB.mono htop)) (fun k hk => (HA.out.kid hk).keep (hB.mono htop)) (fun k hk => (HB.out.kid hk).keep (hB.mono htop))).mono ?_
              rintro e w1 ⟨rfl, hb1⟩
              have HB1 : Hid (Below w.heap.size w w1) := hB.trans (hb1.mono hB.size)
              clear hb1 hB
              generalize sameL ks ls = sb at *
              go_wp2_with fail
              go_ret
              exact ⟨by rw [HEQ.out]; rfl, HB1.out⟩
      · have e3 : (x.target == y.target) = false := by rw [list_beq]; exact decide_eq_false h3
        have HEQ : Hid (same (.mk x ks) (.mk y ls) = false) := by
          show _ = _; rw [same, hdSame, decide_eq_false h3]; simp
        clear h1 h2 h3
        go_enter Try.func26, Try.ntmps26
        go_wp2_with fail
        go_ret
        exact ⟨by rw [HEQ.out]; rfl, (Below.refl _ _).alloc (Nat.le_refl _) _ |>.alloc (by simp) _⟩
    · have e2 : (x.run == y.run) = false := by simp [h2]
      have HEQ : Hid (same (.mk x ks) (.mk y ls) = false) := by
        show _ = _; rw [same, hdSame, decide_eq_false h2]; simp
      clear h1 h2
      go_enter Try.func26, Try.ntmps26
      go_wp2_with fail
      go_ret
      exact ⟨by rw [HEQ.out]; rfl, (Below.refl _ _).alloc (Nat.le_refl _) _ |>.alloc (by simp) _⟩
  · have e1 : ((x.kind.toNat : Int) == (y.kind.toNat : Int)) = false := by rw [vb_eq]; exact decide_eq_false h1
    have HEQ : Hid (same (.mk x ks) (.mk y ls) = false) := by
      show _ = _; rw [same, hdSame, decide_eq_false h1]; rfl
    go_enter Try.func26, Try.ntmps26
    go_wp2_with fail
    go_ret
    exact ⟨by rw [HEQ.out]; rfl, (Below.refl _ _).alloc (Nat.le_refl _) _ |>.alloc (by simp) _⟩
end Go.Proofs.Ytlehgacbcacokaa
