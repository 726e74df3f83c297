/- The contract of the reference's Same. -/
import Derived.Test.YtlehgacbcacokaaW12a
import Derived.Deep.CutBlock
namespace Go.Proofs.Ytlehgacbcacokaa
open Go.RowKit TreeMath RealMath

def RSameOf (top : Nat) (k : T) : Prop := ∀ (b : T) (w : World), top ≤ w.heap.size → Ok w top k → Ok w top b → Calls Try.prog 27 #[val k, val b] w fun e w' => e = .returned (.bool (same k b)) ∧ Below w.heap.size w w'
set_option maxHeartbeats 16000000 in
set_option maxRecDepth 100000 in
theorem refsame_of (top : Nat) : ∀ a, RSameOf top a := by
  refine T.ind fun x ks IH => ?_
  rintro ⟨y, ls⟩ w htop ha hb
  show Calls Try.prog 27 #[nv x ks.length, nv y ls.length] w _
  have hkl := ha.len; have hll := hb.len
  unfold maxLen at hkl hll
  have HA := Lib.hid ha; have HB := Lib.hid hb; have HIH := Lib.hid IH
  clear ha hb IH
  go_enter Try.func27, Try.ntmps27
  go_upto_region 1 with fail
  have b2 := (Blk.new w 27 #[vb x.kind, .slice x.na x.names.length x.nc, .slice x.ka ks.length x.kc, .slice x.da x.data.length x.dc, .bool x.run, .float .f64 x.stamp, vs x.target]).alloc (.cells #[vb y.kind, .slice y.na y.names.length y.nc, .slice y.ka ls.length y.kc, .slice y.da y.data.length y.dc, .bool y.run, .float .f64 y.stamp, vs y.target] 27)
  have b3 := Blk.new (w.alloc (.cells #[vb x.kind, .slice x.na x.names.length x.nc, .slice x.ka ks.length x.kc, .slice x.da x.data.length x.dc, .bool x.run, .float .f64 x.stamp, vs x.target] 27)) 27 #[vb y.kind, .slice y.na y.names.length y.nc, .slice y.ka ls.length y.kc, .slice y.da y.data.length y.dc, .bool y.run, .float .f64 y.stamp, vs y.target]
  have hB1 : Below w.heap.size w ((w.alloc (.cells #[vb x.kind, .slice x.na x.names.length x.nc, .slice x.ka ks.length x.kc, .slice x.da x.data.length x.dc, .bool x.run, .float .f64 x.stamp, vs x.target] 27)).alloc (.cells #[vb y.kind, .slice y.na y.names.length y.nc, .slice y.ka ls.length y.kc, .slice y.da y.data.length y.dc, .bool y.run, .float .f64 y.stamp, vs y.target] 27)) := ((Below.refl _ _).alloc (Nat.le_refl _) _).alloc (by simp) _
  have hs1 : ((w.alloc (.cells #[vb x.kind, .slice x.na x.names.length x.nc, .slice x.ka ks.length x.kc, .slice x.da x.data.length x.dc, .bool x.run, .float .f64 x.stamp, vs x.target] 27)).alloc (.cells #[vb y.kind, .slice y.na y.names.length y.nc, .slice y.ka ls.length y.kc, .slice y.da y.data.length y.dc, .bool y.run, .float .f64 y.stamp, vs y.target] 27)).heap.size = w.heap.size + 2 := by simp
  rw [World.size_alloc] at b3
  generalize (w.alloc (.cells #[vb x.kind, .slice x.na x.names.length x.nc, .slice x.ka ks.length x.kc, .slice x.da x.data.length x.dc, .bool x.run, .float .f64 x.stamp, vs x.target] 27)).alloc (.cells #[vb y.kind, .slice y.na y.names.length y.nc, .slice y.ka ls.length y.kc, .slice y.da y.data.length y.dc, .bool y.run, .float .f64 y.stamp, vs y.target] 27) = W1 at *
  have c0 := b2.cell 0; have c1 := b2.cell 1; have c2 := b2.cell 2; have c3 := b2.cell 3; have c4 := b2.cell 4; have c5 := b2.cell 5; have c6 := b2.cell 6
  have d0 := b3.cell 0; have d1 := b3.cell 1; have d2 := b3.cell 2; have d3 := b3.cell 3; have d4 := b3.cell 4; have d5 := b3.cell 5; have d6 := b3.cell 6
  simp only [List.getElem?_cons_zero, List.getElem?_cons_succ] at c0 c1 c2 c3 c4 c5 c6 d0 d1 d2 d3 d4 d5 d6
  have HB2 := Lib.hid b2; have HB3 := Lib.hid b3; have HB1 := Lib.hid hB1; have HS1 := Lib.hid hs1
  clear b2 b3 hB1 hs1
  have QX : Hid (∀ n, Calls Try.prog 33 #[.float .f64 x.stamp] (W1.drewN n) fun e w' => e = .returned (.int .u64 (canonB x.stamp)) ∧ ∃ m, w' = W1.drewN m) := fun n => (refbits_any x.stamp (W1.drewN n)).mono fun _ _ h => ⟨h.1, n, h.2.symm⟩
  have QY : Hid (∀ n, Calls Try.prog 33 #[.float .f64 y.stamp] (W1.drewN n) fun e w' => e = .returned (.int .u64 (canonB y.stamp)) ∧ ∃ m, w' = W1.drewN m) := fun n => (refbits_any y.stamp (W1.drewN n)).mono fun _ _ h => ⟨h.1, n, h.2.symm⟩
  have QD : Hid (∀ n, Calls Try.prog 39 #[.slice x.da x.data.length x.dc, .slice y.da y.data.length y.dc] (W1.drewN n) fun e w' => e = .returned (.bool (decide (x.data = y.data))) ∧ ∃ m, w' = W1.drewN m) := fun n =>
    (bytes_any x.da y.da x.dc y.dc x.data y.data HA.out.hd.dlen HB.out.hd.dlen (W1.drewN n) (HA.out.hd.dsrc.below (below_drewN HB1.out n)) (HB.out.hd.dsrc.below (below_drewN HB1.out n))).mono fun _ _ ⟨h1, q, h2⟩ => ⟨h1, n + q, by rw [h2, World.drewN_drewN]⟩
  have QN : Hid (∀ n, Calls Try.prog 60 #[.slice x.na x.names.length x.nc, .slice y.na y.names.length y.nc] (W1.drewN n) fun e w' => e = .returned (.bool (decide (x.names = y.names))) ∧ ∃ m, w' = W1.drewN m) := fun n =>
    (texts_any x.na y.na x.nc y.nc x.names y.names HA.out.hd.nlen HB.out.hd.nlen (W1.drewN n) (HA.out.hd.nsrc.below (below_drewN HB1.out n) HA.out.hd.nsrc.lt) (HB.out.hd.nsrc.below (below_drewN HB1.out n) HB.out.hd.nsrc.lt)).mono fun _ _ ⟨h1, q, h2⟩ => ⟨h1, n + q, by rw [h2, World.drewN_drewN]⟩
  have HOUT : Hid (∀ n, Below w.heap.size w (W1.drewN n)) := fun n => below_drewN HB1.out n
  by_cases h1 : x.kind = y.kind
  · have e1 : ((x.kind.toNat : Int) == (y.kind.toNat : Int)) = true := by rw [vb_eq]; exact decide_eq_true h1
    have e1' : ((x.kind.toNat : Int) != (y.kind.toNat : Int)) = false := by rw [bne, e1]; rfl
    by_cases h2 : x.run = y.run
    · have e2 : (x.run == y.run) = true := by simp [h2]
      have e2' : (x.run != y.run) = false := by simp [h2]
      by_cases h3 : x.target = y.target
      · have e3 : (x.target == y.target) = true := by simp [h3]
        have e3' : (x.target != y.target) = false := by simp [h3]
        by_cases h4 : canonB x.stamp = canonB y.stamp
        · have e4 : ((canonB x.stamp : Int) == (canonB y.stamp : Int)) = true := by rw [h4]; simp
          have e4' : ((canonB x.stamp : Int) != (canonB y.stamp : Int)) = false := by rw [bne, e4]; rfl
          by_cases h5 : x.data = y.data
          · have e5 : decide (x.data = y.data) = true := decide_eq_true h5
            rw [e5] at QD
            by_cases h6 : x.names = y.names
            · have e6 : decide (x.names = y.names) = true := decide_eq_true h6
              rw [e6] at QN
              by_cases h7 : ks.length = ls.length
              · have e7 : ((ks.length : Int) == (ls.length : Int)) = true := by rw [h7]; simp
                have e7' : ((ks.length : Int) != (ls.length : Int)) = false := by rw [bne, e7]; rfl
                have HF : Hid (same (.mk x ks) (.mk y ls) = sameL ks ls) := by show _ = _; rw [same, hdSame, decide_eq_true h1, decide_eq_true h2, decide_eq_true h3, decide_eq_true h4, decide_eq_true h5, decide_eq_true h6]; rfl
                have HL := Lib.hid h7
                clear h1 h2 h3 h4 h5 h6 h7
                go_quiet ((first | (go_at_call 33; first | with_reducible exact QX.out _ | with_reducible exact QY.out _) | (go_at_call 39; with_reducible exact QD.out _) | (go_at_call 60; with_reducible exact QN.out _)))
                clear c0 c1 c2 c3 c4 c5 c6 d0 d1 d2 d3 d4 d5 d6 QX QY QD QN e1 e1' e2 e2' e3 e3' e4 e4' e5 e6 e7 e7'
                go_wp2_with fail
                go_loopw [5] (fun vi wr => ∃ k : Nat, k ≤ ks.length ∧ vi = .int .i64 k ∧ Hid (∀ j (h1 : j < ks.length) (h2 : j < ls.length), j < k → same ks[j] ls[j] = true) ∧ Hid (Below (w.heap.size + 2) W1 wr)) (fun vi _ => ks.length - (intOf vi).toNat)
                case atStart => exact ⟨0, Nat.zero_le _, rfl, fun j h1 h2 h3 => by omega, below_drewN (Below.refl _ _) _⟩
                case round =>
                  obtain ⟨k, hk, rfl, HE, HR⟩ := hrel
                  rename World => W0
                  have hsz : w.heap.size + 2 ≤ W0.heap.size := by have := HR.out.size; have := HS1.out; omega
                  have c2 := (HB2.out.below HR.out (by omega)).cell 2; have d2 := (HB3.out.below HR.out (by omega)).cell 2
                  simp only [List.getElem?_cons_zero, List.getElem?_cons_succ] at c2 d2
                  by_cases hlt : k < ks.length
                  · have hltl : k < ls.length := by rw [← HL.out]; exact hlt
                    have hbt : Below top w W0 := (HB1.out.mono htop).trans (HR.out.mono (by omega))
                    obtain ⟨a, oa, u, lu, hAe, hat, hu, hca⟩ := HA.out.at.cells k hlt
                    obtain ⟨b, ob, v, lv, hBe, hbt', hv, hcb⟩ := HB.out.at.cells k hltl
                    obtain ⟨a0, a1, a2, a3, a4, a5, a6⟩ := (hca.same (hbt.block a hat)).seven
                    obtain ⟨g0, g1, g2, g3, g4, g5, g6⟩ := (hcb.same (hbt.block b hbt')).seven
                    have HC : Hid (Calls Try.prog 27 #[nv u lu.length, nv v lv.length] W0.drew fun e w' => e = .returned (.bool (same ks[k] ls[k])) ∧ Below W0.heap.size W0 w') := by
                      have := HIH.out ks[k] (List.getElem_mem _) ls[k] W0.drew (by show top ≤ W0.heap.size; omega) ((HA.out.kid (List.getElem_mem hlt)).keep hbt.drew) ((HB.out.kid (List.getElem_mem hltl)).keep hbt.drew)
                      rw [hu, hv] at this ⊢
                      exact this.mono fun e w' h => ⟨h.1, (Below.refl _ _).drew.trans h.2⟩
                    have HNE : Hid (same ks[k] ls[k] = false → sameL ks ls = false) := fun h => sameL_not k hlt hltl h
                    have HEQ : Hid (same ks[k] ls[k] = true → ∀ j (h1 : j < ks.length) (h2 : j < ls.length), j < k + 1 → same ks[j] ls[j] = true) := fun h j h1 h2 h3 => by
                      by_cases e : j = k
                      · subst e; exact h
                      · exact HE.out j h1 h2 (by omega)
                    rw [hAe] at c2
                    rw [hBe] at d2
                    generalize same ks[k] ls[k] = sb at *
                    clear hbt hca hcb hAe hBe HE hat hbt' hu hv HIH
                    go_upto_region 6 with fail
                    refine wp_region_still_tail 10 (by kernel_rfl) (by kernel_rfl) ?_
                    simp only [List.take_succ_cons, List.take_zero, List.drop_succ_cons, List.drop_zero]
                    have HRD : Hid (Below (w.heap.size + 2) W1 W0.drew) := HR.out.drew
                    have hszd : w.heap.size + 2 ≤ W0.drew.heap.size := hsz
                    replace c2 : W0.drew.cell? _ = _ := c2
                    replace d2 : W0.drew.cell? _ = _ := d2
                    replace a0 : W0.drew.cell? _ = _ := a0
                    replace a1 : W0.drew.cell? _ = _ := a1
                    replace a2 : W0.drew.cell? _ = _ := a2
                    replace a3 : W0.drew.cell? _ = _ := a3
                    replace a4 : W0.drew.cell? _ = _ := a4
                    replace a5 : W0.drew.cell? _ = _ := a5
                    replace a6 : W0.drew.cell? _ = _ := a6
                    replace g0 : W0.drew.cell? _ = _ := g0
                    replace g1 : W0.drew.cell? _ = _ := g1
                    replace g2 : W0.drew.cell? _ = _ := g2
                    replace g3 : W0.drew.cell? _ = _ := g3
                    replace g4 : W0.drew.cell? _ = _ := g4
                    replace g5 : W0.drew.cell? _ = _ := g5
                    replace g6 : W0.drew.cell? _ = _ := g6
                    change wpStill _ _ W0.drew (fun a' => wpList _ _ _ _ a' W0.drew) _ _
                    have HC2 : Hid (∀ e w', (e = .returned (.bool sb) ∧ Below W0.heap.size W0 w') → e = Ending.returned (.bool sb) ∧ Below (w.heap.size + 2) W1 w') := fun e w' h => ⟨h.1, HR.out.trans (h.2.mono hsz)⟩
                    generalize W0.drew = W2 at c2 d2 a0 a1 a2 a3 a4 a5 a6 g0 g1 g2 g3 g4 g5 g6 HC HRD hszd ⊢
                    refine wpStill_of_quiet ?_
                    iterate 10 go_big_quiet_step (fail)
                    refine wpQuiet_nil ?_
                    go_wp2_with fail
                    refine (HC.out.mono HC2.out).mono ?_
                    rintro e w3 ⟨rfl, hb3⟩
                    have HB4 := Lib.hid hb3
                    clear hb3 c2 d2 a0 a1 a2 a3 a4 a5 a6 g0 g1 g2 g3 g4 g5 g6
                    cases sb with
                    | false =>
                      have HF2 := Lib.hid (HNE.out rfl)
                      clear HNE HEQ
                      go_wp2_with fail
                      go_ret
                      exact ⟨by rw [HF.out, HF2.out]; rfl, HB1.out.trans (HB4.out.mono (by omega))⟩
                    | true =>
                      have HE2 := Lib.hid (HEQ.out rfl)
                      clear HNE HEQ
                      go_wp2_with fail
                      go_roundw
                      case rel => exact ⟨k + 1, by omega, by go_num, HE2.out, HB4.out⟩
                      case measure => simp [intOf]; omega
                  · have HT : Hid (sameL ks ls = true) := sameL_get HL.out (fun j h1 h2 => HE.out j h1 h2 (by omega))
                    obtain rfl : k = ks.length := by omega
                    clear HE
                    go_wp2_with fail
                    go_ret
                    exact ⟨by rw [HF.out, HT.out]; rfl, HB1.out.trans (HR.out.mono (by omega))⟩
              · have e7 : ((ks.length : Int) == (ls.length : Int)) = false := by rw [beq_eq_false_iff_ne]; omega
                have e7' : ((ks.length : Int) != (ls.length : Int)) = true := by rw [bne, e7]; rfl
                have e7n : (ks.length == ls.length) = false := by rw [beq_eq_false_iff_ne]; omega
                have HF : Hid (same (.mk x ks) (.mk y ls) = false) := by show _ = _; rw [same, sameL_ne h7, Bool.and_false]
                clear h1 h2 h3 h4 h5 h6 h7 HA HB HIH
                go_quiet ((first | (go_at_call 33; first | with_reducible exact QX.out _ | with_reducible exact QY.out _) | (go_at_call 39; with_reducible exact QD.out _) | (go_at_call 60; with_reducible exact QN.out _)))
                go_wp2_with fail
                go_ret
                exact ⟨by rw [HF.out]; rfl, HOUT.out _⟩
            · have e6 : decide (x.names = y.names) = false := decide_eq_false h6
              rw [e6] at QN
              have HF : Hid (same (.mk x ks) (.mk y ls) = false) := by show _ = _; rw [same, hdSame, decide_eq_false h6]; simp
              clear h1 h2 h3 h4 h5 h6 HA HB HIH
              go_quiet ((first | (go_at_call 33; first | with_reducible exact QX.out _ | with_reducible exact QY.out _) | (go_at_call 39; with_reducible exact QD.out _) | (go_at_call 60; with_reducible exact QN.out _)))
              go_wp2_with fail
              go_ret
              exact ⟨by rw [HF.out]; rfl, HOUT.out _⟩
          · have e5 : decide (x.data = y.data) = false := decide_eq_false h5
            rw [e5] at QD
            have HF : Hid (same (.mk x ks) (.mk y ls) = false) := by show _ = _; rw [same, hdSame, decide_eq_false h5]; simp
            clear h1 h2 h3 h4 h5 HA HB HIH
            go_quiet ((first | (go_at_call 33; first | with_reducible exact QX.out _ | with_reducible exact QY.out _) | (go_at_call 39; with_reducible exact QD.out _) | (go_at_call 60; with_reducible exact QN.out _)))
            go_wp2_with fail
            go_ret
            exact ⟨by rw [HF.out]; rfl, HOUT.out _⟩
        · have e4 : ((canonB x.stamp : Int) == (canonB y.stamp : Int)) = false := by rw [nat_eq_int]; exact decide_eq_false h4
          have e4' : ((canonB x.stamp : Int) != (canonB y.stamp : Int)) = true := by rw [bne, e4]; rfl
          have e4n : (canonB x.stamp == canonB y.stamp) = false := by rw [beq_eq_false_iff_ne]; exact h4
          have HF : Hid (same (.mk x ks) (.mk y ls) = false) := by show _ = _; rw [same, hdSame, decide_eq_false h4]; simp
          clear h1 h2 h3 h4 HA HB HIH
          go_quiet ((first | (go_at_call 33; first | with_reducible exact QX.out _ | with_reducible exact QY.out _) | (go_at_call 39; with_reducible exact QD.out _) | (go_at_call 60; with_reducible exact QN.out _)))
          go_wp2_with fail
          go_ret
          exact ⟨by rw [HF.out]; rfl, HOUT.out _⟩
      · have e3 : (x.target == y.target) = false := by rw [list_beq]; exact decide_eq_false h3
        have e3' : (x.target != y.target) = true := by rw [bne, e3]; rfl
        have HF : Hid (same (.mk x ks) (.mk y ls) = false) := by show _ = _; rw [same, hdSame, decide_eq_false h3]; simp
        clear h1 h2 h3 HA HB HIH
        go_quiet ((first | (go_at_call 33; first | with_reducible exact QX.out _ | with_reducible exact QY.out _) | (go_at_call 39; with_reducible exact QD.out _) | (go_at_call 60; with_reducible exact QN.out _)))
        go_wp2_with fail
        go_ret
        exact ⟨by rw [HF.out]; rfl, HOUT.out _⟩
    · have e2 : (x.run == y.run) = false := by simp [h2]
      have e2' : (x.run != y.run) = true := by simp [h2]
      have HF : Hid (same (.mk x ks) (.mk y ls) = false) := by show _ = _; rw [same, hdSame, decide_eq_false h2]; simp
      clear h1 h2 HA HB HIH
      go_quiet ((first | (go_at_call 33; first | with_reducible exact QX.out _ | with_reducible exact QY.out _) | (go_at_call 39; with_reducible exact QD.out _) | (go_at_call 60; with_reducible exact QN.out _)))
      go_wp2_with fail
      go_ret
      exact ⟨by rw [HF.out]; rfl, HOUT.out _⟩
  · have e1 : ((x.kind.toNat : Int) == (y.kind.toNat : Int)) = false := by rw [vb_eq]; exact decide_eq_false h1
    have e1' : ((x.kind.toNat : Int) != (y.kind.toNat : Int)) = true := by rw [bne, e1]; rfl
    have e1n : (x.kind.toNat == y.kind.toNat) = false := by rw [beq_eq_false_iff_ne]; intro e; exact h1 (UInt8.toNat_inj.1 e)
    have HF : Hid (same (.mk x ks) (.mk y ls) = false) := by show _ = _; rw [same, hdSame, decide_eq_false h1]; simp
    clear h1 HA HB HIH
    go_quiet ((first | (go_at_call 33; first | with_reducible exact QX.out _ | with_reducible exact QY.out _) | (go_at_call 39; with_reducible exact QD.out _) | (go_at_call 60; with_reducible exact QN.out _)))
    go_wp2_with fail
    go_ret
    exact ⟨by rw [HF.out]; rfl, HOUT.out _⟩
end Go.Proofs.Ytlehgacbcacokaa
