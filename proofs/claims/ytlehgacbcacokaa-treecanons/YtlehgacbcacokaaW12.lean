/- The contract of the reference's form. -/
import Derived.Test.YtlehgacbcacokaaW12b
import Derived.Test.YtlehgacbcacokaaW12c
import Derived.Test.YtlehgacbcacokaaW12d
import Derived.Deep.CutBlock
namespace Go.Proofs.Ytlehgacbcacokaa
open Go.RowKit TreeMath RealMath

theorem less_total : ∀ a b : List By, Op.bytesLess a b = false → (Op.bytesLess b a || b == a) = true
  | [], [], _ => by decide
  | [], _ :: _, h => by simp [Op.bytesLess] at h
  | _ :: _, [], _ => by simp [Op.bytesLess]
  | x :: a, y :: b, h => by
    have ih := less_total a b
    simp only [Op.bytesLess, Bool.or_eq_false_iff, Bool.and_eq_false_iff, decide_eq_false_iff_not] at h
    obtain ⟨h1, h2⟩ := h
    by_cases e : x = y
    · subst e
      have h3 : Op.bytesLess a b = false := by rcases h2 with h2 | h2; (simp at h2); exact h2
      have h4 := ih h3
      simp only [Bool.or_eq_true, beq_iff_eq] at h4
      rcases h4 with h4 | h4
      · simp [Op.bytesLess, h4]
      · simp [h4]
    · have h5 : y < x := by
        rw [UInt8.lt_iff_toNat_lt] at h1 ⊢
        have : x.toNat ≠ y.toNat := fun h => e (UInt8.toNat_inj.1 h)
        omega
      simp [Op.bytesLess, h5]
theorem less_not {a b : List By} (h : Op.bytesLess a b = false) : (Op.bytesLess b a || b == a) = true := less_total a b h
theorem less_asymm : ∀ a b : List By, Op.bytesLess a b = true → Op.bytesLess b a = false ∧ (b == a) = false
  | [], [], h => by simp [Op.bytesLess] at h
  | [], _ :: _, _ => by simp [Op.bytesLess]
  | _ :: _, [], h => by simp [Op.bytesLess] at h
  | x :: a, y :: b, h => by
    have ih := less_asymm a b
    simp only [Op.bytesLess, Bool.or_eq_true, Bool.and_eq_true, decide_eq_true_eq, beq_iff_eq] at h
    rcases h with h1 | ⟨rfl, h2⟩
    · have h3 : ¬ y < x := by rw [UInt8.lt_iff_toNat_lt] at h1 ⊢; omega
      have h4 : ¬ y = x := fun e => by subst e; rw [UInt8.lt_iff_toNat_lt] at h1; omega
      simp [Op.bytesLess, h3, h4]
    · have h5 := ih h2
      have h6 : ¬ b = a := by simpa using h5.2
      simp [Op.bytesLess, h5.1, h6]
theorem less_yes {a b : List By} (h : Op.bytesLess a b = true) : Op.bytesLess b a = false ∧ (b == a) = false := less_asymm a b h
mutual
def formB : T → Bool
  | .mk x ks => fitsB (.mk x ks) && formL ks
def formL : List T → Bool
  | [] => true
  | k :: l => formB k && formL l
end
mutual
theorem formB_all : ∀ t, formB t = (all t).all fitsB
  | .mk x ks => by rw [formB, all, List.all_cons, formL_all ks]
theorem formL_all : ∀ ks, formL ks = (allL ks).all fitsB
  | [] => by rw [formL, allL]; rfl
  | k :: l => by rw [formL, allL, List.all_append, formB_all k, formL_all l]
end
theorem formL_false {ks : List T} (i : Nat) (h : i < ks.length) (hk : formB ks[i] = false) : formL ks = false := by
  induction ks generalizing i with
  | nil => simp at h
  | cons k l ih =>
    rw [formL]
    cases i with
    | zero => rw [show formB k = false from hk]; rfl
    | succ i => rw [ih i (by simpa using h) hk, Bool.and_false]
theorem formL_true {ks : List T} (h : ∀ i (hi : i < ks.length), formB ks[i] = true) : formL ks = true := by
  induction ks with
  | nil => rw [formL]
  | cons k l ih => rw [formL, show formB k = true from h 0 (by simp), ih (fun i hi => h (i + 1) (by simpa using hi))]; rfl
/-- no node has too many names -/
def Few (t : T) : Prop := ∀ k ∈ all t, k.hd.names.length ≤ 100000
theorem Few.kid {x : Hd} {ks : List T} (h : Few (.mk x ks)) {k : T} (hk : k ∈ ks) : Few k := fun j hj => h j (by
  rw [all]; refine List.mem_cons_of_mem _ ?_
  clear h
  induction ks with
  | nil => cases hk
  | cons a l ih =>
    rw [allL]
    rcases List.mem_cons.1 hk with e | e
    · subst e; exact List.mem_append_left _ hj
    · exact List.mem_append_right _ (ih e))
theorem Few.top {x : Hd} {ks : List T} (h : Few (.mk x ks)) : x.names.length ≤ 100000 := h (.mk x ks) (by rw [all]; simp)
theorem len_le_count (ks : List T) : ks.length ≤ (allL ks).length := by
  induction ks with
  | nil => simp
  | cons k l ih => rw [allL, List.length_append]; have : 0 < (all k).length := count_pos k; simp; omega
theorem cell_keep {B : Nat} {w w' : World} {p : Addr} {v : Value} (h : Below B w w') (hp : p.block < B) (hc : w.cell? p = some v) : w'.cell? p = some v := by rw [h.cell hp]; exact hc
def FormOf (top : Nat) (t : T) : Prop := ∀ (w : World), top ≤ w.heap.size → Ok w top t → count t ≤ 90000 → Few t → Calls Try.prog 50 #[val t] w fun e w' => e = .returned (.bool (formB t)) ∧ Below w.heap.size w w'
set_option maxHeartbeats 4000000 in
theorem form_of (top : Nat) : ∀ t, FormOf top t := by
  refine T.ind fun x ks IH => ?_
  intro w htop hok hn hfew
  show Calls Try.prog 50 #[nv x ks.length] w _
  have hlen : ks.length ≤ 90000 := by have := len_le_count ks; rw [count_mk] at hn; omega
  have hnam := hfew.top
  have hst := hok.hd.stamp
  have HIH := Lib.hid IH; have HOK := Lib.hid hok; have HN := Lib.hid hn; have HFEW := Lib.hid hfew
  clear IH hok hn hfew
  go_enter Try.func50, Try.ntmps50
  go_upto_region 2 with fail
  have hbox := Blk.new w 27 #[vb x.kind, .slice x.na x.names.length x.nc, .slice x.ka ks.length x.kc, .slice x.da x.data.length x.dc, .bool x.run, .float .f64 x.stamp, vs x.target]
  have hB1 : Below w.heap.size w (w.alloc (.cells #[vb x.kind, .slice x.na x.names.length x.nc, .slice x.ka ks.length x.kc, .slice x.da x.data.length x.dc, .bool x.run, .float .f64 x.stamp, vs x.target] 27)) := (Below.refl _ _).alloc (Nat.le_refl _) _
  have hs1 : (w.alloc (.cells #[vb x.kind, .slice x.na x.names.length x.nc, .slice x.ka ks.length x.kc, .slice x.da x.data.length x.dc, .bool x.run, .float .f64 x.stamp, vs x.target] 27)).heap.size = w.heap.size + 1 := by simp
  generalize w.alloc (.cells #[vb x.kind, .slice x.na x.names.length x.nc, .slice x.ka ks.length x.kc, .slice x.da x.data.length x.dc, .bool x.run, .float .f64 x.stamp, vs x.target] 27) = W1 at *
  have c0 := hbox.cell 0; have c1 := hbox.cell 1; have c2 := hbox.cell 2; have c3 := hbox.cell 3; have c4 := hbox.cell 4; have c5 := hbox.cell 5; have c6 := hbox.cell 6
  simp only [List.getElem?_cons_zero, List.getElem?_cons_succ] at c0 c1 c2 c3 c4 c5 c6
  have HBOX := Lib.hid hbox; have HB1 := Lib.hid hB1; have HS1 := Lib.hid hs1
  clear hbox hB1 hs1
  have HZ : Hid (noFile x = (decide (x.data = []) && decide (x.run = false) && decide (canonB x.stamp = 0))) := Lib.hid rfl
  go_cut [4] from 15 to 28 (fun s4 wx => s4 = .bool (!noFile x) ∧ W1 = wx)
  case first =>
    by_cases hd : x.data = []
    · have hd' : decide (0 < x.data.length) = false := by rw [hd]; rfl
      rw [decide_eq_true hd] at HZ
      clear hd
      cases hr : x.run with
      | true =>
        rw [hr] at HZ c4
        have HZ' : Hid (noFile x = false) := by show _ = _; rw [HZ.out]; simp
        clear HZ hr
        go_wp2_with fail
        go_meet
        exact ⟨by rw [HZ'.out]; rfl, rfl⟩
      | false =>
        rw [hr] at HZ c4
        clear hr
        go_wp2_with fail
        refine (refbits_any x.stamp W1).mono ?_
        rintro e w1 ⟨rfl, rfl⟩
        by_cases hz : canonB x.stamp = 0
        · have hz' : ((canonB x.stamp : Int) == 0) = true := by rw [hz]; rfl
          have HZ' : Hid (noFile x = true) := by show _ = _; rw [HZ.out, decide_eq_true hz]; simp
          have HQ : Hid (((canonB x.stamp : Int) != 0) = false) := by show _ = _; rw [hz]; rfl
          clear HZ hz
          go_wp2_with fail
          go_meet
          exact ⟨by rw [HZ'.out]; first | rfl | (rw [HQ.out]; rfl), rfl⟩
        · have hz' : ((canonB x.stamp : Int) == 0) = false := by rw [beq_eq_false_iff_ne]; omega
          have hz'' : (canonB x.stamp == 0) = false := by rw [beq_eq_false_iff_ne]; exact hz
          have HZ' : Hid (noFile x = false) := by show _ = _; rw [HZ.out, decide_eq_false hz]; simp
          have HQ : Hid (((canonB x.stamp : Int) != 0) = true) := by show _ = _; rw [bne, hz']; rfl
          clear HZ hz
          go_wp2_with fail
          go_meet
          exact ⟨by rw [HZ'.out]; first | rfl | (rw [HQ.out]; rfl), rfl⟩
    · have hd' : decide (0 < x.data.length) = true := decide_eq_true (List.length_pos_iff.2 hd)
      rw [decide_eq_false hd] at HZ
      have HZ' : Hid (noFile x = false) := by show _ = _; rw [HZ.out]; simp
      clear HZ hd
      go_wp2_with fail
      go_meet
      exact ⟨by rw [HZ'.out]; rfl, rfl⟩
  case rest =>
    obtain ⟨rfl, rfl⟩ := hcut
    clear HZ
    have HF0 : Hid (formB (.mk x ks) = (fitsB (.mk x ks) && formL ks)) := by show _ = _; rw [formB]
    have HF1 : Hid (fitsB (.mk x ks) = _) := Lib.hid (by rw [fitsB])
    by_cases k1 : x.kind = 1
    · have e1 : ((x.kind.toNat : Int) == 1) = true := by rw [k1]; rfl
      rw [if_pos k1] at HF1
      clear k1
      cases hnf : noFile x with
      | false =>
        have HF : Hid (formB (.mk x ks) = false) := by show _ = _; rw [HF0.out, HF1.out, hnf]; simp
        clear HF0 HF1 hnf
        go_wp2_with fail
        go_ret
        exact ⟨by rw [HF.out]; rfl, HB1.out⟩
      | true =>
        rw [hnf] at HF1
        clear hnf
        by_cases hl : x.target = []
        · have hl' : decide (0 < x.target.length) = false := by rw [hl]; rfl
          rw [decide_eq_true hl] at HF1
          clear hl
          by_cases hln : x.names.length = ks.length
          · have el : ((x.names.length : Int) == (ks.length : Int)) = true := by rw [hln]; simp
            have HLN := Lib.hid hln
            have HF : Hid (formB (.mk x ks) = (namesOk x.names && formL ks)) := by show _ = _; rw [HF0.out, HF1.out, decide_eq_true hln]; simp
            clear HF0 HF1 hln
            go_wp2_with fail
            go_loopw [6] (fun vi wr => ∃ i : Nat, i ≤ x.names.length ∧ vi = .int .i64 i ∧ Hid (∀ j, j < i → goodAt x.names j = true ∧ ∀ h : j < ks.length, formB ks[j] = true) ∧ Hid (Below (w.heap.size + 1) W1 wr)) (fun vi _ => x.names.length - (intOf vi).toNat)
            case atStart => exact ⟨0, Nat.zero_le _, rfl, fun j h => by omega, Below.refl _ _⟩
            case round =>
              obtain ⟨i, hi, rfl, HP, HBE⟩ := hrel
              rename World => W0
              have hblk := HBOX.out.below HBE.out (by omega)
              have c1 := hblk.cell 1; have c2 := hblk.cell 2
              simp only [List.getElem?_cons_zero, List.getElem?_cons_succ] at c1 c2
              clear hblk
              by_cases hlt : i < x.names.length
              · have hltk : i < ks.length := by rw [← HLN.out]; exact hlt
                have hbt : Below top w W0 := (HB1.out.mono htop).trans (HBE.out.mono (by omega))
                obtain ⟨a, oa, y, ly, hAe, hat, hy, hca⟩ := HOK.out.at.cells i hltk
                obtain ⟨k0, k1, k2, k3, k4, k5, k6⟩ := (hca.same (hbt.block a hat)).seven
                obtain ⟨nb, no, hNe, hnc⟩ := HOK.out.hd.nsrc (by omega)
                have hnb : nb < top := HOK.out.hd.nlt (by omega) _ hNe
                have n1 : W0.cell? ⟨nb, no + i, none⟩ = some (vs (x.names[i]'hlt)) := by rw [hbt.cell (p := ⟨nb, no + i, none⟩) hnb]; exact hnc i hlt
                have hsz : w.heap.size + 1 ≤ W0.heap.size := by have := HBE.out.size; have := HS1.out; omega
                have HC : Hid (Calls Try.prog 50 #[nv y ly.length] W0.drew fun e w' => e = .returned (.bool (formB ks[i])) ∧ Below W0.heap.size W0.drew w') := by
                  have hle := all_count_le (x := x) i hltk
                  have := HIH.out ks[i] (List.getElem_mem _) W0.drew (by show top ≤ W0.heap.size; omega) ((HOK.out.kid (List.getElem_mem hltk)).keep hbt.drew) (by have := HN.out; omega) (HFEW.out.kid (List.getElem_mem hltk))
                  rw [hy] at this ⊢; exact this
                have HGN : Hid (goodAt x.names i = false → formB (.mk x ks) = false) := fun h => by rw [HF.out, namesOk_false i hlt h]; rfl
                have HGK : Hid (formB ks[i] = false → formB (.mk x ks) = false) := fun h => by rw [HF.out, formL_false i hltk h, Bool.and_false]
                have HGT : Hid (goodAt x.names i = true → formB ks[i] = true → ∀ j, j < i + 1 → goodAt x.names j = true ∧ ∀ h : j < ks.length, formB ks[j] = true) := fun h1 h2 j hj => by
                  by_cases e : j = i
                  · subst e; exact ⟨h1, fun _ => h2⟩
                  · exact HP.out j (by omega)
                have HBE0 := Lib.hid HBE.out
                have HB0 : Hid (Below w.heap.size w W0) := HB1.out.trans (HBE.out.mono (by omega))
                have HNC : Hid (∀ j (h : j < x.names.length), W0.cell? ⟨nb, no + j, none⟩ = some (vs x.names[j])) := fun j h => by rw [hbt.cell (p := ⟨nb, no + j, none⟩) hnb]; exact hnc j h
                rw [hNe] at c1
                rw [hAe] at c2
                clear hbt hca hnc hAe hNe HP HBE HF hat hnb
                have hnl := HOK.out.hd.neach _ (List.getElem_mem hlt)
                have HQ1 : Hid (∀ w', Below W0.heap.size W0 w' → Below w.heap.size w w') := fun w' h => HB0.out.trans (h.mono (by omega))
                have HQ2 : Hid (∀ w', Below W0.heap.size W0 w' → Below (w.heap.size + 1) W1 w') := fun w' h => HBE0.out.trans (h.mono hsz)
                have hltk' : i < ks.length := hltk
                go_upto_region 11 with fail
                by_cases h0 : i = 0
                · have hgz : goodAt x.names i = nameOk (x.names[i]'hlt) := by subst h0; exact goodAt_zero x.names hlt
                  rw [hgz] at HGN HGT
                  clear hgz HNC
                  generalize hfk : formB ks[i] = fk at *
                  generalize x.names[i]'hlt = s1 at *
                  clear hfk hy
                  cases hnm : nameOk s1 with
                  | false =>
                    rw [hnm] at HGN HGT
                    have HE := Lib.hid (HGN.out rfl)
                    refine reg11_bad w.heap.size i nb no x.nc x.names.length s1 W0 _ hnl hnm hlt c1 n1 ?_
                    intros
                    rename Below _ _ _ => hfb
                    have HFB := Lib.hid hfb
                    clear hfb hnm HGN HGT HGK HC
                    go_wp2_with fail
                    go_ret
                    exact ⟨by rw [HE.out]; rfl, HQ1.out _ HFB.out⟩
                  | true =>
                    rw [hnm] at HGN HGT
                    refine reg11_first w.heap.size i nb no x.nc x.names.length s1 y ly.length a oa ks.length x.kc fk W0 _ hnl hnm hlt c1 n1 h0 hltk c2 k0 k1 k2 k3 k4 k5 k6 HC.out ?_
                    intros
                    rename Below _ _ _ => hfb
                    have HFB := Lib.hid hfb
                    clear hfb hnm HGN HC
                    cases fk with
                    | false =>
                      have HE := Lib.hid (HGK.out rfl)
                      clear HGT HGK
                      go_wp2_with fail
                      go_ret
                      exact ⟨by rw [HE.out]; rfl, HQ1.out _ HFB.out⟩
                    | true =>
                      have HT := Lib.hid (HGT.out rfl rfl)
                      clear HGT HGK
                      go_wp2_with fail
                      go_roundw
                      case rel => exact ⟨i + 1, by omega, by go_num, HT.out, HQ2.out _ HFB.out⟩
                      case measure => simp [intOf]; omega
                · obtain ⟨j, hj⟩ : ∃ j, i = j + 1 := ⟨i - 1, by omega⟩
                  have n0 : W0.cell? ⟨nb, no + j, none⟩ = some (vs (x.names[j]'(by omega))) := HNC.out j (by omega)
                  rw [goodAt_pos x.names i (by omega) hlt] at HGN HGT
                  have hj' : x.names[i - 1]'(by omega) = x.names[j]'(by omega) := by congr 1; omega
                  rw [hj'] at HGN HGT
                  clear hj' HNC
                  generalize hfk : formB ks[i] = fk at *
                  generalize x.names[i]'hlt = s1 at *
                  generalize x.names[j]'(by omega) = s0 at *
                  clear hfk hy
                  cases hnm : nameOk s1 with
                  | false =>
                    rw [hnm] at HGN HGT
                    have HE := Lib.hid (HGN.out rfl)
                    refine reg11_bad w.heap.size i nb no x.nc x.names.length s1 W0 _ hnl hnm hlt c1 n1 ?_
                    intros
                    rename Below _ _ _ => hfb
                    have HFB := Lib.hid hfb
                    clear hfb hnm HGN HGT HGK HC hj
                    go_wp2_with fail
                    go_ret
                    exact ⟨by rw [HE.out]; rfl, HQ1.out _ HFB.out⟩
                  | true =>
                    rw [hnm] at HGN HGT
                    cases hbl : Op.bytesLess s0 s1 with
                    | false =>
                      rw [hbl] at HGN HGT
                      have HE := Lib.hid (HGN.out rfl)
                      refine reg11_order w.heap.size i j nb no x.nc x.names.length s1 s0 W0 _ hnl hnm hlt hnam c1 n1 hj n0 (less_not hbl) ?_
                      intros
                      rename Below _ _ _ => hfb
                      have HFB := Lib.hid hfb
                      clear hfb hnm hbl HGN HGT HGK HC hj
                      go_wp2_with fail
                      go_ret
                      exact ⟨by rw [HE.out]; rfl, HQ1.out _ HFB.out⟩
                    | true =>
                      rw [hbl] at HGN HGT
                      obtain ⟨hgt, heq⟩ := less_yes hbl
                      refine reg11_later w.heap.size i j nb no x.nc x.names.length s1 s0 y ly.length a oa ks.length x.kc fk W0 _ hnl hnm hlt hnam c1 n1 hj n0 hgt heq hltk c2 k0 k1 k2 k3 k4 k5 k6 HC.out ?_
                      intros
                      rename Below _ _ _ => hfb
                      have HFB := Lib.hid hfb
                      clear hfb hnm hbl hgt heq HGN HC hj
                      cases fk with
                      | false =>
                        have HE := Lib.hid (HGK.out rfl)
                        clear HGT HGK
                        go_wp2_with fail
                        go_ret
                        exact ⟨by rw [HE.out]; rfl, HQ1.out _ HFB.out⟩
                      | true =>
                        have HT := Lib.hid (HGT.out rfl rfl)
                        clear HGT HGK
                        go_wp2_with fail
                        go_roundw
                        case rel => exact ⟨i + 1, by omega, by go_num, HT.out, HQ2.out _ HFB.out⟩
                        case measure => simp [intOf]; omega
              · have HT : Hid (formB (.mk x ks) = true) := by
                  show _ = _
                  have hle := HLN.out
                  rw [HF.out, namesOk_true (fun j hj => (HP.out j (by omega)).1), formL_true (fun j hj => (HP.out j (by omega)).2 hj)]; rfl
                have HBE2 : Hid (Below w.heap.size w W0) := HB1.out.trans (HBE.out.mono (by omega))
                obtain rfl : i = x.names.length := by omega
                clear HP HF
                go_wp2_with fail
                go_ret
                exact ⟨by rw [HT.out]; rfl, HBE2.out⟩
          · have el : ((x.names.length : Int) == (ks.length : Int)) = false := by rw [beq_eq_false_iff_ne]; omega
            have el' : (x.names.length == ks.length) = false := by rw [beq_eq_false_iff_ne]; omega
            have HF : Hid (formB (.mk x ks) = false) := by show _ = _; rw [HF0.out, HF1.out, decide_eq_false hln]; simp
            clear HF0 HF1 hln
            go_wp2_with fail
            go_ret
            exact ⟨by rw [HF.out]; rfl, HB1.out⟩
        · have hl' : decide (0 < x.target.length) = true := decide_eq_true (List.length_pos_iff.2 hl)
          have HF : Hid (formB (.mk x ks) = false) := by show _ = _; rw [HF0.out, HF1.out, decide_eq_false hl]; simp
          clear HF0 HF1 hl
          go_wp2_with fail
          go_ret
          exact ⟨by rw [HF.out]; rfl, HB1.out⟩
    · have e1 : ((x.kind.toNat : Int) == 1) = false := by rw [show (1 : Int) = ((1 : By).toNat : Int) from rfl, vb_eq]; exact decide_eq_false k1
      rw [if_neg k1] at HF1
      clear k1
      by_cases k2 : x.kind = 2
      · have e2 : ((x.kind.toNat : Int) == 2) = true := by rw [k2]; rfl
        rw [if_pos k2] at HF1
        clear k2
        by_cases hdir : 0 < x.names.length + ks.length
        · have hdir' : (0 : Int) < (x.names.length : Int) + (ks.length : Int) := by omega
          have HF : Hid (formB (.mk x ks) = false) := by
            show _ = _
            rw [HF0.out, HF1.out]
            by_cases h1 : x.names = []
            · rw [h1] at hdir; simp at hdir
              rw [decide_eq_false (by omega : ¬ ks.length = 0)]; simp
            · rw [decide_eq_false h1]; simp
          clear HF0 HF1 hdir
          go_wp2_with fail
          go_ret
          exact ⟨by rw [HF.out]; rfl, HB1.out⟩
        · have hdir' : ¬ (0 : Int) < (x.names.length : Int) + (ks.length : Int) := by omega
          have hn0 : x.names = [] := List.eq_nil_of_length_eq_zero (by omega)
          have hk0 : ks.length = 0 := by omega
          by_cases hl : x.target = []
          · have hl' : decide (0 < x.target.length) = false := by rw [hl]; rfl
            have HF2 : Hid (formB (.mk x ks) = decide (x.data.length ≤ 1024)) := by
              show _ = _
              rw [HF0.out, HF1.out, decide_eq_true hn0, decide_eq_true hk0, decide_eq_true hl, List.eq_nil_of_length_eq_zero hk0, formL]; simp
            clear HF0 HF1 hl hn0 hk0 hdir
            by_cases hdt : x.data.length ≤ 1024
            · have hdt' : decide ((x.data.length : Int) ≤ 1024) = true := decide_eq_true (by omega)
              have HF : Hid (formB (.mk x ks) = true) := by show _ = _; rw [HF2.out, decide_eq_true hdt]
              clear HF2
              go_wp2_with fail
              go_ret
              exact ⟨by rw [HF.out]; rfl, HB1.out⟩
            · have hdt' : decide ((x.data.length : Int) ≤ 1024) = false := decide_eq_false (by omega)
              have HF : Hid (formB (.mk x ks) = false) := by show _ = _; rw [HF2.out, decide_eq_false hdt]
              clear HF2
              go_wp2_with fail
              go_ret
              exact ⟨by rw [HF.out]; rfl, HB1.out⟩
          · have hl' : decide (0 < x.target.length) = true := decide_eq_true (List.length_pos_iff.2 hl)
            have HF : Hid (formB (.mk x ks) = false) := by show _ = _; rw [HF0.out, HF1.out, decide_eq_false hl]; simp
            clear HF0 HF1 hl hn0 hk0 hdir
            go_wp2_with fail
            go_ret
            exact ⟨by rw [HF.out]; rfl, HB1.out⟩
      · have e2 : ((x.kind.toNat : Int) == 2) = false := by rw [show (2 : Int) = ((2 : By).toNat : Int) from rfl, vb_eq]; exact decide_eq_false k2
        rw [if_neg k2] at HF1
        clear k2
        by_cases k3 : x.kind = 3
        · have e3 : ((x.kind.toNat : Int) == 3) = true := by rw [k3]; rfl
          rw [if_pos k3] at HF1
          clear k3
          by_cases hdir : 0 < x.names.length + ks.length
          · have hdir' : (0 : Int) < (x.names.length : Int) + (ks.length : Int) := by omega
            have HF : Hid (formB (.mk x ks) = false) := by
              show _ = _
              rw [HF0.out, HF1.out]
              by_cases h1 : x.names = []
              · rw [h1] at hdir; simp at hdir
                rw [decide_eq_false (by omega : ¬ ks.length = 0)]; simp
              · rw [decide_eq_false h1]; simp
            clear HF0 HF1 hdir
            go_wp2_with fail
            go_ret
            exact ⟨by rw [HF.out]; rfl, HB1.out⟩
          · have hdir' : ¬ (0 : Int) < (x.names.length : Int) + (ks.length : Int) := by omega
            have hn0 : x.names = [] := List.eq_nil_of_length_eq_zero (by omega)
            have hk0 : ks.length = 0 := by omega
            cases hnf : noFile x with
            | false =>
              have HF : Hid (formB (.mk x ks) = false) := by show _ = _; rw [HF0.out, HF1.out, hnf]; simp
              clear HF0 HF1 hnf hn0 hk0 hdir
              go_wp2_with fail
              go_ret
              exact ⟨by rw [HF.out]; rfl, HB1.out⟩
            | true =>
              have HF2 : Hid (formB (.mk x ks) = (decide (1 ≤ x.target.length) && decide (x.target.length ≤ 1024))) := by
                show _ = _
                rw [HF0.out, HF1.out, decide_eq_true hn0, decide_eq_true hk0, hnf, List.eq_nil_of_length_eq_zero hk0, formL]; simp
              clear HF0 HF1 hnf hn0 hk0 hdir
              by_cases hl : 0 < x.target.length
              · have hl' : decide (0 < x.target.length) = true := decide_eq_true hl
                by_cases hdt : x.target.length ≤ 1024
                · have hdt' : decide ((x.target.length : Int) ≤ 1024) = true := decide_eq_true (by omega)
                  have HF : Hid (formB (.mk x ks) = true) := by show _ = _; rw [HF2.out, decide_eq_true hdt, decide_eq_true (by omega : 1 ≤ x.target.length)]; rfl
                  clear HF2
                  go_wp2_with fail
                  go_ret
                  exact ⟨by rw [HF.out]; rfl, HB1.out⟩
                · have hdt' : decide ((x.target.length : Int) ≤ 1024) = false := decide_eq_false (by omega)
                  have HF : Hid (formB (.mk x ks) = false) := by show _ = _; rw [HF2.out, decide_eq_false hdt]; simp
                  clear HF2
                  go_wp2_with fail
                  go_ret
                  exact ⟨by rw [HF.out]; rfl, HB1.out⟩
              · have hl' : decide (0 < x.target.length) = false := decide_eq_false hl
                have HF : Hid (formB (.mk x ks) = false) := by show _ = _; rw [HF2.out, decide_eq_false (by omega : ¬ 1 ≤ x.target.length)]; rfl
                clear HF2
                go_wp2_with fail
                go_ret
                exact ⟨by rw [HF.out]; rfl, HB1.out⟩
        · have e3 : ((x.kind.toNat : Int) == 3) = false := by rw [show (3 : Int) = ((3 : By).toNat : Int) from rfl, vb_eq]; exact decide_eq_false k3
          rw [if_neg k3] at HF1
          have HF : Hid (formB (.mk x ks) = false) := by show _ = _; rw [HF0.out, HF1.out]; rfl
          clear HF0 HF1 k3
          go_wp2_with fail
          go_ret
          exact ⟨by rw [HF.out]; rfl, HB1.out⟩
end Go.Proofs.Ytlehgacbcacokaa
