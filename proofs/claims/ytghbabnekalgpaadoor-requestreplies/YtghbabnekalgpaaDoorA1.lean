/- Requests that are read are small; two lists of numbers that are the same; the reference's Alike of two requests that are. -/
import Derived.Test.YtghbabnekalgpaaDoorQ8
import Derived.BigQuiet
namespace Go.Proofs.YtghbabnekalgpaaDoor
open Go.RowKit BaseMath WireMath ReqMath

theorem textsR_len (m : Int) (r : Rd) : (textsR m r).length ≤ 100000 := by
  unfold textsR; split
  · exact Nat.zero_le _
  · have h := (textsGo_len (numR 1 r) [] (texts0 m r)).1
    have h2 : numR 1 r < 256 := numR_lt 1 r
    unfold textsAll; simp at h; omega
theorem textR_len (r : Rd) : (textR r).length ≤ 100000 := by
  have h := taken_length (numR 2 r) (after 2 r)
  have h2 : numR 2 r < 65536 := numR_lt 2 r
  unfold textR; omega
theorem iarch_len (r : Rd) : (iarch r).length ≤ 100000 := textR_len (textA r)
theorem irefs_len (r : Rd) : (irefs r).length ≤ 100000 := textsR_len 16 (textA (textA r))
def OutV.small (x : OutV) : Prop := x.arch.length ≤ 100000 ∧ x.refs.length ≤ 100000 ∧ x.needs.length ≤ 100000
def ReqV.small (r : ReqV) : Prop := r.arch.length ≤ 100000 ∧ r.refs.length ≤ 100000 ∧ r.outs.length ≤ 100000 ∧ ∀ x ∈ r.outs, OutV.small x
theorem needsGo_len (place : Nat) : ∀ (k : Nat) (acc : List Int) (r : Rd) (ns' : List Int) (r' : Rd), needsGo place k acc r = some (ns', r') → ns'.length = acc.length + k
  | 0, acc, r, ns', r', h => by simp only [needsGo, Option.some.injEq, Prod.mk.injEq] at h; rw [← h.1]; rfl
  | k + 1, acc, r, ns', r', h => by
    unfold needsGo at h
    split at h
    · cases h
    · have := needsGo_len place k _ _ _ _ h
      simp at this; omega
theorem needsR_len (place : Nat) (r : Rd) (ns' : List Int) (r' : Rd) (h : needsR place r = some (ns', r')) : ns'.length ≤ 100000 := by
  unfold needsR at h
  split at h
  · cases h
  · have := needsGo_len place _ _ _ _ _ h
    simp at this; omega
theorem outsGo_small (k : Nat) : ∀ (i : Nat) (acc : List OutV) (r : Rd) (os : List OutV) (r' : Rd), (∀ x ∈ acc, OutV.small x) → outsGo k i acc r = some (os, r') → os.length = acc.length + k ∧ ∀ x ∈ os, OutV.small x := by
  induction k with
  | zero =>
    intro i acc r os r' ha h
    rw [outsGo] at h
    injection h with h
    injection h with h1 h2
    subst h1
    exact ⟨rfl, ha⟩
  | succ k ih =>
    intro i acc r os r' ha h
    rw [outsGo] at h
    cases hq : needsR i (itemA r) with
    | none => rw [hq] at h; cases h
    | some y =>
      obtain ⟨ns', r2⟩ := y
      rw [hq] at h
      have e1 := iarch_len r; have e2 := irefs_len r; have e3 := needsR_len i _ _ _ hq
      clear hq
      change outsGo k (i + 1) (acc ++ [⟨iname r, iarch r, irefs r, ns'⟩]) r2 = some (os, r') at h
      generalize iname r = nm at *; generalize iarch r = ar at *; generalize irefs r = rf at *
      have hx : ∀ x ∈ acc ++ [(⟨nm, ar, rf, ns'⟩ : OutV)], OutV.small x := fun x hx => by
        rcases List.mem_append.1 hx with h1 | h1
        · exact ha x h1
        · rw [List.mem_singleton.1 h1]
          exact ⟨e1, e2, e3⟩
      have := ih (i + 1) _ _ _ _ hx h
      rw [List.length_append, List.length_singleton] at this
      exact ⟨by omega, this.2⟩
theorem zero_small : ReqV.small zeroV := ⟨Nat.zero_le _, Nat.zero_le _, Nat.zero_le _, fun x hx => by cases hx⟩
theorem fin_small {v : ReqV} (h : ReqV.small v) (r : Rd) : ReqV.small (finR v r).1 := by
  unfold finR; split
  · exact h
  · exact zero_small
theorem outsR_small (r : Rd) (os : List OutV) (r' : Rd) (h : outsR r = some (os, r')) : os.length ≤ 100000 ∧ ∀ x ∈ os, OutV.small x := by
  unfold outsR at h
  split at h
  · cases h
  · rename_i hc
    obtain ⟨h1, h2⟩ := outsGo_small _ _ _ _ _ _ (fun x hx => by cases hx) h
    simp only [List.length_nil] at h1
    exact ⟨by omega, h2⟩
theorem decK_small (k : By) (r : Rd) : ReqV.small (decK k r).1 := by
  unfold decK
  by_cases h0 : hasK k.toNat = 0
  · rw [if_pos h0]; exact zero_small
  · rw [if_neg h0]
    by_cases h1 : hasK k.toNat = 1
    · rw [if_pos h1]; exact fin_small ⟨Nat.zero_le _, Nat.zero_le _, Nat.zero_le _, fun x hx => by cases hx⟩ _
    · rw [if_neg h1]
      by_cases h2 : hasK k.toNat = 2
      · rw [if_pos h2]; exact fin_small ⟨Nat.zero_le _, Nat.zero_le _, Nat.zero_le _, fun x hx => by cases hx⟩ _
      · rw [if_neg h2]
        by_cases h3 : hasK k.toNat = 3
        · rw [if_pos h3]
          have e1 := iarch_len r; have e2 := irefs_len r
          generalize iarch r = ar at *; generalize irefs r = rf at *; generalize itemA r = r2
          exact fin_small ⟨e1, e2, Nat.zero_le _, fun x hx => by cases hx⟩ _
        · rw [if_neg h3]
          cases hq : outsR r with
          | none => exact zero_small
          | some y =>
            obtain ⟨os, r'⟩ := y
            obtain ⟨h1, h2⟩ := outsR_small r os r' hq
            exact fin_small ⟨Nat.zero_le _, Nat.zero_le _, h1, h2⟩ _
theorem decV_small (p : List By) : ReqV.small (decV p).1 := by
  unfold decV
  by_cases h : 2048 < p.length
  · rw [if_pos h]; exact zero_small
  · rw [if_neg h]; exact decK_small _ _
set_option maxHeartbeats 1000000 in
set_option maxRecDepth 100000 in
theorem ints_same (A B : Option Addr) (ca cb : Nat) (l : List Int) (hl : l.length ≤ 100000) (w : World) (hA : NeedsAt w A l) (hB : NeedsAt w B l) :
    Calls Tryd.prog 54 #[.slice A l.length ca, .slice B l.length cb] w fun e w' => e = .returned (.bool true) ∧ ∃ q, w' = w.drewN q := by
  have HA := Lib.hid hA; have HB := Lib.hid hB
  clear hA hB
  go_enter Tryd.func54, Tryd.ntmps54
  go_wp2_with fail
  go_loopw [5] (fun vv wr => ∃ k : Nat, k ≤ l.length ∧ vv = .int .i64 k ∧ Hid (∃ q, wr = w.drewN q)) (fun vv _ => l.length - (intOf vv).toNat)
  case atStart => exact ⟨0, Nat.zero_le _, rfl, 0, rfl⟩
  case round =>
    obtain ⟨k, hk, rfl, HR⟩ := hrel
    rename World => W0
    by_cases hlt : k < l.length
    · obtain ⟨a, oa, rfl, ha⟩ := HA.out (by omega)
      obtain ⟨b, ob, rfl, hb⟩ := HB.out (by omega)
      obtain ⟨q, rfl⟩ := HR.out
      have c1 := ha k hlt
      have c2 := hb k hlt
      generalize l[k] = x at *
      clear ha hb HA HB HR
      go_wp2_with fail
      go_quiet (fail)
      go_wp2_with fail
      go_roundw
      case rel => exact ⟨k + 1, by omega, by go_num, _, rfl⟩
      case measure => simp [intOf]; omega
    · obtain rfl : k = l.length := by omega
      go_wp2
      go_ret
      exact ⟨rfl, HR.out⟩
set_option maxHeartbeats 4000000 in
set_option maxRecDepth 100000 in
theorem alike_any (r : ReqV) (hsm : ReqV.small r) (va vb' : Value) (w : World) (ha : ReqIs w va r) (hb : ReqIs w vb' r) :
    Calls Tryd.prog 19 #[va, vb'] w fun e w' => e = .returned (.bool true) ∧ Below w.heap.size w w' := by
  obtain ⟨A, ca, R, cr, O, co, rfl, hA, hR, hO⟩ := ha
  obtain ⟨A', ca', R', cr', O', co', rfl, hA', hR', hO'⟩ := hb
  obtain ⟨hs1, hs2, hs3, hs4⟩ := hsm
  have HS4 := Lib.hid hs4
  have HA := Lib.hid hA; have HR := Lib.hid hR; have HO := Lib.hid hO; have HA' := Lib.hid hA'; have HR' := Lib.hid hR'; have HO' := Lib.hid hO'
  have hbx1 : Blk ((w.alloc (.cells #[vb r.kind, vs r.name, vs r.path, .slice A r.arch.length ca, .slice R r.refs.length cr, .slice O r.outs.length co] 40)).alloc (.cells #[vb r.kind, vs r.name, vs r.path, .slice A' r.arch.length ca', .slice R' r.refs.length cr', .slice O' r.outs.length co'] 40)) w.heap.size 40 [vb r.kind, vs r.name, vs r.path, .slice A r.arch.length ca, .slice R r.refs.length cr, .slice O r.outs.length co] := (Blk.new w 40 _).alloc _
  have hbx2 : Blk ((w.alloc (.cells #[vb r.kind, vs r.name, vs r.path, .slice A r.arch.length ca, .slice R r.refs.length cr, .slice O r.outs.length co] 40)).alloc (.cells #[vb r.kind, vs r.name, vs r.path, .slice A' r.arch.length ca', .slice R' r.refs.length cr', .slice O' r.outs.length co'] 40)) (w.heap.size + 1) 40 [vb r.kind, vs r.name, vs r.path, .slice A' r.arch.length ca', .slice R' r.refs.length cr', .slice O' r.outs.length co'] := by
    have := Blk.new (w.alloc (.cells #[vb r.kind, vs r.name, vs r.path, .slice A r.arch.length ca, .slice R r.refs.length cr, .slice O r.outs.length co] 40)) 40 #[vb r.kind, vs r.name, vs r.path, .slice A' r.arch.length ca', .slice R' r.refs.length cr', .slice O' r.outs.length co']
    rw [show (w.alloc (.cells #[vb r.kind, vs r.name, vs r.path, .slice A r.arch.length ca, .slice R r.refs.length cr, .slice O r.outs.length co] 40)).heap.size = w.heap.size + 1 by simp] at this
    exact this
  have hbl : Below w.heap.size w ((w.alloc (.cells #[vb r.kind, vs r.name, vs r.path, .slice A r.arch.length ca, .slice R r.refs.length cr, .slice O r.outs.length co] 40)).alloc (.cells #[vb r.kind, vs r.name, vs r.path, .slice A' r.arch.length ca', .slice R' r.refs.length cr', .slice O' r.outs.length co'] 40)) := ((Below.refl _ _).alloc (Nat.le_refl _) _).alloc (by simp) _
  clear hA hR hO hA' hR' hO' hs4
  go_enter Tryd.func19, Tryd.ntmps19
  have HBX1 := Lib.hid hbx1; have HBX2 := Lib.hid hbx2; have HBL := Lib.hid hbl
  have a0 := hbx1.cell 0; have a1 := hbx1.cell 1; have a2 := hbx1.cell 2; have a3 := hbx1.cell 3; have a4 := hbx1.cell 4; have a5 := hbx1.cell 5
  have e0 := hbx2.cell 0; have e1 := hbx2.cell 1; have e2 := hbx2.cell 2; have e3 := hbx2.cell 3; have e4 := hbx2.cell 4; have e5 := hbx2.cell 5
  simp only [List.getElem?_cons_zero, List.getElem?_cons_succ] at a0 a1 a2 a3 a4 a5 e0 e1 e2 e3 e4 e5
  clear hbx1 hbx2 hbl
  go_wp2_with fail
  generalize (w.alloc (.cells #[vb r.kind, vs r.name, vs r.path, .slice A r.arch.length ca, .slice R r.refs.length cr, .slice O r.outs.length co] 40)).alloc (.cells #[vb r.kind, vs r.name, vs r.path, .slice A' r.arch.length ca', .slice R' r.refs.length cr', .slice O' r.outs.length co'] 40) = W1 at *
  refine (bytes_same A A' ca ca' r.arch hs1 _ (HA.out.below HBL.out) (HA'.out.below HBL.out)).mono ?_
  rintro e w2 ⟨rfl, q1, rfl⟩
  go_wp2_with fail
  refine (texts_same R R' cr cr' r.refs hs2 _ (HR.out.belowS (below_drewN HBL.out q1)) (HR'.out.belowS (below_drewN HBL.out q1))).mono ?_
  rintro e w2 ⟨rfl, q2, rfl⟩
  go_wp2_with fail
  have hsz1 : w.heap.size + 1 < W1.heap.size := HBX2.out.lt
  have HBD : Hid (Below W1.heap.size W1 (W1.drewN (q1 + q2))) := below_drewN (Below.refl _ _) _
  clear a0 a1 a2 a3 a4 a5 e0 e1 e2 e3 e4 e5
  go_loopw [5] (fun vv wr => ∃ k : Nat, k ≤ r.outs.length ∧ vv = .int .i64 k ∧ Hid (Below W1.heap.size W1 wr)) (fun vv _ => r.outs.length - (intOf vv).toNat)
  case atStart => exact ⟨0, Nat.zero_le _, rfl, HBD.out⟩
  case round =>
    clear HBD
    obtain ⟨k, hk, rfl, HB⟩ := hrel
    rename World => W0
    have hx1 : Blk W0 w.heap.size 40 _ := Blk.below HBX1.out HB.out (by omega)
    have hx2 : Blk W0 (w.heap.size + 1) 40 _ := Blk.below HBX2.out HB.out (by omega)
    have a5 := hx1.cell 5; have e5 := hx2.cell 5
    simp only [List.getElem?_cons_zero, List.getElem?_cons_succ] at a5 e5
    have hw0 : Below w.heap.size w W0 := HBL.out.trans (HB.out.mono HBL.out.size)
    have HW0 := Lib.hid hw0
    clear hx1 hx2
    by_cases hlt : k < r.outs.length
    · obtain ⟨b, o, rfl, hc⟩ := (HO.out.below hw0) (by omega)
      obtain ⟨b', o', rfl, hc'⟩ := (HO'.out.below hw0) (by omega)
      obtain ⟨xA, xa, xR, xr, xM, xm, c0, c1, c2, c3, h4⟩ := hc k hlt
      obtain ⟨yA, ya, yR, yr, yM, ym, d0, d1, d2, d3, h4'⟩ := hc' k hlt
      have H4 := Lib.hid h4; have H4' := Lib.hid h4'
      have HSX := Lib.hid (HS4.out r.outs[k] (List.getElem_mem hlt))
      clear hc hc' h4 h4' hw0
      generalize r.outs[k] = x at *
      go_upto_region 6 with fail
      go_region_held3 (fun W => W.cell? ⟨w.heap.size, 5, none⟩ = some (.slice (some ⟨b, o, none⟩) r.outs.length co) ∧ W.cell? ⟨w.heap.size + 1, 5, none⟩ = some (.slice (some ⟨b', o', none⟩) r.outs.length co') ∧
        W.cell? ⟨b, o + k * 4, none⟩ = some (vs x.name) ∧ W.cell? ⟨b, o + k * 4 + 1, none⟩ = some (.slice xA x.arch.length xa) ∧ W.cell? ⟨b, o + k * 4 + 2, none⟩ = some (.slice xR x.refs.length xr) ∧ W.cell? ⟨b, o + k * 4 + 3, none⟩ = some (.slice xM x.needs.length xm) ∧
        W.cell? ⟨b', o' + k * 4, none⟩ = some (vs x.name) ∧ W.cell? ⟨b', o' + k * 4 + 1, none⟩ = some (.slice yA x.arch.length ya) ∧ W.cell? ⟨b', o' + k * 4 + 2, none⟩ = some (.slice yR x.refs.length yr) ∧ W.cell? ⟨b', o' + k * 4 + 3, none⟩ = some (.slice yM x.needs.length ym)) (go_keep) (fail)
      all_goals
        go_wp2_with fail
        refine (bytes_same xA yA xa ya x.arch HSX.out.1 _ (H4.out.1.below ((((Below.refl _ _).alloc (Nat.le_refl _) _).alloc (by simp) _).drew)) (H4'.out.1.below ((((Below.refl _ _).alloc (Nat.le_refl _) _).alloc (by simp) _).drew))).mono ?_
        rintro e w2 ⟨rfl, p1, rfl⟩
        go_wp2_with fail
        refine (texts_same xR yR xr yr x.refs HSX.out.2.1 _ (H4.out.2.1.belowS ?b1) (H4'.out.2.1.belowS ?b2)).mono ?_
        case b1 => exact below_drewN (((Below.refl _ _).alloc (Nat.le_refl _) _).alloc (by simp) _) _
        case b2 => exact below_drewN (((Below.refl _ _).alloc (Nat.le_refl _) _).alloc (by simp) _) _
        rintro e w2 ⟨rfl, p2, rfl⟩
        go_wp2_with fail
        refine (ints_same xM yM xm ym x.needs HSX.out.2.2 _ (H4.out.2.2.below ?b1) (H4'.out.2.2.below ?b2)).mono ?_
        case b1 => exact below_drewN (((Below.refl _ _).alloc (Nat.le_refl _) _).alloc (by simp) _) _
        case b2 => exact below_drewN (((Below.refl _ _).alloc (Nat.le_refl _) _).alloc (by simp) _) _
        rintro e w2 ⟨rfl, p3, rfl⟩
        go_wp2_with fail
        go_roundw
        case rel => exact ⟨k + 1, by omega, by go_num, HB.out.trans (Below.mono (below_drewN (((Below.refl W0.heap.size W0).alloc (Nat.le_refl _) _).alloc (by simp) _) _) HB.out.size)⟩
        case measure => simp [intOf]; omega

    · obtain rfl : k = r.outs.length := by omega
      clear hw0
      go_wp2_with fail
      go_ret
      exact ⟨rfl, HW0.out⟩
end Go.Proofs.YtghbabnekalgpaaDoor
