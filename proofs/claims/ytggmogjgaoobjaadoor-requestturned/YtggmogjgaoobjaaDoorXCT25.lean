/- The contract of the reference's Decode. -/
import Derived.Test.YtggmogjgaoobjaaDoorXCT22
import Derived.Test.YtggmogjgaoobjaaDoorXCT23
import Derived.Test.YtggmogjgaoobjaaDoorXCT24
import Derived.Test.YtggmogjgaoobjaaDoorXCT20
import Derived.BigQuiet
import Derived.Test.YtggmogjgaoobjaaDoorXCT4
import Derived.Test.YtggmogjgaoobjaaDoorXCT5
namespace Go.Proofs.YtggmogjgaoobjaaDoor
open Go.RowKit BaseMath WireMath ReqMath

theorem rdecode_any (A : Option Addr) (c : Nat) (p : List By) (hp : p.length ≤ 500000) (hN : A = none → c = 0) (hc : p.length ≤ c) (w : World) (hA : SrcIs w A p) :
    Calls Tryd.prog 55 #[.slice A p.length c] w (DecPost w (decV p)) := by
  by_cases hlen : 2048 < p.length
  · exact rdecode_long A c p hlen w
  · have h : numR 1 ⟨p, false⟩ < 256 := numR_lt 1 _
    rcases has_cases (numR 1 ⟨p, false⟩) with h | h | h | h | h
    · exact rdecode_0 A c p hp hN hc hlen h.2 w hA
    · exact rdecode_1 A c p hp hN hc hlen h.2 w hA
    · exact rdecode_2 A c p hp hN hc hlen h.2 w hA
    · exact rdecode_3 A c p hp hN hc hlen h.2 w hA
    · exact rdecode_4 A c p hp hN hc hlen h.2 w hA
end Go.Proofs.YtggmogjgaoobjaaDoor

/- Requests that are read are small; two lists of numbers that are the same; the reference's Alike of two requests that are. -/
namespace Go.Proofs.YtggmogjgaoobjaaDoor
open Go.RowKit BaseMath WireMath ReqMath

theorem textsR_len (m : Int) (r : Rd) : (textsR m r).length ≤ 100000 := by
  unfold textsR; split
  · exact Nat.zero_le _
  · have h := (textsGo_len (numR 1 r) [] (texts0 m r)).1
    have h2 : numR 1 r < 256 := numR_lt 1 r
    unfold textsAll; simp at h; omega
theorem textR_len (r : Rd) : (textR r).length ≤ 100000 := by
  have h := taken_length (numR 2 r) (after 2 r)
  have h2 : numR 2 r < 65536 := numR_lt 2 r
  unfold textR; omega
theorem iarch_len (r : Rd) : (iarch r).length ≤ 100000 := textR_len (textA r)
theorem irefs_len (r : Rd) : (irefs r).length ≤ 100000 := textsR_len 16 (textA (textA r))
def OutV.small (x : OutV) : Prop := x.arch.length ≤ 100000 ∧ x.refs.length ≤ 100000 ∧ x.needs.length ≤ 100000
def ReqV.small (r : ReqV) : Prop := r.arch.length ≤ 100000 ∧ r.refs.length ≤ 100000 ∧ r.outs.length ≤ 100000 ∧ ∀ x ∈ r.outs, OutV.small x
theorem needsGo_len (place : Nat) : ∀ (k : Nat) (acc : List Int) (r : Rd) (ns' : List Int) (r' : Rd), needsGo place k acc r = some (ns', r') → ns'.length = acc.length + k
  | 0, acc, r, ns', r', h => by simp only [needsGo, Option.some.injEq, Prod.mk.injEq] at h; rw [← h.1]; rfl
  | k + 1, acc, r, ns', r', h => by
    unfold needsGo at h
    split at h
    · cases h
    · have := needsGo_len place k _ _ _ _ h
      simp at this; omega
theorem needsR_len (place : Nat) (r : Rd) (ns' : List Int) (r' : Rd) (h : needsR place r = some (ns', r')) : ns'.length ≤ 100000 := by
  unfold needsR at h
  split at h
  · cases h
  · have := needsGo_len place _ _ _ _ _ h
    simp at this; omega
theorem outsGo_small (k : Nat) : ∀ (i : Nat) (acc : List OutV) (r : Rd) (os : List OutV) (r' : Rd), (∀ x ∈ acc, OutV.small x) → outsGo k i acc r = some (os, r') → os.length = acc.length + k ∧ ∀ x ∈ os, OutV.small x := by
  induction k with
  | zero =>
    intro i acc r os r' ha h
    rw [outsGo] at h
    injection h with h
    injection h with h1 h2
    subst h1
    exact ⟨rfl, ha⟩
  | succ k ih =>
    intro i acc r os r' ha h
    rw [outsGo] at h
    cases hq : needsR i (itemA r) with
    | none => rw [hq] at h; cases h
    | some y =>
      obtain ⟨ns', r2⟩ := y
      rw [hq] at h
      have e1 := iarch_len r; have e2 := irefs_len r; have e3 := needsR_len i _ _ _ hq
      clear hq
      change outsGo k (i + 1) (acc ++ [⟨iname r, iarch r, irefs r, ns'⟩]) r2 = some (os, r') at h
      generalize iname r = nm at *; generalize iarch r = ar at *; generalize irefs r = rf at *
      have hx : ∀ x ∈ acc ++ [(⟨nm, ar, rf, ns'⟩ : OutV)], OutV.small x := fun x hx => by
        rcases List.mem_append.1 hx with h1 | h1
        · exact ha x h1
        · rw [List.mem_singleton.1 h1]
          exact ⟨e1, e2, e3⟩
      have := ih (i + 1) _ _ _ _ hx h
      rw [List.length_append, List.length_singleton] at this
      exact ⟨by omega, this.2⟩
theorem zero_small : ReqV.small zeroV := ⟨Nat.zero_le _, Nat.zero_le _, Nat.zero_le _, fun x hx => by cases hx⟩
theorem fin_small {v : ReqV} (h : ReqV.small v) (r : Rd) : ReqV.small (finR v r).1 := by
  unfold finR; split
  · exact h
  · exact zero_small
theorem outsR_small (r : Rd) (os : List OutV) (r' : Rd) (h : outsR r = some (os, r')) : os.length ≤ 100000 ∧ ∀ x ∈ os, OutV.small x := by
  unfold outsR at h
  split at h
  · cases h
  · rename_i hc
    obtain ⟨h1, h2⟩ := outsGo_small _ _ _ _ _ _ (fun x hx => by cases hx) h
    simp only [List.length_nil] at h1
    exact ⟨by omega, h2⟩
theorem decK_small (k : By) (r : Rd) : ReqV.small (decK k r).1 := by
  unfold decK
  by_cases h0 : hasK k.toNat = 0
  · rw [if_pos h0]; exact zero_small
  · rw [if_neg h0]
    by_cases h1 : hasK k.toNat = 1
    · rw [if_pos h1]; exact fin_small ⟨Nat.zero_le _, Nat.zero_le _, Nat.zero_le _, fun x hx => by cases hx⟩ _
    · rw [if_neg h1]
      by_cases h2 : hasK k.toNat = 2
      · rw [if_pos h2]; exact fin_small ⟨Nat.zero_le _, Nat.zero_le _, Nat.zero_le _, fun x hx => by cases hx⟩ _
      · rw [if_neg h2]
        by_cases h3 : hasK k.toNat = 3
        · rw [if_pos h3]
          have e1 := iarch_len r; have e2 := irefs_len r
          generalize iarch r = ar at *; generalize irefs r = rf at *; generalize itemA r = r2
          exact fin_small ⟨e1, e2, Nat.zero_le _, fun x hx => by cases hx⟩ _
        · rw [if_neg h3]
          cases hq : outsR r with
          | none => exact zero_small
          | some y =>
            obtain ⟨os, r'⟩ := y
            obtain ⟨h1, h2⟩ := outsR_small r os r' hq
            exact fin_small ⟨Nat.zero_le _, Nat.zero_le _, h1, h2⟩ _
theorem decV_small (p : List By) : ReqV.small (decV p).1 := by
  unfold decV
  by_cases h : 2048 < p.length
  · rw [if_pos h]; exact zero_small
  · rw [if_neg h]; exact decK_small _ _
set_option maxHeartbeats 1000000 in
set_option maxRecDepth 100000 in
theorem ints_same (A B : Option Addr) (ca cb : Nat) (l : List Int) (hl : l.length ≤ 100000) (w : World) (hA : NeedsAt w A l) (hB : NeedsAt w B l) :
    Calls Tryd.prog 54 #[.slice A l.length ca, .slice B l.length cb] w fun e w' => e = .returned (.bool true) ∧ ∃ q, w' = w.drewN q := by
  have HA := Lib.hid hA; have HB := Lib.hid hB
  clear hA hB
  go_enter Tryd.func54, Tryd.ntmps54
  go_wp2_with fail
  go_loopw [5] (fun vv wr => ∃ k : Nat, k ≤ l.length ∧ vv = .int .i64 k ∧ Hid (∃ q, wr = w.drewN q)) (fun vv _ => l.length - (intOf vv).toNat)
  case atStart => exact ⟨0, Nat.zero_le _, rfl, 0, rfl⟩
  case round =>
    obtain ⟨k, hk, rfl, HR⟩ := hrel
    rename World => W0
    by_cases hlt : k < l.length
    · obtain ⟨a, oa, rfl, ha⟩ := HA.out (by omega)
      obtain ⟨b, ob, rfl, hb⟩ := HB.out (by omega)
      obtain ⟨q, rfl⟩ := HR.out
      have c1 := ha k hlt
      have c2 := hb k hlt
      generalize l[k] = x at *
      clear ha hb HA HB HR
      go_wp2_with fail
      go_quiet (fail)
      go_wp2_with fail
      go_roundw
      case rel => exact ⟨k + 1, by omega, by go_num, _, rfl⟩
      case measure => simp [intOf]; omega
    · obtain rfl : k = l.length := by omega
      go_wp2
      go_ret
      exact ⟨rfl, HR.out⟩
set_option maxHeartbeats 4000000 in
set_option maxRecDepth 100000 in
theorem alike_any (r : ReqV) (hsm : ReqV.small r) (va vb' : Value) (w : World) (ha : ReqIs w va r) (hb : ReqIs w vb' r) :
    Calls Tryd.prog 19 #[va, vb'] w fun e w' => e = .returned (.bool true) ∧ Below w.heap.size w w' := by
  obtain ⟨A, ca, R, cr, O, co, rfl, hA, hR, hO⟩ := ha
  obtain ⟨A', ca', R', cr', O', co', rfl, hA', hR', hO'⟩ := hb
  obtain ⟨hs1, hs2, hs3, hs4⟩ := hsm
  have HS4 := Lib.hid hs4
  have HA := Lib.hid hA; have HR := Lib.hid hR; have HO := Lib.hid hO; have HA' := Lib.hid hA'; have HR' := Lib.hid hR'; have HO' := Lib.hid hO'
  have hbx1 : Blk ((w.alloc (.cells #[vb r.kind, vs r.name, vs r.path, .slice A r.arch.length ca, .slice R r.refs.length cr, .slice O r.outs.length co] 40)).alloc (.cells #[vb r.kind, vs r.name, vs r.path, .slice A' r.arch.length ca', .slice R' r.refs.length cr', .slice O' r.outs.length co'] 40)) w.heap.size 40 [vb r.kind, vs r.name, vs r.path, .slice A r.arch.length ca, .slice R r.refs.length cr, .slice O r.outs.length co] := (Blk.new w 40 _).alloc _
  have hbx2 : Blk ((w.alloc (.cells #[vb r.kind, vs r.name, vs r.path, .slice A r.arch.length ca, .slice R r.refs.length cr, .slice O r.outs.length co] 40)).alloc (.cells #[vb r.kind, vs r.name, vs r.path, .slice A' r.arch.length ca', .slice R' r.refs.length cr', .slice O' r.outs.length co'] 40)) (w.heap.size + 1) 40 [vb r.kind, vs r.name, vs r.path, .slice A' r.arch.length ca', .slice R' r.refs.length cr', .slice O' r.outs.length co'] := by
    have := Blk.new (w.alloc (.cells #[vb r.kind, vs r.name, vs r.path, .slice A r.arch.length ca, .slice R r.refs.length cr, .slice O r.outs.length co] 40)) 40 #[vb r.kind, vs r.name, vs r.path, .slice A' r.arch.length ca', .slice R' r.refs.length cr', .slice O' r.outs.length co']
    rw [show (w.alloc (.cells #[vb r.kind, vs r.name, vs r.path, .slice A r.arch.length ca, .slice R r.refs.length cr, .slice O r.outs.length co] 40)).heap.size = w.heap.size + 1 by simp] at this
    exact this
  have hbl : Below w.heap.size w ((w.alloc (.cells #[vb r.kind, vs r.name, vs r.path, .slice A r.arch.length ca, .slice R r.refs.length cr, .slice O r.outs.length co] 40)).alloc (.cells #[vb r.kind, vs r.name, vs r.path, .slice A' r.arch.length ca', .slice R' r.refs.length cr', .slice O' r.outs.length co'] 40)) := ((Below.refl _ _).alloc (Nat.le_refl _) _).alloc (by simp) _
  clear hA hR hO hA' hR' hO' hs4
  go_enter Tryd.func19, Tryd.ntmps19
  have HBX1 := Lib.hid hbx1; have HBX2 := Lib.hid hbx2; have HBL := Lib.hid hbl
  have a0 := hbx1.cell 0; have a1 := hbx1.cell 1; have a2 := hbx1.cell 2; have a3 := hbx1.cell 3; have a4 := hbx1.cell 4; have a5 := hbx1.cell 5
  have e0 := hbx2.cell 0; have e1 := hbx2.cell 1; have e2 := hbx2.cell 2; have e3 := hbx2.cell 3; have e4 := hbx2.cell 4; have e5 := hbx2.cell 5
  simp only [List.getElem?_cons_zero, List.getElem?_cons_succ] at a0 a1 a2 a3 a4 a5 e0 e1 e2 e3 e4 e5
  clear hbx1 hbx2 hbl
  go_wp2_with fail
  generalize (w.alloc (.cells #[vb r.kind, vs r.name, vs r.path, .slice A r.arch.length ca, .slice R r.refs.length cr, .slice O r.outs.length co] 40)).alloc (.cells #[vb r.kind, vs r.name, vs r.path, .slice A' r.arch.length ca', .slice R' r.refs.length cr', .slice O' r.outs.length co'] 40) = W1 at *
  refine (bytes_same A A' ca ca' r.arch hs1 _ (HA.out.below HBL.out) (HA'.out.below HBL.out)).mono ?_
  rintro e w2 ⟨rfl, q1, rfl⟩
  go_wp2_with fail
  refine (texts_same R R' cr cr' r.refs hs2 _ (HR.out.belowS (below_drewN HBL.out q1)) (HR'.out.belowS (below_drewN HBL.out q1))).mono ?_
  rintro e w2 ⟨rfl, q2, rfl⟩
  go_wp2_with fail
  have hsz1 : w.heap.size + 1 < W1.heap.size := HBX2.out.lt
  have HBD : Hid (Below W1.heap.size W1 (W1.drewN (q1 + q2))) := below_drewN (Below.refl _ _) _
  clear a0 a1 a2 a3 a4 a5 e0 e1 e2 e3 e4 e5
  go_loopw [5] (fun vv wr => ∃ k : Nat, k ≤ r.outs.length ∧ vv = .int .i64 k ∧ Hid (Below W1.heap.size W1 wr)) (fun vv _ => r.outs.length - (intOf vv).toNat)
  case atStart => exact ⟨0, Nat.zero_le _, rfl, HBD.out⟩
  case round =>
    clear HBD
    obtain ⟨k, hk, rfl, HB⟩ := hrel
    rename World => W0
    have hx1 : Blk W0 w.heap.size 40 _ := Blk.below HBX1.out HB.out (by omega)
    have hx2 : Blk W0 (w.heap.size + 1) 40 _ := Blk.below HBX2.out HB.out (by omega)
    have a5 := hx1.cell 5; have e5 := hx2.cell 5
    simp only [List.getElem?_cons_zero, List.getElem?_cons_succ] at a5 e5
    have hw0 : Below w.heap.size w W0 := HBL.out.trans (HB.out.mono HBL.out.size)
    have HW0 := Lib.hid hw0
    clear hx1 hx2
    by_cases hlt : k < r.outs.length
    · obtain ⟨b, o, rfl, hc⟩ := (HO.out.below hw0) (by omega)
      obtain ⟨b', o', rfl, hc'⟩ := (HO'.out.below hw0) (by omega)
      obtain ⟨xA, xa, xR, xr, xM, xm, c0, c1, c2, c3, h4⟩ := hc k hlt
      obtain ⟨yA, ya, yR, yr, yM, ym, d0, d1, d2, d3, h4'⟩ := hc' k hlt
      have H4 := Lib.hid h4; have H4' := Lib.hid h4'
      have HSX := Lib.hid (HS4.out r.outs[k] (List.getElem_mem hlt))
      clear hc hc' h4 h4' hw0
      generalize r.outs[k] = x at *
      go_upto_region 6 with fail
      go_region_held3 (fun W => W.cell? ⟨w.heap.size, 5, none⟩ = some (.slice (some ⟨b, o, none⟩) r.outs.length co) ∧ W.cell? ⟨w.heap.size + 1, 5, none⟩ = some (.slice (some ⟨b', o', none⟩) r.outs.length co') ∧
        W.cell? ⟨b, o + k * 4, none⟩ = some (vs x.name) ∧ W.cell? ⟨b, o + k * 4 + 1, none⟩ = some (.slice xA x.arch.length xa) ∧ W.cell? ⟨b, o + k * 4 + 2, none⟩ = some (.slice xR x.refs.length xr) ∧ W.cell? ⟨b, o + k * 4 + 3, none⟩ = some (.slice xM x.needs.length xm) ∧
        W.cell? ⟨b', o' + k * 4, none⟩ = some (vs x.name) ∧ W.cell? ⟨b', o' + k * 4 + 1, none⟩ = some (.slice yA x.arch.length ya) ∧ W.cell? ⟨b', o' + k * 4 + 2, none⟩ = some (.slice yR x.refs.length yr) ∧ W.cell? ⟨b', o' + k * 4 + 3, none⟩ = some (.slice yM x.needs.length ym)) (go_keep) (fail)
      all_goals
        go_wp2_with fail
        refine (bytes_same xA yA xa ya x.arch HSX.out.1 _ (H4.out.1.below ((((Below.refl _ _).alloc (Nat.le_refl _) _).alloc (by simp) _).drew)) (H4'.out.1.below ((((Below.refl _ _).alloc (Nat.le_refl _) _).alloc (by simp) _).drew))).mono ?_
        rintro e w2 ⟨rfl, p1, rfl⟩
        go_wp2_with fail
        refine (texts_same xR yR xr yr x.refs HSX.out.2.1 _ (H4.out.2.1.belowS ?b1) (H4'.out.2.1.belowS ?b2)).mono ?_
        case b1 => exact below_drewN (((Below.refl _ _).alloc (Nat.le_refl _) _).alloc (by simp) _) _
        case b2 => exact below_drewN (((Below.refl _ _).alloc (Nat.le_refl _) _).alloc (by simp) _) _
        rintro e w2 ⟨rfl, p2, rfl⟩
        go_wp2_with fail
        refine (ints_same xM yM xm ym x.needs HSX.out.2.2 _ (H4.out.2.2.below ?b1) (H4'.out.2.2.below ?b2)).mono ?_
        case b1 => exact below_drewN (((Below.refl _ _).alloc (Nat.le_refl _) _).alloc (by simp) _) _
        case b2 => exact below_drewN (((Below.refl _ _).alloc (Nat.le_refl _) _).alloc (by simp) _) _
        rintro e w2 ⟨rfl, p3, rfl⟩
        go_wp2_with fail
        go_roundw
        case rel => exact ⟨k + 1, by omega, by go_num, HB.out.trans (Below.mono (below_drewN (((Below.refl W0.heap.size W0).alloc (Nat.le_refl _) _).alloc (by simp) _) _) HB.out.size)⟩
        case measure => simp [intOf]; omega

    · obtain rfl : k = r.outs.length := by omega
      clear hw0
      go_wp2_with fail
      go_ret
      exact ⟨rfl, HW0.out⟩
end Go.Proofs.YtggmogjgaoobjaaDoor

/- The document's example of request: lone answers true. -/
namespace Go.Proofs.YtggmogjgaoobjaaDoor
open Go.RowKit BaseMath WireMath ReqMath

theorem enc_lone : encB ⟨11, [], [], [], [], []⟩ = [11] := by decide +kernel
theorem dec_nil : decV [] = (zeroV, 2) := by
  have hk : kindR [] = 0 := by decide +kernel
  unfold decV; rw [if_neg (by decide), hk]; unfold decK
  rw [if_pos (by decide)]
set_option maxHeartbeats 4000000 in
set_option maxRecDepth 100000 in
theorem lone_any (w : World) (ht : KTab w) : Calls Tryd.prog 10 #[] w fun e w' => e = .returned (.bool true) ∧ Below w.heap.size w w' := by
  have HT := Lib.hid ht
  have HC1 : Hid (Calls Tryd.prog 15 #[.agg #[.int .u8 11, .string ⟨#[]⟩, .string ⟨#[]⟩, ns, ns, ns]] w (EncPost w [11])) := by
    have h := encode_any ⟨11, [], [], [], [], []⟩ (.agg #[.int .u8 11, .string ⟨#[]⟩, .string ⟨#[]⟩, ns, ns, ns]) (by simp) (by simp) (by rw [enc_lone]; simp) w ht ⟨none, 0, none, 0, none, 0, rfl, SrcIs.nil _ _, StrsIs.nil _ _, OutsAt.nil _ _⟩
    rw [enc_lone] at h; exact h
  clear ht
  go_enter Tryd.func10, Tryd.ntmps10
  go_wp2_with fail
  refine HC1.out.mono ?_
  rintro e w1 ⟨v1, rfl, hr⟩
  obtain ⟨A1, c1, rfl, hs1, hn1, hc1, -⟩ := RowRel.src hr
  have HB1 := Lib.hid hr.below; have HS1 := Lib.hid hs1
  clear hr hs1 hn1 hc1 HC1
  have HC2 : Hid (Calls Tryd.prog 18 #[.slice none 0 0] w1 (DecPost w1 (zeroV, 2))) := by
    have h := decode_any none 0 [] (by simp) (fun _ => rfl) w1 (HT.out.belowS HB1.out) (SrcIs.nil _ _)
    rw [dec_nil] at h; exact h
  go_wp2_with fail
  refine HC2.out.mono ?_
  rintro e w2 ⟨hb2, v2, rfl, hv2⟩
  obtain ⟨A2, c2, R2, r2, O2, o2, rfl, -⟩ := hv2
  have HB2 : Hid (Below w.heap.size w w2) := HB1.out.trans (hb2.mono HB1.out.size)
  have HS2 := Lib.hid (HS1.out.below hb2)
  clear hb2 HS1 HC2
  have e1 : (UInt8.toNat zeroV.kind : Int) = 0 := rfl
  have hb3 : Below w2.heap.size w2 ((w2.alloc (.cells #[vb zeroV.kind, vs zeroV.name, vs zeroV.path, .slice A2 zeroV.arch.length c2, .slice R2 zeroV.refs.length r2, .slice O2 zeroV.outs.length o2] 40)).alloc (.cells #[.int .u8 11] 5)) := ((Below.refl _ _).alloc (Nat.le_refl _) _).alloc (by simp) _
  have HB3 : Hid (Below w.heap.size w _) := HB2.out.trans (hb3.mono HB2.out.size)
  have HS3 := Lib.hid (HS2.out.below hb3)
  have HS4 : Hid (SrcIs ((w2.alloc (.cells #[vb zeroV.kind, vs zeroV.name, vs zeroV.path, .slice A2 zeroV.arch.length c2, .slice R2 zeroV.refs.length r2, .slice O2 zeroV.outs.length o2] 40)).alloc (.cells #[.int .u8 11] 5)) (some ⟨w2.heap.size + 1, 0, none⟩) [11]) := by
    have := new_src (w2.alloc (.cells #[vb zeroV.kind, vs zeroV.name, vs zeroV.path, .slice A2 zeroV.arch.length c2, .slice R2 zeroV.refs.length r2, .slice O2 zeroV.outs.length o2] 40)) [11]
    rw [show (w2.alloc (.cells #[vb zeroV.kind, vs zeroV.name, vs zeroV.path, .slice A2 zeroV.arch.length c2, .slice R2 zeroV.refs.length r2, .slice O2 zeroV.outs.length o2] 40)).heap.size = w2.heap.size + 1 by simp] at this
    exact this
  clear hb3 HS2 HB2
  go_wp2_with fail
  refine (bytes_same A1 (some ⟨w2.heap.size + 1, 0, none⟩) c1 1 [11] (by simp) _ HS3.out HS4.out).mono ?_
  rintro e w4 ⟨rfl, q, rfl⟩
  have HB4 := Lib.hid (below_drewN HB3.out q)
  have hK : (nameK (1 : By).toNat) = [97, 100, 100] := by decide +kernel
  have HC3 : Hid (∀ W, Below w.heap.size w W → Calls Tryd.prog 30 #[.int .u8 1] W fun e w' => e = .returned (vs [97, 100, 100]) ∧ Below W.heap.size W w') := fun W hW => by
    have h := kind_any 1 W (HT.out.belowS hW)
    rw [hK] at h; exact h
  clear hK HB3 HS3 HS4
  go_wp2_with fail
  refine (HC3.out _ HB4.out).mono ?_
  rintro e w5 ⟨rfl, hb5⟩
  have HB5 : Hid (Below w.heap.size w w5) := HB4.out.trans (hb5.mono HB4.out.size)
  clear hb5 HC3
  go_wp2_with fail
  go_ret
  exact ⟨rfl, HB5.out⟩
end Go.Proofs.YtggmogjgaoobjaaDoor

/- The walk of RequestReads: what any bytes are is the document's answer. -/
namespace Go.Proofs.YtggmogjgaoobjaaDoor
open Go.RowKit BaseMath WireMath ReqMath

set_option maxHeartbeats 4000000 in
set_option maxRecDepth 100000 in
theorem decodes_any (A : Option Addr) (c : Nat) (p : List By) (hp : p.length ≤ 500000) (hN : A = none → c = 0) (hc : p.length ≤ c) (w : World) (ht : KTab w) (hA : SrcIs w A p) :
    Calls Tryd.prog 20 #[.slice A p.length c] w fun e w' => e = .returned (.bool true) ∧ Below w.heap.size w w' := by
  have HD := Lib.hid (decode_any A c p hp hN w ht hA)
  have HA := Lib.hid hA
  have HSM := Lib.hid (decV_small p)
  have HRD : Hid (∀ W, Below w.heap.size w W → Calls Tryd.prog 55 #[.slice A p.length c] W (DecPost W (decV p))) := fun W hW => rdecode_any A c p hp hN hc W (HA.out.below hW)
  clear hA ht HA
  obtain ⟨r, er⟩ : ∃ r, r = (decV p).1 := ⟨_, rfl⟩
  obtain ⟨f, ef⟩ : ∃ f, f = (decV p).2 := ⟨_, rfl⟩
  have hpair : decV p = (r, f) := by rw [er, ef]
  rw [hpair] at HD HRD HSM
  clear er ef hpair
  go_enter Tryd.func20, Tryd.ntmps20
  go_wp2_with fail
  refine HD.out.mono ?_
  rintro e w1 ⟨hb1, v1, rfl, hv1⟩
  obtain ⟨A1, a1, R1, r1, O1, o1, rfl, h1, h2, h3⟩ := hv1
  have HV1 : Hid (ReqIs w1 (.agg #[vb r.kind, vs r.name, vs r.path, .slice A1 r.arch.length a1, .slice R1 r.refs.length r1, .slice O1 r.outs.length o1]) r) := ⟨A1, a1, R1, r1, O1, o1, rfl, h1, h2, h3⟩
  have HB1 := Lib.hid hb1
  have hbx : Below w1.heap.size w1 (w1.alloc (.cells #[vb r.kind, vs r.name, vs r.path, .slice A1 r.arch.length a1, .slice R1 r.refs.length r1, .slice O1 r.outs.length o1] 40)) := (Below.refl _ _).alloc (Nat.le_refl _) _
  have HBX := Lib.hid (Blk.new w1 40 #[vb r.kind, vs r.name, vs r.path, .slice A1 r.arch.length a1, .slice R1 r.refs.length r1, .slice O1 r.outs.length o1])
  have HB2 : Hid (Below w.heap.size w _) := HB1.out.trans (hbx.mono HB1.out.size)
  have HV2 := Lib.hid (HV1.out.below hbx)
  clear hb1 h1 h2 h3 hbx HV1 HB1 HD
  go_wp2_with fail
  generalize w1.alloc (.cells #[vb r.kind, vs r.name, vs r.path, .slice A1 r.arch.length a1, .slice R1 r.refs.length r1, .slice O1 r.outs.length o1] 40) = w2 at *
  refine (HRD.out w2 HB2.out).mono ?_
  rintro e w3 ⟨hb3, v3, rfl, hv3⟩
  obtain ⟨A3, a3, R3, r3, O3, o3, rfl, h1, h2, h3⟩ := hv3
  have HV3 : Hid (ReqIs w3 (.agg #[vb r.kind, vs r.name, vs r.path, .slice A3 r.arch.length a3, .slice R3 r.refs.length r3, .slice O3 r.outs.length o3]) r) := ⟨A3, a3, R3, r3, O3, o3, rfl, h1, h2, h3⟩
  have hbx : Below w3.heap.size w3 (w3.alloc (.cells #[vb r.kind, vs r.name, vs r.path, .slice A3 r.arch.length a3, .slice R3 r.refs.length r3, .slice O3 r.outs.length o3] 40)) := (Below.refl _ _).alloc (Nat.le_refl _) _
  have HBX3 := Lib.hid (Blk.new w3 40 #[vb r.kind, vs r.name, vs r.path, .slice A3 r.arch.length a3, .slice R3 r.refs.length r3, .slice O3 r.outs.length o3])
  have HBXa := Lib.hid ((HBX.out.below hb3 HBX.out.lt).below hbx (HBX.out.below hb3 HBX.out.lt).lt)
  have HVa := Lib.hid ((HV2.out.below hb3).below hbx)
  have HVb := Lib.hid (HV3.out.below hbx)
  have HB4 : Hid (Below w.heap.size w _) := (HB2.out.trans (hb3.mono HB2.out.size)).trans (hbx.mono (HB2.out.trans (hb3.mono HB2.out.size)).size)
  have c0 := HBXa.out.cell 0; have c1 := HBXa.out.cell 1; have c2 := HBXa.out.cell 2; have c3 := HBXa.out.cell 3; have c4 := HBXa.out.cell 4; have c5 := HBXa.out.cell 5
  simp only [List.getElem?_cons_zero, List.getElem?_cons_succ] at c0 c1 c2 c3 c4 c5
  have hff : ((f : Int) == f) = true := by simp
  clear hb3 h1 h2 h3 hbx HV2 HV3 HB2 HBX HRD
  go_wp2_with fail
  refine (alike_any r HSM.out _ _ _ HVa.out HVb.out).mono ?_
  rintro e w5 ⟨rfl, hb5⟩
  have HB5 : Hid (Below w.heap.size w w5) := HB4.out.trans (hb5.mono HB4.out.size)
  clear hb5
  go_wp2_with fail
  go_ret
  exact ⟨rfl, HB5.out⟩
/-- two bytes' worth of text and one byte ahead of it, joined: what stands behind -/
theorem byte_mod (k m : Nat) (hm : 0 < m) (hm2 : m < 256) : ∃ x : By, vb x = .int .u8 ((k : Int) % (m : Int)) := by
  refine ⟨UInt8.ofNat (k % m), ?_⟩
  have h1 := Nat.mod_lt k hm
  rw [vb_ofNat, Nat.mod_eq_of_lt (by omega)]
  rw [Int.natCast_emod]
theorem byte_sum (k : Nat) : ∃ x : By, vb x = .int .u8 (2 + (k : Int) % 9) := by
  refine ⟨UInt8.ofNat (2 + k % 9), ?_⟩
  rw [vb_ofNat, Nat.mod_eq_of_lt (by omega)]
  congr 1
theorem one_src {x : By} {v : Value} (h : vb x = v) (w : World) : SrcIs (w.alloc (.cells #[v] 5)) (some ⟨w.heap.size, 0, none⟩) [x] := by
  have := new_src w [x]
  rw [← h]; exact this
set_option maxHeartbeats 4000000 in
set_option maxRecDepth 100000 in
theorem reads_long (A : Option Addr) (c : Nat) (n : Nat) (k : By) (hn : 300 < n) (hm : n ≤ maxLen) (w : World) (ht : KTab w) :
    Calls Tryd.prog 4 #[.slice A n c, vb k] w fun e w' => e = .returned (.bool true) ∧ Below w.heap.size w w' := by
  unfold maxLen at hm
  have HT := Lib.hid ht; clear ht
  have hn' : (decide ((300 : Int) < n)) = true := decide_eq_true (by omega)
  go_enter Tryd.func4, Tryd.ntmps4
  go_wp2_with fail
  refine (lone_any w HT.out).mono ?_
  rintro e w1 ⟨rfl, hb1⟩
  have HB1 := Lib.hid hb1
  clear hb1
  go_wp2_with fail
  refine (lone_any w1 (HT.out.belowS HB1.out)).mono ?_
  rintro e w2 ⟨rfl, hb2⟩
  have HB2 : Hid (Below w.heap.size w w2) := HB1.out.trans (hb2.mono HB1.out.size)
  clear hb2
  go_wp2_with fail
  go_ret
  exact ⟨rfl, HB2.out⟩
set_option maxHeartbeats 4000000 in
set_option maxRecDepth 100000 in
theorem reads_walk (A : Option Addr) (c : Nat) (p : List By) (k : By) (w : World) (hm : p.length ≤ maxLen) (hc : p.length ≤ c) (hN : A = none → c = 0) (hA : SrcIs w A p) (ht : KTab w) :
    Calls Tryd.prog 4 #[.slice A p.length c, vb k] w fun e w' => e = .returned (.bool true) ∧ Below w.heap.size w w' := by
  by_cases hlong : 300 < p.length
  · exact reads_long A c p.length k hlong hm w ht
  · have hn' : (decide ((300 : Int) < p.length)) = false := decide_eq_false (by omega)
    have HT := Lib.hid ht; have HA := Lib.hid hA; have HN := Lib.hid hN
    clear hA ht hN hm
    have hk : k.toNat < 256 := k.toNat_lt
    obtain ⟨x, hx⟩ := byte_mod k.toNat 14 (by decide) (by decide)
    obtain ⟨y, hy⟩ := byte_sum k.toNat
    have HX := Lib.hid hx; have HY := Lib.hid hy
    clear hx hy
    go_enter Tryd.func4, Tryd.ntmps4
    go_wp2_with fail
    refine (lone_any w HT.out).mono ?_
    rintro e w1 ⟨rfl, hb1⟩
    have HB1 := Lib.hid hb1
    clear hb1
    go_wp2_with fail
    refine (decodes_any A c p (by omega) HN.out hc w1 (HT.out.belowS HB1.out) (HA.out.below HB1.out)).mono ?_
    rintro e w2 ⟨rfl, hb2⟩
    have HB2 : Hid (Below w.heap.size w w2) := HB1.out.trans (hb2.mono HB1.out.size)
    clear hb2 HB1
    have ha2 : Below w2.heap.size w2 (w2.alloc (.cells #[.int .u8 ((k.toNat : Int) % 14)] 5)) := (Below.refl _ _).alloc (Nat.le_refl _) _
    have HB3 : Hid (Below w.heap.size w (w2.alloc (.cells #[.int .u8 ((k.toNat : Int) % 14)] 5))) := HB2.out.trans (ha2.mono HB2.out.size)
    have HS3 := Lib.hid (one_src HX.out w2)
    clear ha2
    go_wp2_with fail
    refine (join_any (some ⟨w2.heap.size, 0, none⟩) A 1 c [x] p (by simp; omega) (fun h => by cases h) HN.out _ HS3.out (HA.out.below HB3.out)).mono ?_
    rintro e w4 ⟨v4, rfl, hr4⟩
    obtain ⟨A4, c4, rfl, hs4, hn4, hc4, -⟩ := hr4.src
    have HB4 : Hid (Below w.heap.size w w4) := HB3.out.trans (hr4.below.mono HB3.out.size)
    have HS4 := Lib.hid hs4; have HN4 := Lib.hid hn4
    clear hr4 hs4 hn4 HB3 HS3 HB2
    go_wp2_with fail
    refine (decodes_any A4 c4 ([x] ++ p) (by simp; omega) HN4.out hc4 w4 (HT.out.belowS HB4.out) HS4.out).mono ?_
    rintro e w5 ⟨rfl, hb5⟩
    have HB5 : Hid (Below w.heap.size w w5) := HB4.out.trans (hb5.mono HB4.out.size)
    clear hb5 HB4 HS4 HN4
    have ha5 : Below w5.heap.size w5 (w5.alloc (.cells #[.int .u8 (2 + (k.toNat : Int) % 9)] 5)) := (Below.refl _ _).alloc (Nat.le_refl _) _
    have HB6 : Hid (Below w.heap.size w (w5.alloc (.cells #[.int .u8 (2 + (k.toNat : Int) % 9)] 5))) := HB5.out.trans (ha5.mono HB5.out.size)
    have HS6 := Lib.hid (one_src HY.out w5)
    have hcv := run_text_src (cap := c) (HA.out.below HB6.out)
    clear ha5
    go_wp2_with fail
    clear hcv
    refine (rtextb_any p (by omega) _).mono ?_
    rintro e w7 ⟨v7, rfl, hr7⟩
    obtain ⟨A7, c7, rfl, hs7, hn7, hc7, -⟩ := hr7.src
    have HB7 : Hid (Below w.heap.size w w7) := HB6.out.trans (hr7.below.mono HB6.out.size)
    have HS7 := Lib.hid hs7; have HN7 := Lib.hid hn7
    have HS6b := Lib.hid (HS6.out.below hr7.below)
    have htl : (textB p).length ≤ 400 := by rw [textB_length]; omega
    clear hr7 hs7 hn7 HB6 HS6 HB5
    generalize textB p = tp at *
    go_wp2_with fail
    refine (join_any (some ⟨w5.heap.size, 0, none⟩) A7 1 c7 [y] tp (by simp; omega) (fun h => by cases h) HN7.out _ HS6b.out HS7.out).mono ?_
    rintro e w8 ⟨v8, rfl, hr8⟩
    obtain ⟨A8, c8, rfl, hs8, hn8, hc8, -⟩ := hr8.src
    have HB8 : Hid (Below w.heap.size w w8) := HB7.out.trans (hr8.below.mono HB7.out.size)
    have HS8 := Lib.hid hs8; have HN8 := Lib.hid hn8
    clear hr8 hs8 hn8 HB7 HS7 HS6b HN7
    go_wp2_with fail
    refine (decodes_any A8 c8 ([y] ++ tp) (by simp; omega) HN8.out hc8 w8 (HT.out.belowS HB8.out) HS8.out).mono ?_
    rintro e w9 ⟨rfl, hb9⟩
    have HB9 : Hid (Below w.heap.size w w9) := HB8.out.trans (hb9.mono HB8.out.size)
    clear hb9
    go_wp2_with fail
    go_ret
    exact ⟨rfl, HB9.out⟩
end Go.Proofs.YtggmogjgaoobjaaDoor

/- Plain facts: a request is read as it was written. No program is named. -/
namespace ReqMath
open BaseMath WireMath

/-- only the kind's own fields -/
def canonV (r : ReqV) : ReqV := if hasK r.kind.toNat = 2 then ⟨r.kind, [], r.path, [], [], []⟩ else if hasK r.kind.toNat = 3 then ⟨r.kind, r.name, [], r.arch, r.refs, []⟩ else if hasK r.kind.toNat = 4 then ⟨r.kind, [], [], [], [], r.outs⟩ else ⟨r.kind, [], [], [], [], []⟩
def ItemOk (n a : List By) (rs : List (List By)) : Prop := n.length < 65536 ∧ a.length < 65536 ∧ rs.length ≤ 16 ∧ ∀ s ∈ rs, s.length < 65536
def OutOk (i : Nat) (o : OutV) : Prop := ItemOk o.name o.arch o.refs ∧ o.needs.length < 4 ∧ ∀ z ∈ o.needs, 0 ≤ z ∧ z < (i : Int)
structure ReqOk (r : ReqV) : Prop where
  kind : hasK r.kind.toNat ≠ 0
  path : r.path.length < 65536
  item : hasK r.kind.toNat = 3 → ItemOk r.name r.arch r.refs
  outs : hasK r.kind.toNat = 4 → 0 < r.outs.length ∧ r.outs.length ≤ 4 ∧ ∀ i (h : i < r.outs.length), OutOk i r.outs[i]
theorem item_back (n a : List By) (rs : List (List By)) (y : List By) (h : ItemOk n a rs) :
    iname ⟨itemB n a rs ++ y, false⟩ = n ∧ iarch ⟨itemB n a rs ++ y, false⟩ = a ∧ irefs ⟨itemB n a rs ++ y, false⟩ = rs ∧ itemA ⟨itemB n a rs ++ y, false⟩ = ⟨y, false⟩ := by
  obtain ⟨h1, h2, h3, h4⟩ := h
  have e : itemB n a rs ++ y = textB n ++ (textB a ++ (textsB rs ++ y)) := by unfold itemB; simp
  have t1 := text_back n (textB a ++ (textsB rs ++ y)) false h1
  have t2 := text_back a (textsB rs ++ y) false h2
  have t3 := texts_back rs y 16 (by omega) (by omega) h4
  rw [e]
  unfold iname iarch irefs itemA
  rw [t1.1, t1.2, t2.1, t2.2, t3.1, t3.2]
  exact ⟨rfl, rfl, rfl, rfl⟩
theorem byteI_nat (z : Int) (h0 : 0 ≤ z) (h1 : z < 256) : ((byteI z).toNat : Int) = z := by
  unfold byteI
  rw [UInt8.toNat_ofNat_of_lt' (by show (z % 256).toNat < 256; omega)]
  omega
theorem needsGo_back (place : Nat) (hp : place ≤ 255) : ∀ (ns acc : List Int) (y : List By), (∀ z ∈ ns, 0 ≤ z ∧ z < (place : Int)) → needsGo place ns.length acc ⟨ns.map byteI ++ y, false⟩ = some (acc ++ ns, ⟨y, false⟩)
  | [], acc, y, _ => by simp [needsGo]
  | z :: ns, acc, y, h => by
    have hz := h z (by simp)
    rw [List.length_cons, needsGo, List.map_cons]
    have e : byteI z :: ns.map byteI ++ y = [byteI z] ++ (ns.map byteI ++ y) := rfl
    obtain ⟨h1, h2⟩ := byte_back (byteI z) (ns.map byteI ++ y) false
    have hb := byteI_nat z hz.1 (by omega)
    rw [e, h1, h2, if_neg (by omega)]
    rw [needsGo_back place hp ns _ y (fun u hu => h u (by simp [hu])), hb]
    simp
theorem needs_back (i : Nat) (hi : i ≤ 4) (ns : List Int) (y : List By) (hl : ns.length < 4) (h : ∀ z ∈ ns, 0 ≤ z ∧ z < (i : Int)) : needsR i ⟨[UInt8.ofNat ns.length] ++ (ns.map byteI ++ y), false⟩ = some (ns, ⟨y, false⟩) := by
  obtain ⟨h1, h2⟩ := byte_back (UInt8.ofNat ns.length) (ns.map byteI ++ y) false
  rw [UInt8.toNat_ofNat_of_lt' (by show ns.length < 256; omega)] at h1
  unfold needsR
  rw [h1, h2, if_neg (by omega), needsGo_back i (by omega) ns [] y h]
  simp
theorem outsGo_back : ∀ (os acc : List OutV) (i : Nat) (y : List By), i + os.length ≤ 4 → (∀ j (h : j < os.length), OutOk (i + j) os[j]) → outsGo os.length i acc ⟨os.flatMap outB ++ y, false⟩ = some (acc ++ os, ⟨y, false⟩)
  | [], acc, i, y, _, _ => by simp [outsGo]
  | o :: os, acc, i, y, hl, h => by
    have ho := h 0 (by simp)
    simp only [List.getElem_cons_zero, Nat.add_zero] at ho
    obtain ⟨hi, hn, hz⟩ := ho
    rw [List.length_cons] at hl ⊢
    rw [outsGo]
    have e : (o :: os).flatMap outB ++ y = itemB o.name o.arch o.refs ++ ([UInt8.ofNat o.needs.length] ++ (o.needs.map byteI ++ (os.flatMap outB ++ y))) := by
      rw [List.flatMap_cons]; unfold outB; simp
    rw [e]
    obtain ⟨e1, e2, e3, e4⟩ := item_back o.name o.arch o.refs ([UInt8.ofNat o.needs.length] ++ (o.needs.map byteI ++ (os.flatMap outB ++ y))) hi
    rw [e1, e2, e3, e4, needs_back i (by omega) o.needs _ hn hz]
    show outsGo os.length (i + 1) (acc ++ [o]) _ = _
    rw [outsGo_back os _ (i + 1) y (by omega) (fun j hj => by
      have := h (j + 1) (by simp; omega)
      rw [List.getElem_cons_succ] at this
      rwa [show i + 1 + j = i + (j + 1) by omega])]
    simp
theorem outs_back (os : List OutV) (h0 : 0 < os.length) (h4 : os.length ≤ 4) (h : ∀ i (h : i < os.length), OutOk i os[i]) : outsR ⟨outsB os, false⟩ = some (os, ⟨[], false⟩) := by
  obtain ⟨h1, h2⟩ := byte_back (UInt8.ofNat os.length) (os.flatMap outB) false
  rw [UInt8.toNat_ofNat_of_lt' (by show os.length < 256; omega)] at h1
  have hb := outsGo_back os [] 0 [] (by omega) (fun j hj => by simpa using h j hj)
  rw [List.append_nil, List.nil_append] at hb
  unfold outsR outsB
  rw [h1, h2, if_neg (by omega), hb]
theorem whole_nil : whole ⟨[], false⟩ = true := rfl
/-- A REQUEST IS READ AS IT WAS WRITTEN -/
theorem dec_enc (r : ReqV) (h : ReqOk r) (hl : (encB r).length ≤ 2048) : decV (encB r) = (canonV r, 0) := by
  have hb := byte_back r.kind (restB (hasK r.kind.toNat) r) false
  have hk : kindR (encB r) = r.kind := by
    unfold kindR encB; rw [hb.1]; simp
  have ha : after 1 ⟨encB r, false⟩ = ⟨restB (hasK r.kind.toNat) r, false⟩ := by unfold encB; exact hb.2
  unfold decV
  rw [if_neg (by omega), hk, ha]
  have hc : hasK r.kind.toNat = 1 ∨ hasK r.kind.toNat = 2 ∨ hasK r.kind.toNat = 3 ∨ hasK r.kind.toNat = 4 := by have := hasK_le r.kind.toNat; have := h.kind; omega
  unfold decK canonV
  rcases hc with hc | hc | hc | hc
  · have hr : restB (hasK r.kind.toNat) r = [] := by rw [hc]; rfl
    rw [hr, if_neg (by omega), if_pos hc, if_neg (by omega), if_neg (by omega), if_neg (by omega)]
    unfold finR; rw [whole_nil, if_pos rfl]
  · have hr : restB (hasK r.kind.toNat) r = textB r.path := by rw [hc]; rfl
    have ht := text_back r.path [] false h.path
    rw [List.append_nil] at ht
    rw [hr, if_neg (by omega), if_neg (by omega), if_pos hc, if_pos hc, ht.1, ht.2]
    unfold finR; rw [whole_nil, if_pos rfl]
  · have hr : restB (hasK r.kind.toNat) r = itemB r.name r.arch r.refs := by rw [hc]; rfl
    have ht := item_back r.name r.arch r.refs [] (h.item hc)
    rw [List.append_nil] at ht
    rw [hr, if_neg (by omega), if_neg (by omega), if_neg (by omega), if_pos hc, if_neg (by omega), if_pos hc, ht.1, ht.2.1, ht.2.2.1, ht.2.2.2]
    unfold finR; rw [whole_nil, if_pos rfl]
  · have hr : restB (hasK r.kind.toNat) r = outsB r.outs := by rw [hc]; rfl
    obtain ⟨h0, h4, ho⟩ := h.outs hc
    rw [hr, if_neg (by omega), if_neg (by omega), if_neg (by omega), if_neg (by omega), if_neg (by omega), if_neg (by omega), if_pos hc, outs_back r.outs h0 h4 ho]
    show finR _ _ = _
    unfold finR; rw [whole_nil, if_pos rfl]
end ReqMath

/- Plain facts for RequestMany: of an Add with too many refs there is no request. No program is named. -/
namespace ReqMath
open BaseMath WireMath

def manyA (m : Nat) : ReqV := ⟨1, [110], [], [], List.replicate m [114], []⟩
theorem flat_rep (m : Nat) : ((List.replicate m [114]).flatMap textB).length = 3 * m := by
  induction m with
  | zero => rfl
  | succ m ih => rw [List.replicate_succ, List.flatMap_cons, List.length_append, ih]; simp [textB, numB]; omega
theorem many_len (m : Nat) : (encB (manyA m)).length = 7 + 3 * m := by
  have h : restB (hasK (manyA m).kind.toNat) (manyA m) = itemB [110] [] (List.replicate m [114]) := rfl
  unfold encB
  rw [h, List.length_append]
  unfold itemB textsB
  simp only [List.length_append, List.length_cons, List.length_nil, flat_rep]
  simp [textB, numB]; omega
theorem many_ok (m : Nat) (h : m ≤ 16) : (decV (encB (manyA m))).2 = 0 := by
  rw [dec_enc (manyA m) ⟨by show hasK 1 ≠ 0; decide, by simp [manyA], fun _ => ⟨by simp [manyA], by simp [manyA], by simp [manyA]; exact h, fun s hs => by
    simp [manyA] at hs; rw [hs.2]; simp⟩, fun h => absurd h (by show hasK 1 ≠ 4; decide)⟩ (by rw [many_len]; omega)]
theorem many_no (m : Nat) (h : 16 < m) (h2 : m ≤ 255) : (decV (encB (manyA m))).2 = 2 := by
  have hb := byte_back (manyA m).kind (restB (hasK (manyA m).kind.toNat) (manyA m)) false
  have hk : kindR (encB (manyA m)) = 1 := by
    unfold kindR encB; rw [hb.1]; rfl
  have ha : after 1 ⟨encB (manyA m), false⟩ = ⟨itemB [110] [] (List.replicate m [114]), false⟩ := by unfold encB; exact hb.2
  have e : itemB [110] [] (List.replicate m [114]) = textB [110] ++ (textB [] ++ textsB (List.replicate m [114])) := by unfold itemB; simp
  have t1 := text_back [110] (textB [] ++ textsB (List.replicate m [114])) false (by simp)
  have t2 := text_back [] (textsB (List.replicate m [114])) false (by simp)
  have hc : numR 1 ⟨textsB (List.replicate m [114]), false⟩ = m := by
    have h1 := byte_back (UInt8.ofNat (List.replicate m ([114] : List By)).length) ((List.replicate m ([114] : List By)).flatMap textB) false
    have h3 := h1.1
    rw [UInt8.toNat_ofNat_of_lt' (by show (List.replicate m _).length < 256; simp; omega), List.length_replicate] at h3
    unfold textsB; rw [List.length_replicate]; exact h3
  have hi : itemA ⟨itemB [110] [] (List.replicate m [114]), false⟩ = fails := by
    unfold itemA
    rw [e, t1.2, t2.2]
    unfold textsA textsAll texts0
    rw [hc, if_pos (by omega), textsGo_failed _ _ _ rfl]
  unfold decV
  by_cases hl : 2048 < (encB (manyA m)).length
  · rw [many_len] at hl; omega
  · rw [if_neg hl, hk, ha]
    unfold decK
    have h0 : hasK (1 : By).toNat = 3 := rfl
    rw [if_neg (by rw [h0]; decide), if_neg (by rw [h0]; decide), if_neg (by rw [h0]; decide), if_pos h0, hi]
    rfl
end ReqMath
