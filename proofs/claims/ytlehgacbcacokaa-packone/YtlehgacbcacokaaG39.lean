/- The contract of the law's own 'reads', and of the reference's Of. -/
import Derived.Test.YtlehgacbcacokaaG36
import Derived.Test.YtlehgacbcacokaaG20
import Derived.Test.YtlehgacbcacokaaG38
import Derived.Test.YtlehgacbcacokaaG16
namespace Go.Proofs.Ytlehgacbcacokaa
open Go.RowKit TreeMath RealMath WireMath PackMath

/-- what Read answers, as data -/
def resT (p : List By) : T := match readP rightB p with | none => erase zeroT | some t => t
def resE (p : List By) : Int := match readP rightB p with | none => 2 | some _ => 0
theorem inS_zero (S : Nat → Prop) : InS S zeroT := .mk _ _ (fun h => absurd h (by simp [zero])) (fun h => absurd h (by simp [zero])) (fun h => absurd h (by simp)) (fun k hk => by cases hk)
theorem ReadPost.open {p : List By} {w w' : World} {e : Ending} (h : ReadPost p w e w') : ∃ z lz, e = .returned (.tuple #[nv z lz.length, .int .i64 (resE p)]) ∧ erase (.mk z lz) = resT p ∧ Ok w' w'.heap.size (.mk z lz) ∧ InS (fun c => w.heap.size ≤ c) (.mk z lz) ∧ Below w.heap.size w w' := by
  obtain ⟨hb, h⟩ := h
  unfold resT resE
  cases hr : readP rightB p with
  | none =>
    rw [hr] at h
    exact ⟨zero, [], h, rfl, ok_zero _ _, inS_zero _, hb⟩
  | some t =>
    rw [hr] at h
    obtain ⟨z, lz, h1, h2, h3, h4⟩ := h
    exact ⟨z, lz, h1, h2, h3, h4, hb⟩
set_option maxHeartbeats 4000000 in
set_option maxRecDepth 100000 in
theorem reads_any (A : Option Addr) (c : Nat) (p : List By) (hl : p.length ≤ 1000000) (hN : A = none → c = 0) (hc : p.length ≤ c) (w : World) (hA : SrcIs w A p) :
    Calls Try.prog 41 #[.slice A p.length c] w fun e w' => e = .returned (.bool true) ∧ Below w.heap.size w w' := by
  have HA := Lib.hid hA; have HN := Lib.hid hN
  clear hA hN
  go_enter Try.func41, Try.ntmps41
  go_wp2_with fail
  refine (read_any A c p hl HN.out w HA.out).mono ?_
  rintro e w1 hp
  obtain ⟨z, lz, rfl, h1, h2, -, h4⟩ := hp.open
  have hb1 : Below w1.heap.size w1 (w1.alloc (.cells #[vb z.kind, .slice z.na z.names.length z.nc, .slice z.ka lz.length z.kc, .slice z.da z.data.length z.dc, .bool z.run, .float .f64 z.stamp, vs z.target] 27)) := (Below.refl _ _).alloc (Nat.le_refl _) _
  have HE := Lib.hid h1; have HO := Lib.hid ((h2.keep hb1).up hb1.size); have HB := Lib.hid (h4.trans (hb1.mono h4.size))
  have HX := Lib.hid (Blk.new w1 27 #[vb z.kind, .slice z.na z.names.length z.nc, .slice z.ka lz.length z.kc, .slice z.da z.data.length z.dc, .bool z.run, .float .f64 z.stamp, vs z.target])
  clear h1 h2 h4 hp hb1
  go_upto_region 2 with fail
  generalize hW : w1.alloc (.cells #[vb z.kind, .slice z.na z.names.length z.nc, .slice z.ka lz.length z.kc, .slice z.da z.data.length z.dc, .bool z.run, .float .f64 z.stamp, vs z.target] 27) = W2 at *
  clear hW
  go_wp2_with fail
  refine (rread_any A c p hl HN.out hc W2 (HA.out.below HB.out)).mono ?_
  rintro e w3 hp
  obtain ⟨y, ly, rfl, h1, h2, -, h4⟩ := hp.open
  have hb1 : Below w3.heap.size w3 (w3.alloc (.cells #[vb y.kind, .slice y.na y.names.length y.nc, .slice y.ka ly.length y.kc, .slice y.da y.data.length y.dc, .bool y.run, .float .f64 y.stamp, vs y.target] 27)) := (Below.refl _ _).alloc (Nat.le_refl _) _
  have HE2 := Lib.hid h1; have HO2 := Lib.hid ((h2.keep hb1).up hb1.size)
  have HY := Lib.hid (Blk.new w3 27 #[vb y.kind, .slice y.na y.names.length y.nc, .slice y.ka ly.length y.kc, .slice y.da y.data.length y.dc, .bool y.run, .float .f64 y.stamp, vs y.target])
  have h5 := h4.trans (hb1.mono h4.size)
  have HX2 := Lib.hid (HX.out.below h5 HX.out.lt)
  have HO1 := Lib.hid ((HO.out.keep h5).up h5.size)
  have HB2 := Lib.hid (HB.out.trans (h5.mono HB.out.size))
  clear h1 h2 h4 h5 hp hb1 HX HO HB
  go_upto_region 3 with fail
  generalize hW : w3.alloc (.cells #[vb y.kind, .slice y.na y.names.length y.nc, .slice y.ka ly.length y.kc, .slice y.da y.data.length y.dc, .bool y.run, .float .f64 y.stamp, vs y.target] 27) = W4 at *
  clear hW
  have e0 := HX2.out.cell 0; have e1 := HX2.out.cell 1; have e2 := HX2.out.cell 2; have e3 := HX2.out.cell 3; have e4 := HX2.out.cell 4; have e5 := HX2.out.cell 5; have e6 := HX2.out.cell 6
  have k0 := HY.out.cell 0; have k1 := HY.out.cell 1; have k2 := HY.out.cell 2; have k3 := HY.out.cell 3; have k4 := HY.out.cell 4; have k5 := HY.out.cell 5; have k6 := HY.out.cell 6
  simp only [List.getElem?_cons_zero, List.getElem?_cons_succ] at e0 e1 e2 e3 e4 e5 e6 k0 k1 k2 k3 k4 k5 k6
  have hee : (resE p == resE p) = true := by simp
  generalize resE p = er at *
  go_wp2_with fail
  clear e0 e1 e2 e3 e4 e5 e6 k0 k1 k2 k3 k4 k5 k6
  refine (refsame_of W4.heap.size (.mk z lz) (.mk y ly) W4 (Nat.le_refl _) HO1.out HO2.out).mono ?_
  rintro e w5 ⟨rfl, hb5⟩
  have hs : same (.mk z lz) (.mk y ly) = true := same_of_erase (HE.out.trans HE2.out.symm)
  rw [hs]
  have HB5 := Lib.hid hb5
  clear hs hb5
  go_wp2_with fail
  go_ret
  exact ⟨rfl, HB2.out.trans (HB5.out.mono HB2.out.size)⟩
end Go.Proofs.Ytlehgacbcacokaa

/- What is laid is read as it was, and the other way round. No program is named. -/
namespace PackMath
open TreeMath WireMath RealMath

mutual
theorem all_can : ∀ t, all (canT t) = (all t).map canT
  | .mk x ks => by rw [canT, all, all, List.map_cons, allL_can ks, canT]
theorem allL_can : ∀ l, allL (canL l) = (allL l).map canT
  | [] => rfl
  | k :: l => by rw [canL, allL, allL, List.map_append, all_can k, allL_can l]
end
theorem count_can (t : T) : count (canT t) = count t := by unfold count; rw [all_can]; simp
mutual
theorem depth_can : ∀ t, depth (canT t) = depth t
  | .mk x ks => by rw [canT, depth, depth, depthL_can ks]
theorem depthL_can : ∀ l, depthL (canL l) = depthL l
  | [] => rfl
  | k :: l => by rw [canL, depthL, depthL, depth_can k, depthL_can l]
end
theorem fits_can (t : T) : fitsB (canT t) = fitsB t := by
  cases t with
  | mk x ks =>
    rw [canT, fitsB, fitsB, canL_length]
    have : noFile { eraseH x with stamp := canonB x.stamp } = noFile x := by unfold noFile; rw [canonB_canonB]; rfl
    rw [this]; rfl
theorem noFile_spec {x : Hd} (h : noFile x = true) : x.data = [] ∧ x.run = false ∧ canonB x.stamp = 0 := by
  unfold noFile at h
  simp only [Bool.and_eq_true, decide_eq_true_eq] at h
  exact ⟨h.1.1, h.1.2, h.2⟩
theorem numR_cons (b : By) (y : List By) (f : Bool) : numR 1 ⟨b :: y, f⟩ = b.toNat ∧ after 1 ⟨b :: y, f⟩ = ⟨y, f⟩ := byte_back b y f
theorem kids_le : ∀ l : List T, l.length ≤ (allL l).length
  | [] => by simp
  | k :: l => by rw [allL, List.length_append, List.length_cons]; have := kids_le l; have := count_pos k; unfold count at this; omega
def StampOk (t : T) : Prop := ∀ k ∈ all t, k.hd.stamp < 18446744073709551616
theorem StampOk.kid {x : Hd} {ks : List T} (h : StampOk (.mk x ks)) {k : T} (hk : k ∈ ks) : StampOk k := fun j hj => h j (by rw [all]; exact List.mem_cons_of_mem _ (allL_mem hk hj))
theorem loop_lay {f : Nat} : ∀ (ls : List (List By)) (ks : List T) (ns : List (List By)) (acc : List T) (k : Nat) (y : List By), ls.length = ks.length → (∀ s ∈ ls, s.length ≤ 40) →
    (∀ t ∈ ks, ∀ k y, k + count t ≤ 64 → 64 ≤ k + f → nodeP f k ⟨layB t ++ y, false⟩ = some (canT t, k + count t, ⟨y, false⟩)) → k + (allL ks).length ≤ 64 → 64 ≤ k + f →
    loopP (nodeP f) ks.length ns acc k ⟨layL ls ks ++ y, false⟩ = some (ns ++ ls, acc ++ canL ks, k + (allL ks).length, ⟨y, false⟩)
  | [], [], ns, acc, k, y, _, _, _, _, _ => by simp [loopP, layL, canL, allL]
  | s :: ls, t :: ks, ns, acc, k, y, hl, h40, hn, hk, hf => by
    have hs := h40 s (by simp)
    rw [allL, List.length_append] at hk
    have e : layL (s :: ls) (t :: ks) ++ y = textB s ++ (layB t ++ (layL ls ks ++ y)) := by rw [layL]; simp
    obtain ⟨h1, h2⟩ := text_back s (layB t ++ (layL ls ks ++ y)) false (by omega)
    have hc : (all t).length = count t := rfl
    rw [List.length_cons, loopP, e, h2, hn t (by simp) k (layL ls ks ++ y) (by omega) hf]
    simp only
    have hp := count_pos t
    rw [h1, loop_lay ls ks _ _ _ _ (by simpa using hl) (fun s hs => h40 s (by simp [hs])) (fun t ht => hn t (by simp [ht])) (by omega) (by omega)]
    simp only [allL, canL, List.length_append, List.append_assoc, List.singleton_append, hc, Nat.add_assoc]
  | [], _ :: _, _, _, _, _, h, _, _, _, _ => by simp at h
  | _ :: _, [], _, _, _, _, h, _, _, _, _ => by simp at h
theorem node_lay : ∀ (f : Nat) (t : T), formT t → StampOk t → ∀ k y, k + count t ≤ 64 → 64 ≤ k + f → nodeP f k ⟨layB t ++ y, false⟩ = some (canT t, k + count t, ⟨y, false⟩)
  | 0, t, _, _, k, y, h1, h2 => by have := count_pos t; omega
  | f + 1, .mk x ks, hform, hst, k, y, hk, hf => by
    have hkids := fun t (ht : t ∈ ks) => node_lay f t (hform.kid ht) (hst.kid ht)
    rw [count_mk] at hk ⊢
    rw [nodeP, if_neg (by omega), layB]
    rcases fits_cases hform.top with ⟨h1, h2, h3, h4, h5⟩ | ⟨h1, h2, h3, h4, h5⟩ | ⟨h1, h2, h3, h4, h5, h6⟩
    · rw [if_pos h1]
      have hlk : ks.length ≤ (allL ks).length := kids_le ks
      obtain ⟨a1, a2⟩ := numR_cons x.kind (UInt8.ofNat x.names.length :: (layL x.names ks ++ y)) false
      obtain ⟨b1, b2⟩ := numR_cons (UInt8.ofNat x.names.length) (layL x.names ks ++ y) false
      have hb : (UInt8.ofNat x.names.length).toNat = ks.length := by rw [UInt8.toNat_ofNat_of_lt' (by show _ < 256; omega), h2]
      have e1 : (x.kind :: UInt8.ofNat x.names.length :: layL x.names ks) ++ y = x.kind :: (UInt8.ofNat x.names.length :: (layL x.names ks ++ y)) := rfl
      rw [e1, a1, a2, if_pos (by rw [h1]; rfl), b1, b2, hb]
      rw [loop_lay x.names ks [] [] (k + 1) y h2 (names_each h3) (fun t ht k y => hkids t ht k y) (by omega) (by omega)]
      obtain ⟨c1, c2, c3⟩ := noFile_spec h4
      simp only [List.nil_append, canT]
      refine congrArg some ?_
      refine Prod.ext ?_ (Prod.ext ?_ rfl)
      · simp only [dirE, eraseH, h1, c1, c2, c3, h5]
      · first | omega | (simp only; done) | (simp only; omega)
    · have hne : ¬ x.kind = 1 := by rw [h1]; decide
      rw [if_neg hne, if_pos h1]
      subst h4
      obtain ⟨a1, a2⟩ := numR_cons x.kind ((if x.run then 1 else 0) :: (wideB (canonB x.stamp) ++ textB x.data) ++ y) false
      have e1 : (x.kind :: ((if x.run then 1 else 0) :: (wideB (canonB x.stamp) ++ textB x.data))) ++ y = x.kind :: ((if x.run then 1 else 0) :: (wideB (canonB x.stamp) ++ textB x.data) ++ y) := rfl
      rw [e1, a1, a2, if_neg (by rw [h1]; decide), if_pos (by rw [h1]; rfl)]
      have e2 : ((if x.run then 1 else 0) :: (wideB (canonB x.stamp) ++ textB x.data)) ++ y = (if x.run then (1 : By) else 0) :: (wideB (canonB x.stamp) ++ (textB x.data ++ y)) := by simp
      obtain ⟨b1, b2⟩ := numR_cons (if x.run then (1 : By) else 0) (wideB (canonB x.stamp) ++ (textB x.data ++ y)) false
      have hs : canonB x.stamp < 18446744073709551616 := canonB_lt _ (hst _ (all_self' _))
      obtain ⟨c1, c2⟩ := wide_back (canonB x.stamp) hs (textB x.data ++ y) false
      obtain ⟨d1, d2⟩ := text_back x.data y false (by omega)
      have hrun : (if x.run then (1 : By) else 0).toNat = if x.run then 1 else 0 := by cases x.run <;> rfl
      have hf2 : filR ⟨((if x.run then 1 else 0) :: (wideB (canonB x.stamp) ++ textB x.data)) ++ y, false⟩ = some (.mk (fileE x.data x.run (canonB x.stamp)) [], ⟨y, false⟩) := by
        unfold filR
        rw [e2, b1, b2, c1, c2, d1, d2, hrun, if_neg (by cases x.run <;> simp), if_pos (show ofOk (canonB x.stamp) = true from decide_eq_true (canonB_canonB _))]
        have : decide ((if x.run = true then 1 else 0) = 1) = x.run := by cases x.run <;> rfl
        rw [this]
      rw [hf2]
      simp only [canT, canL, allL, List.length_nil]
      refine congrArg some ?_
      refine Prod.ext ?_ (Prod.ext ?_ rfl)
      · simp only [fileE, eraseH, h1, h3, h5]
      · first | omega | (simp only; done) | (simp only; omega)
    · have hne : ¬ x.kind = 1 := by rw [h1]; decide
      have hne2 : ¬ x.kind = 2 := by rw [h1]; decide
      rw [if_neg hne, if_neg hne2, if_pos h1]
      subst h5
      obtain ⟨a1, a2⟩ := numR_cons x.kind (textB x.target ++ y) false
      obtain ⟨d1, d2⟩ := text_back x.target y false (by omega)
      have e1 : (x.kind :: textB x.target) ++ y = x.kind :: (textB x.target ++ y) := rfl
      rw [e1, a1, a2, if_neg (by rw [h1]; decide), if_neg (by rw [h1]; decide), if_pos (by rw [h1]; rfl), d1, d2]
      obtain ⟨c1, c2, c3⟩ := noFile_spec h6
      simp only [canT, canL, allL, List.length_nil]
      refine congrArg some ?_
      refine Prod.ext ?_ (Prod.ext ?_ rfl)
      · simp only [linkE, eraseH, h1, c1, c2, c3, h4]
      · first | omega | (simp only; done) | (simp only; omega)
/-- an archive is read as the tree that it is of -/
theorem read_arch (rb : T → Bool) (t : T) (hf : formT t) (hs : StampOk t) (hc : count t ≤ 64) (hrb : rb (canT t) = true) : readP rb (arch t) = some (canT t) := by
  obtain ⟨h1, h2⟩ := text_back magic (layB t) false (by decide)
  have h3 := node_lay 65 t hf hs 0 [] (by omega) (by omega)
  rw [List.append_nil] at h3
  unfold readP arch
  rw [h1, if_pos rfl, h2, h3]
  simp [hrb]
theorem num1_p (r : Rd) (h : (after 1 r).f = false) : r.p = UInt8.ofNat (numR 1 r) :: (after 1 r).p := by
  obtain ⟨h1, h2⟩ := after_f 1 r h
  obtain ⟨e1, e2⟩ := taken_all 1 r h2
  cases hp : r.p with
  | nil => rw [hp] at h2; simp at h2
  | cons b y =>
    unfold numR
    rw [e1, e2, hp]
    simp [BaseMath.nat, BaseMath.val]
theorem val8 (l : List By) (h : l.length = 8) : wideB (BaseMath.val 256 (BaseMath.nat l)) = l := by
  match l, h with
  | [a, b, c, d, e, f, g, i], _ =>
    have ha := a.toNat_lt; have hb := b.toNat_lt; have hc := c.toNat_lt; have hd := d.toNat_lt; have he := e.toNat_lt; have hf := f.toNat_lt; have hg := g.toNat_lt; have hi := i.toNat_lt
    have hv : BaseMath.val 256 (BaseMath.nat [a, b, c, d, e, f, g, i]) = ((((((a.toNat * 256 + b.toNat) * 256 + c.toNat) * 256 + d.toNat) * 256 + e.toNat) * 256 + f.toNat) * 256 + g.toNat) * 256 + i.toNat := by simp [BaseMath.nat, BaseMath.val]; omega
    rw [hv]
    have key : ∀ (n : Nat) (q : By), n % 256 = q.toNat → UInt8.ofNat n = q := fun n q h => by
      apply UInt8.toNat_inj.1
      rw [UInt8.toNat_ofNat']; exact h
    have hr : List.range 8 = [0, 1, 2, 3, 4, 5, 6, 7] := rfl
    unfold wideB
    rw [hr]
    simp only [List.map_cons, List.map_nil]
    rw [key _ a (by omega), key _ b (by omega), key _ c (by omega), key _ d (by omega), key _ e (by omega), key _ f (by omega), key _ g (by omega), key _ i (by omega)]
theorem wide_p (r : Rd) (h : (after 8 r).f = false) : r.p = wideB (numR 8 r) ++ (after 8 r).p := by
  obtain ⟨h1, h2⟩ := after_f 8 r h
  obtain ⟨e1, e2⟩ := taken_all 8 r h2
  unfold numR
  rw [val8 (taken 8 r) (by rw [e1]; simp; omega), e1, e2, List.take_append_drop]
theorem num2_p (r : Rd) (h : (after 2 r).f = false) : r.p = numB (numR 2 r) ++ (after 2 r).p := by
  obtain ⟨h1, h2⟩ := after_f 2 r h
  obtain ⟨e1, e2⟩ := taken_all 2 r h2
  match hp : r.p, h2 with
  | a :: b :: y, _ =>
    unfold numR
    rw [e1, e2, hp]
    have ha := a.toNat_lt; have hb := b.toNat_lt
    have hv : BaseMath.val 256 (BaseMath.nat ((a :: b :: y).take 2)) = a.toNat * 256 + b.toNat := by simp [BaseMath.nat, BaseMath.val]; omega
    rw [hv]
    have key : ∀ (n : Nat) (q : By), n = q.toNat → UInt8.ofNat n = q := fun n q h => by
      apply UInt8.toNat_inj.1
      rw [h, UInt8.toNat_ofNat_of_lt' (by have := q.toNat_lt; exact this)]
    unfold numB
    rw [key _ a (by omega), key _ b (by omega)]
    rfl
theorem text_p (r : Rd) (h : (textA r).f = false) : r.p = textB (textR r) ++ (textA r).p := by
  have h0 : (after 2 r).f = false := (after_f _ _ h).1
  have h1 := num2_p r h0
  obtain ⟨-, h2⟩ := after_f _ _ h
  obtain ⟨e1, e2⟩ := taken_all (numR 2 r) (after 2 r) h2
  have e3 : textR r = (after 2 r).p.take (numR 2 r) := e1
  have e4 : (textA r).p = (after 2 r).p.drop (numR 2 r) := by unfold textA; rw [e2]
  have hl : (textR r).length = numR 2 r := by rw [e3]; simp; omega
  unfold textB
  rw [hl, e4, List.append_assoc, e3, List.take_append_drop]
  exact h1
theorem lay_file (d : List By) (b : Bool) (x : Nat) : layB (.mk (fileE d b x) []) = 2 :: (if b then 1 else 0) :: (wideB (canonB x) ++ textB d) := by
  rw [layB, if_neg (show ¬ (fileE d b x).kind = 1 from (by decide : ¬ (2 : By) = 1)), if_pos (show (fileE d b x).kind = 2 from rfl)]; rfl
/-- what is read is laid so again -/
theorem loop_back {f : Nat} (hn : ∀ k r o, nodeP f k r = some o → o.2.2.f = false → r.p = layB o.1 ++ o.2.2.p) : ∀ (n : Nat) (ns : List (List By)) (ks : List T) (k : Nat) (r : Rd) (o : List (List By) × List T × Nat × Rd), loopP (nodeP f) n ns ks k r = some o → o.2.2.2.f = false →
    ∃ ls ts, o.1 = ns ++ ls ∧ o.2.1 = ks ++ ts ∧ ls.length = n ∧ ts.length = n ∧ r.p = layL ls ts ++ o.2.2.2.p
  | 0, ns, ks, k, r, o, h, _ => by simp only [loopP, Option.some.injEq] at h; subst h; exact ⟨[], [], by simp, by simp, rfl, rfl, by simp [layL]⟩
  | n + 1, ns, ks, k, r, o, h, hf => by
    rw [loopP] at h
    split at h
    · cases h
    · rename_i t k' r' e
      have hr' := loopP_f (fun k r t k' r' h1 h2 => (after_f _ _ (nodeP_f f k r t k' r' h1 h2)).1) n _ _ _ _ o h hf
      obtain ⟨ls, ts, h1, h2, h3, h4, h5⟩ := loop_back hn n _ _ _ _ o h hf
      have h6 := hn _ _ _ e hr'
      have h7 := text_p r (after_f 1 _ (nodeP_f f _ _ _ _ _ e hr')).1
      refine ⟨textR r :: ls, t :: ts, by rw [h1]; simp, by rw [h2]; simp, by simp [h3], by simp [h4], ?_⟩
      simp only at h6
      rw [h7, h6, h5, layL]
      simp
theorem node_back : ∀ (f k : Nat) (r : Rd) (o : T × Nat × Rd), nodeP f k r = some o → o.2.2.f = false → r.p = layB o.1 ++ o.2.2.p
  | 0, k, r, o, h, _ => by cases h
  | f + 1, k, r, o, h, hf => by
    have ha := nodeP_f (f + 1) k r o.1 o.2.1 o.2.2 h hf
    have h0 := num1_p r ha
    rw [nodeP] at h
    split at h
    · cases h
    split at h
    · rename_i h1
      split at h
      · cases h
      · rename_i ns ks k2 r2 e
        simp only [Option.some.injEq] at h
        subst h
        simp only at hf ⊢
        have hr2 := loopP_f (fun k r t k' r' h1 h2 => (after_f _ _ (nodeP_f f k r t k' r' h1 h2)).1) _ _ _ _ _ _ e hf
        obtain ⟨ls, ts, e1, e2, e3, e4, e5⟩ := loop_back (fun k r o => node_back f k r o) _ _ _ _ _ _ e hf
        have h2 := num1_p (after 1 r) hr2
        simp only [List.nil_append] at e1 e2 e5
        rw [h0, h2, e5, h1, layB]
        subst e1 e2
        simp only [dirE]
        first | rw [if_pos rfl, e3] | rw [if_pos trivial, e3]
        rfl
    split at h
    · rename_i h1 h2
      split at h
      · cases h
      · rename_i t2 r2 e
        simp only [Option.some.injEq] at h
        subst h
        simp only at hf ⊢
        unfold filR at e
        split at e
        · cases e
        rename_i hb
        split at e
        · rename_i hok
          simp only [Option.some.injEq, Prod.mk.injEq] at e
          obtain ⟨rfl, rfl⟩ := e
          have f3 := textA_f _ hf
          have f2 := (after_f _ _ f3).1
          have g1 := num1_p (after 1 r) f2
          have g2 := wide_p (after 1 (after 1 r)) f3
          have g3 := text_p _ hf
          have hcn : canonB (numR 8 (after 1 (after 1 r))) = numR 8 (after 1 (after 1 r)) := of_decide_eq_true hok
          have hb1 : UInt8.ofNat (numR 1 (after 1 r)) = if decide (numR 1 (after 1 r) = 1) then (1 : By) else 0 := by
            have : numR 1 (after 1 r) = 0 ∨ numR 1 (after 1 r) = 1 := by omega
            rcases this with q | q <;> rw [q] <;> rfl
          rw [lay_file, h0, g1, g2, h2, hb1, hcn]
          conv => lhs; rw [g3]
          simp
        · cases e
    split at h
    · rename_i h1 h2 h3
      simp only [Option.some.injEq] at h
      subst h
      simp only at hf ⊢
      have g3 := text_p _ hf
      rw [h0, h3, layB]
      simp only [linkE]
      first | rw [if_neg (by decide), if_neg (by decide), if_pos rfl] | rw [if_neg (by decide), if_neg (by decide), if_pos trivial]
      conv => lhs; rw [g3]
      simp
    · cases h
theorem back_arch (rb : T → Bool) (p : List By) (t : T) (h : readP rb p = some t) : arch t = p ∧ rb t = true := by
  unfold readP at h
  split at h
  · rename_i hm
    split at h
    · cases h
    · rename_i t2 k r e
      split at h
      · cases h
      · rename_i hc
        simp only [Option.some.injEq] at h
        subst h
        simp only [Bool.or_eq_true, decide_eq_true_eq, Bool.not_eq_true', not_or, Bool.not_eq_true, Bool.not_eq_false] at hc
        obtain ⟨⟨c1, c2⟩, c3⟩ := hc
        have h1 := node_back 65 0 _ _ e c1
        have h2 := text_p ⟨p, false⟩ (after_f 1 _ (nodeP_f 65 _ _ _ _ _ e c1)).1
        simp only at h1 h2
        have h3 : r.p = [] := List.eq_nil_of_length_eq_zero (by omega)
        rw [h3, List.append_nil] at h1
        exact ⟨by unfold arch; rw [h2, h1, hm], c3⟩
  · cases h
end PackMath
