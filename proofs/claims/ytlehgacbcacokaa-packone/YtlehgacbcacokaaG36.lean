/- The contract of the reference's Read. -/
import Derived.Test.YtlehgacbcacokaaG32
import Derived.Test.YtlehgacbcacokaaG35
import Derived.Test.YtlehgacbcacokaaG12
namespace Go.Proofs.Ytlehgacbcacokaa
open Go.RowKit TreeMath RealMath WireMath PackMath

theorem right_deep (t : T) (h : rightB t = true) : depth t ≤ 8 := by
  unfold rightB at h
  simp only [Bool.and_eq_true, decide_eq_true_eq] at h
  exact h.1.2
theorem readR_eq (p : List By) : readR rightB p = readP rightB p := read_eq rightB right_deep p
set_option maxHeartbeats 1000000 in
set_option maxRecDepth 100000 in
/-- it ends: the result's cells are there -/
theorem rread_end {p : List By} {w W : World} {tmps : Array Value} (x : Hd) (n : Nat) (er : Int) (h2 : tmps[2]? = some (.pointer (some ⟨w.heap.size, 0, none⟩))) (h3 : tmps[3]? = some (.int .i64 er)) (b1 : Blk W w.heap.size 27 (cellsOf x n))
    (hP : ReadPost p w (.returned (.tuple #[nv x n, .int .i64 er])) W) : bodyPost Try.prog Try.f78 (ReadPost p w) .ret { tmps := tmps, defers := [] } W := by
  have e0 := b1.cell 0; have e1 := b1.cell 1; have e2 := b1.cell 2; have e3 := b1.cell 3; have e4 := b1.cell 4; have e5 := b1.cell 5; have e6 := b1.cell 6
  simp only [cellsOf, List.getElem?_cons_zero, List.getElem?_cons_succ] at e0 e1 e2 e3 e4 e5 e6
  have HP := Lib.hid hP
  clear hP
  exact bodyPost_ret (v := .tuple #[nv x n, .int .i64 er]) (by simp [results, Try.results78, go_sem, h2, h3, e0, e1, e2, e3, e4, e5, e6]) rfl HP.out
set_option maxHeartbeats 1000000 in
/-- it ends with an error -/
theorem rread_no {p : List By} {w W : World} {tmps : Array Value} (h2 : tmps[2]? = some (.pointer (some ⟨w.heap.size, 0, none⟩))) (h3 : tmps[3]? = some (.int .i64 2)) (b1 : Blk W w.heap.size 27 zero7) (hb : Below w.heap.size w W) (hr : readP rightB p = none) :
    bodyPost Try.prog Try.f78 (ReadPost p w) .ret { tmps := tmps, defers := [] } (set7 W w.heap.size (.int .u8 0) (.slice none 0 0) (.slice none 0 0) (.slice none 0 0) (.bool false) (.float .f64 0) (.string ⟨#[]⟩)) :=
  rread_end zero 0 2 h2 h3 (set7_blk b1 rfl _ _ _ _ _ _ _) ⟨set7_below hb w.heap.size (Nat.le_refl _) _ _ _ _ _ _ _, by rw [hr]⟩
theorem few_leaf {x : Hd} (h : x.names = []) : Few (.mk x []) := fun k hk => by
  rw [all, allL] at hk
  obtain rfl : k = .mk x [] := by simpa using hk
  show x.names.length ≤ _
  rw [h]; simp
theorem nodeP_few : ∀ (f k : Nat) (r : Rd) (o : T × Nat × Rd), nodeP f k r = some o → Few o.1
  | 0, k, r, o, h => by cases h
  | f + 1, k, r, o, h => by
    have loop : ∀ (n : Nat) (ns : List (List By)) (ks : List T) (k : Nat) (r : Rd) (o : List (List By) × List T × Nat × Rd), loopP (nodeP f) n ns ks k r = some o → (∀ t ∈ ks, Few t) → ∀ t ∈ o.2.1, Few t := by
      intro n
      induction n with
      | zero => intro ns ks k r o h hk; simp only [loopP, Option.some.injEq] at h; subst h; exact hk
      | succ n ih =>
        intro ns ks k r o h hk
        rw [loopP] at h
        split at h
        · cases h
        · rename_i t k' r' e
          refine ih _ _ _ _ o h (fun j hj => ?_)
          rcases List.mem_append.1 hj with q | q
          · exact hk j q
          · obtain rfl : j = t := by simpa using q
            exact nodeP_few f _ _ _ e
    rw [nodeP] at h
    split at h
    · cases h
    split at h
    · split at h
      · cases h
      · rename_i ns ks k2 r2 e
        simp only [Option.some.injEq] at h
        subst h
        have hk := loop _ _ _ _ _ _ e (fun t ht => by cases ht)
        obtain ⟨a, b, h1, -, h3, -⟩ := loopP_out _ _ _ _ _ _ e
        intro j hj
        simp only at hj h1
        rw [all] at hj
        rcases List.mem_cons.1 hj with q | q
        · subst q
          show ns.length ≤ _
          rw [h1, List.nil_append, h3]
          have : numR 1 (after 1 r) < 256 := numR_lt 1 _
          omega
        · have : ∀ (l : List T), (∀ t ∈ l, Few t) → ∀ j ∈ allL l, j.hd.names.length ≤ 100000 := by
            intro l
            induction l with
            | nil => intro _ j hj; rw [allL] at hj; cases hj
            | cons t l ih =>
              intro hl j hj
              rw [allL] at hj
              rcases List.mem_append.1 hj with q | q
              · exact hl t (by simp) j q
              · exact ih (fun t ht => hl t (by simp [ht])) j q
          exact this ks hk j q
    split at h
    · split at h
      · cases h
      · rename_i t2 r2 e
        simp only [Option.some.injEq] at h
        subst h
        unfold filR at e
        split at e
        · cases e
        split at e
        · simp only [Option.some.injEq, Prod.mk.injEq] at e
          rw [← e.1]; exact few_leaf rfl
        · cases e
    split at h
    · simp only [Option.some.injEq] at h
      subst h
      exact few_leaf rfl
    · cases h
theorem few_erase {t : T} (h : Few (erase t)) : Few t := fun k hk => by
  have h2 := h (erase k) (by rw [all_erase]; exact List.mem_map_of_mem hk)
  cases k; exact h2
set_option maxHeartbeats 4000000 in
set_option maxRecDepth 100000 in
theorem rread_any (A : Option Addr) (c : Nat) (p : List By) (hl : p.length ≤ 1000000) (hN : A = none → c = 0) (hc : p.length ≤ c) (w : World) (hA : SrcIs w A p) :
    Calls Try.prog 78 #[.slice A p.length c] w (ReadPost p w) := by
  have HALT := hA.lt
  have HA := Lib.hid hA; have HN := Lib.hid hN
  clear hA hN
  go_enter Try.func78, Try.ntmps78
  go_upto_region 2 with fail
  have b1 : Blk ((w.alloc (.cells zero7.toArray 27)).alloc (.cells #[.slice A p.length c, .bool false] 118)) w.heap.size 27 zero7 := (Blk.new w 27 zero7.toArray).alloc _
  have b2 := Blk.new (w.alloc (.cells zero7.toArray 27)) 118 #[.slice A p.length c, .bool false]
  rw [World.size_alloc] at b2
  have hB : Below w.heap.size w ((w.alloc (.cells zero7.toArray 27)).alloc (.cells #[.slice A p.length c, .bool false] 118)) := ((Below.refl _ _).alloc (Nat.le_refl _) _).alloc (by simp) _
  have HRD : Hid (RdIs ((w.alloc (.cells zero7.toArray 27)).alloc (.cells #[.slice A p.length c, .bool false] 118)) 118 w.heap.size (w.heap.size + 1) ⟨p, false⟩) :=
    ⟨⟨A, c, b2, HN.out, hc, HA.out.below hB, HALT⟩, by omega⟩
  have HB1 := Lib.hid b1; have HB := Lib.hid hB
  clear b1 b2 hB HALT
  generalize hW : (w.alloc (.cells zero7.toArray 27)).alloc (.cells #[.slice A p.length c, .bool false] 118) = W2 at *
  clear hW HA HN
  go_wp2_with fail
  have hok0 : (⟨p, false⟩ : Rd).ok := fun h => by cases h
  refine (itext_any w.heap.size (w.heap.size + 1) ⟨p, false⟩ hl hok0 W2 HRD.out).mono ?_
  rintro e w3 ⟨rfl, h1, h2⟩
  have HRD3 := Lib.hid h1
  have HB1' := Lib.hid (Blk.only HB1.out h2 (by omega))
  have HB3 := Lib.hid (HB.out.trans (h2.below (B := w.heap.size) (by omega) HB.out.size))
  have HOK1 := Lib.hid (ok_textA hok0)
  clear h1 h2 HRD HB1 HB hok0
  have hr1 : (textA ⟨p, false⟩).p.length ≤ 1000000 := Nat.le_trans (Nat.le_trans (after_len _ _) (after_len _ _)) hl
  have hl3 := HB1'.out.lt
  have k0 := HB1'.out.cell 0; have k1 := HB1'.out.cell 1; have k2 := HB1'.out.cell 2; have k3 := HB1'.out.cell 3; have k4 := HB1'.out.cell 4; have k5 := HB1'.out.cell 5; have k6 := HB1'.out.cell 6
  have f0 := HB1'.out.frozen 0; have f1 := HB1'.out.frozen 1; have f2 := HB1'.out.frozen 2; have f3 := HB1'.out.frozen 3; have f4 := HB1'.out.frozen 4; have f5 := HB1'.out.frozen 5; have f6 := HB1'.out.frozen 6
  simp only [List.getElem?_cons_zero, List.getElem?_cons_succ] at k0 k1 k2 k3 k4 k5 k6
  by_cases hm : textR ⟨p, false⟩ = magic
  · have hmb : (textR ⟨p, false⟩ == [103, 111, 100, 111, 119, 110, 49]) = true := by rw [list_beq]; exact decide_eq_true hm
    have hmn : (textR ⟨p, false⟩ != [103, 111, 100, 111, 119, 110, 49]) = false := by rw [bne, hmb]; rfl
    have HRP : Hid (readP rightB p = match nodeR 8 0 (textA ⟨p, false⟩) with | none => none | some (t, _, r) => if r.f || decide (0 < r.p.length) || !rightB t then none else some t) := by
      show _ = _; rw [← readR_eq]; unfold readR; rw [if_pos hm]
      cases nodeR 8 0 (textA ⟨p, false⟩) <;> rfl
    clear hm
    go_upto_region 5 with fail
    clear hmb hmn k0 k1 k2 k3 k4 k5 k6 f0 f1 f2 f3 f4 f5 f6
    have hb4 : Below w3.heap.size w3 (w3.alloc (.cells #[.int .i64 0] 3)) := (Below.refl _ _).alloc (Nat.le_refl _) _
    generalize textA ⟨p, false⟩ = r1 at *
    obtain ⟨Ar, cr, hgr, -⟩ := HRD3.out.ex
    have hgr' := hgr.lt
    have HIS : Hid (InIs (w3.alloc (.cells #[.int .i64 0] 3)) w.heap.size w3.heap.size (w.heap.size + 1) 0 r1) := ⟨Blk.new w3 3 _, HRD3.out.below hb4 hgr', by omega, by omega, HOK1.out⟩
    have HB4 := Lib.hid (HB1'.out.below hb4 hl3)
    have HBE4 := Lib.hid (HB3.out.trans (hb4.mono HB3.out.size))
    have hs4 : (w3.alloc (.cells #[.int .i64 0] 3)).heap.size = w3.heap.size + 1 := by simp
    have HC : Hid (Calls Try.prog 104 #[.pointer (some ⟨w.heap.size + 1, 0, none⟩), .int .i64 1, .pointer (some ⟨w3.heap.size, 0, none⟩)] (w3.alloc (.cells #[.int .i64 0] 3)) (RNodePost 8 (w3.alloc (.cells #[.int .i64 0] 3)) w.heap.size w3.heap.size (w.heap.size + 1) 0 r1)) := rnode_of 8 w.heap.size w3.heap.size (w.heap.size + 1) 0 1 r1 _ hr1 (by omega) (by omega) (by omega) (by omega) HIS.out
    generalize hW : w3.alloc (.cells #[.int .i64 0] 3) = W4 at *
    clear hW hgr hb4 HRD3 HB1' HB3
    cases hnp : nodeR 8 0 r1 with
    | none =>
      have HNN : Hid (readP rightB p = none) := by show _ = _; rw [HRP.out, hnp]
      have HCN : Hid (Calls Try.prog 104 #[.pointer (some ⟨w.heap.size + 1, 0, none⟩), .int .i64 1, .pointer (some ⟨w3.heap.size, 0, none⟩)] W4 fun e w' => ∃ z n, e = .returned (.tuple #[nv z n, .bool false]) ∧ Turned (ArSet w3.heap.size (w.heap.size + 1)) (ArSet w3.heap.size (w.heap.size + 1)) W4 w') := HC.out.mono fun e w' h => by
        have h2 := h.2
        rw [hnp] at h2
        obtain ⟨z, n, he⟩ := h2
        exact ⟨z, n, he, h.1⟩
      clear hnp HC HRP
      go_wp2_with fail
      refine HCN.out.mono ?_
      rintro e w5 ⟨z, n, rfl, h5⟩
      have hb1 := h5.blk HB4.out (fun e => by rcases e with e | e <;> omega)
      have hbe := HBE4.out.trans (h5.below (B := w.heap.size) (fun c e => by rcases e with e | e <;> omega) (by omega))
      have HB5 := Lib.hid (hb1.alloc (.cells #[vb z.kind, .slice z.na z.names.length z.nc, .slice z.ka n z.kc, .slice z.da z.data.length z.dc, .bool z.run, .float .f64 z.stamp, vs z.target] 27))
      have HBE5 := Lib.hid (hbe.alloc hbe.size (.cells #[vb z.kind, .slice z.na z.names.length z.nc, .slice z.ka n z.kc, .slice z.da z.data.length z.dc, .bool z.run, .float .f64 z.stamp, vs z.target] 27))
      clear hb1 hbe h5
      go_upto_region 6 with fail
      generalize hW : w5.alloc (.cells #[vb z.kind, .slice z.na z.names.length z.nc, .slice z.ka n z.kc, .slice z.da z.data.length z.dc, .bool z.run, .float .f64 z.stamp, vs z.target] 27) = W6 at *
      clear hW
      have k0 := HB5.out.cell 0; have k1 := HB5.out.cell 1; have k2 := HB5.out.cell 2; have k3 := HB5.out.cell 3; have k4 := HB5.out.cell 4; have k5 := HB5.out.cell 5; have k6 := HB5.out.cell 6
      have f0 := HB5.out.frozen 0; have f1 := HB5.out.frozen 1; have f2 := HB5.out.frozen 2; have f3 := HB5.out.frozen 3; have f4 := HB5.out.frozen 4; have f5 := HB5.out.frozen 5; have f6 := HB5.out.frozen 6
      have hl6 := HB5.out.lt
      simp only [List.getElem?_cons_zero, List.getElem?_cons_succ] at k0 k1 k2 k3 k4 k5 k6
      go_wp2_with fail
      exact rread_no rfl rfl HB5.out HBE5.out HNN.out
    | some o =>
      obtain ⟨t, k2, r5⟩ := o
      have HCN : Hid (Calls Try.prog 104 #[.pointer (some ⟨w.heap.size + 1, 0, none⟩), .int .i64 1, .pointer (some ⟨w3.heap.size, 0, none⟩)] W4 fun e w' => ∃ z lz, e = .returned (.tuple #[nv z lz.length, .bool true]) ∧ erase (.mk z lz) = t ∧ Ok w' w'.heap.size (.mk z lz) ∧ InS (fun c => W4.heap.size ≤ c) (.mk z lz) ∧ InIs w' w.heap.size w3.heap.size (w.heap.size + 1) k2 r5 ∧ Turned (ArSet w3.heap.size (w.heap.size + 1)) (ArSet w3.heap.size (w.heap.size + 1)) W4 w') := HC.out.mono fun e w' h => by
        obtain ⟨h1, h2⟩ := h
        rw [hnp] at h2
        obtain ⟨z, lz, a1, a2, a3, a4, a5⟩ := h2
        exact ⟨z, lz, a1, a2, a3, a4, a5, h1⟩
      have HP1 := Lib.hid ((nodeR_P 8 0 r1 _ hnp).1 64 (by omega))
      have HRP2 : Hid (readP rightB p = if r5.f || decide (0 < r5.p.length) || !rightB t then none else some t) := by show _ = _; rw [HRP.out, hnp]
      clear hnp HC HRP
      go_wp2_with fail
      refine HCN.out.mono ?_
      rintro e w5 ⟨z, lz, rfl, h1, h2, h3, h4, h5⟩
      have hb1 := h5.blk HB4.out (fun e => by rcases e with e | e <;> omega)
      have hbe := HBE4.out.trans (h5.below (B := w.heap.size) (fun c e => by rcases e with e | e <;> omega) (by omega))
      have hb6 : Below w5.heap.size w5 (w5.alloc (.cells #[vb z.kind, .slice z.na z.names.length z.nc, .slice z.ka lz.length z.kc, .slice z.da z.data.length z.dc, .bool z.run, .float .f64 z.stamp, vs z.target] 27)) := (Below.refl _ _).alloc (Nat.le_refl _) _
      have HB5 := Lib.hid (hb1.below hb6 hb1.lt)
      have HBE5 := Lib.hid (hbe.trans (hb6.mono hbe.size))
      have HBX := Lib.hid (Blk.new w5 27 #[vb z.kind, .slice z.na z.names.length z.nc, .slice z.ka lz.length z.kc, .slice z.da z.data.length z.dc, .bool z.run, .float .f64 z.stamp, vs z.target])
      have HE := Lib.hid h1; have HO := Lib.hid ((h2.keep hb6).up hb6.size); have HI := Lib.hid (h3.mono (fun c hc => (by omega : w.heap.size + 1 < c)))
      have HIS6 := Lib.hid (h4.below hb6)
      have hw5 : w.heap.size < w5.heap.size := hb1.lt
      clear hb1 hbe hb6 h1 h2 h3 h4 h5 HIS HCN
      go_upto_region 6 with fail
      generalize hW : w5.alloc (.cells #[vb z.kind, .slice z.na z.names.length z.nc, .slice z.ka lz.length z.kc, .slice z.da z.data.length z.dc, .bool z.run, .float .f64 z.stamp, vs z.target] 27) = W6 at *
      clear hW
      go_wp2_with fail
      refine (whole_any w.heap.size (w.heap.size + 1) r5 W6 HIS6.out.rd).mono ?_
      rintro e w7 ⟨rfl, rfl⟩
      cases hwh : wholeR r5 with
      | false =>
        have HNN : Hid (readP rightB p = none) := by
          show _ = _
          rw [HRP2.out, if_pos]
          unfold wholeR at hwh
          cases hf : r5.f with
          | true => rfl
          | false =>
            rw [hf] at hwh
            have : 0 < r5.p.length := by
              simp only [Bool.not_false, Bool.true_and, decide_eq_false_iff_not] at hwh; omega
            simp [this]
        clear hwh HRP2
        have k0 := HB5.out.cell 0; have k1 := HB5.out.cell 1; have k2' := HB5.out.cell 2; have k3 := HB5.out.cell 3; have k4 := HB5.out.cell 4; have k5 := HB5.out.cell 5; have k6 := HB5.out.cell 6
        have f0 := HB5.out.frozen 0; have f1 := HB5.out.frozen 1; have f2 := HB5.out.frozen 2; have f3 := HB5.out.frozen 3; have f4 := HB5.out.frozen 4; have f5 := HB5.out.frozen 5; have f6 := HB5.out.frozen 6
        have hl6 := HB5.out.lt
        simp only [List.getElem?_cons_zero, List.getElem?_cons_succ] at k0 k1 k2' k3 k4 k5 k6
        go_wp2_with fail
        exact rread_no rfl rfl HB5.out HBE5.out HNN.out
      | true =>
        have HRP3 : Hid (readP rightB p = if rightB t then some t else none) := by
          show _ = _
          unfold wholeR at hwh
          simp only [Bool.and_eq_true, Bool.not_eq_true', decide_eq_true_eq] at hwh
          rw [HRP2.out, hwh.1, hwh.2]
          cases rightB t <;> rfl
        clear hwh HRP2
        have e0 := HBX.out.cell 0; have e1 := HBX.out.cell 1; have e2 := HBX.out.cell 2; have e3 := HBX.out.cell 3; have e4 := HBX.out.cell 4; have e5 := HBX.out.cell 5; have e6 := HBX.out.cell 6
        simp only [List.getElem?_cons_zero, List.getElem?_cons_succ] at e0 e1 e2 e3 e4 e5 e6
        go_wp2_with fail
        clear e0 e1 e2 e3 e4 e5 e6
        have hcz : count (.mk z lz) ≤ 64 := by rw [← count_erase, HE.out]; have := nodeP_count 64 0 r1 _ HP1.out; simp only at this; omega
        have hfew : Few (.mk z lz) := few_erase (by rw [HE.out]; exact nodeP_few 64 0 r1 _ HP1.out)
        refine (rright_any z lz W6.heap.size W6 (Nat.le_refl _) HO.out (by omega) hfew).mono ?_
        rintro e w8 ⟨rfl, hb8⟩
        have HB8 := Lib.hid (HB5.out.below hb8 HB5.out.lt)
        have HBX8 := Lib.hid (HBX.out.below hb8 HBX.out.lt)
        have HBE8 := Lib.hid (HBE5.out.trans (hb8.mono HBE5.out.size))
        have HO8 := Lib.hid ((HO.out.keep hb8).up hb8.size)
        have HRB : Hid (rightB (.mk z lz) = rightB t) := by show _ = _; rw [← HE.out, right_erase]
        clear hb8 hcz hfew HB5 HBX HBE5 HO
        have k0 := HB8.out.cell 0; have k1 := HB8.out.cell 1; have k2' := HB8.out.cell 2; have k3 := HB8.out.cell 3; have k4 := HB8.out.cell 4; have k5 := HB8.out.cell 5; have k6 := HB8.out.cell 6
        have f0 := HB8.out.frozen 0; have f1 := HB8.out.frozen 1; have f2 := HB8.out.frozen 2; have f3 := HB8.out.frozen 3; have f4 := HB8.out.frozen 4; have f5 := HB8.out.frozen 5; have f6 := HB8.out.frozen 6
        have hl6 := HB8.out.lt
        simp only [List.getElem?_cons_zero, List.getElem?_cons_succ] at k0 k1 k2' k3 k4 k5 k6
        cases hrb : rightB (.mk z lz) with
        | false =>
          have HNN : Hid (readP rightB p = none) := by show _ = _; rw [HRP3.out, ← HRB.out, hrb]; rfl
          clear hrb HRP3 HRB
          go_wp2_with fail
          exact rread_no rfl rfl HB8.out HBE8.out HNN.out
        | true =>
          have HNN : Hid (readP rightB p = some t) := by show _ = _; rw [HRP3.out, ← HRB.out, hrb]; rfl
          clear hrb HRP3 HRB
          have e0 := HBX8.out.cell 0; have e1 := HBX8.out.cell 1; have e2 := HBX8.out.cell 2; have e3 := HBX8.out.cell 3; have e4 := HBX8.out.cell 4; have e5 := HBX8.out.cell 5; have e6 := HBX8.out.cell 6
          simp only [List.getElem?_cons_zero, List.getElem?_cons_succ] at e0 e1 e2 e3 e4 e5 e6
          go_wp2_with fail
          change bodyPost _ _ _ _ _ (set7 w8 w.heap.size (vb z.kind) (.slice z.na z.names.length z.nc) (.slice z.ka lz.length z.kc) (.slice z.da z.data.length z.dc) (.bool z.run) (.float .f64 z.stamp) (vs z.target))
          have hoth := set7_other w8 w.heap.size (vb z.kind) (.slice z.na z.names.length z.nc) (.slice z.ka lz.length z.kc) (.slice z.da z.data.length z.dc) (.bool z.run) (.float .f64 z.stamp) (vs z.target)
          have hsz := set7_size w8 w.heap.size (vb z.kind) (.slice z.na z.names.length z.nc) (.slice z.ka lz.length z.kc) (.slice z.da z.data.length z.dc) (.bool z.run) (.float .f64 z.stamp) (vs z.target)
          exact rread_end z lz.length 0 rfl rfl (set7_blk HB8.out rfl _ _ _ _ _ _ _) ⟨set7_below HBE8.out w.heap.size (Nat.le_refl _) _ _ _ _ _ _ _, by rw [HNN.out]; exact ⟨z, lz, rfl, HE.out, HO8.out.turn HI.out (fun c hc _ => hoth c (by omega)) (fun _ _ hl => by rw [hsz]; exact hl), HI.out.mono (fun c hc => by omega)⟩⟩
  · have hmb : (textR ⟨p, false⟩ == [103, 111, 100, 111, 119, 110, 49]) = false := by rw [list_beq]; exact decide_eq_false hm
    have hmn : (textR ⟨p, false⟩ != [103, 111, 100, 111, 119, 110, 49]) = true := by rw [bne, hmb]; rfl
    have HNN : Hid (readP rightB p = none) := by show _ = _; unfold readP; rw [if_neg hm]
    clear hm
    go_wp2_with fail
    exact rread_no rfl rfl HB1'.out HB3.out HNN.out
end Go.Proofs.Ytlehgacbcacokaa

/- The contracts of the reference's Wide and Texts. -/
namespace Go.Proofs.Ytlehgacbcacokaa
open Go.RowKit BaseMath WireMath

theorem RowRel.below' {w wr w1 : World} {e : TypeId} {l : List Value} {v : Value} (h : RowRel w e l v wr) (hb : Below wr.heap.size wr w1) : RowRel w e l v w1 :=
  ⟨h.below.trans (hb.mono h.below.size), ownsRow_keep h.own (fun k hk => hb.block k (h.own.lt k hk).2)⟩
def wideN8 (x k : Nat) : List By := (List.range k).map fun i => UInt8.ofNat (x / 2 ^ (56 - 8 * i))
theorem wideN8_succ (x k : Nat) : (wideN8 x (k + 1)).map vb = (wideN8 x k).map vb ++ [vb (UInt8.ofNat (x / 2 ^ (56 - 8 * k)))] := by simp [wideN8, List.range_succ]
theorem wideN8_length (x k : Nat) : ((wideN8 x k).map vb).length = k := by simp [wideN8]
theorem vb_mod (x : Nat) : vb (UInt8.ofNat x) = .int .u8 ((x : Int) % 256) := by rw [vb_ofNat, Int.natCast_emod]; rfl
set_option maxHeartbeats 1000000 in
set_option maxRecDepth 100000 in
theorem rwide_any (x : Nat) (hx : x ≤ 18446744073709551615) (w : World) :
    Calls Try.prog 45 #[.int .u64 x] w fun e w' => ∃ v, e = .returned v ∧ RowRel w 5 ((wideB x).map vb) v w' := by
  go_enter Try.func45, Try.ntmps45
  go_wp2_with fail
  go_loopw [3, 4] (fun v vi wr => ∃ k : Nat, k ≤ 8 ∧ vi = .int .i64 k ∧ Hid (RowRel w 5 ((wideN8 x k).map vb) v wr)) (fun _ vi _ => 8 - (intOf vi).toNat)
  case atStart => exact ⟨0, by omega, rfl, RowRel.none w 5⟩
  case round =>
    obtain ⟨k, hk, rfl, HR⟩ := hrel
    rename World => W0
    have HL := Lib.hid (wideN8_length x k)
    have HS := Lib.hid (wideN8_succ x k)
    by_cases hlt : k < 8
    · have e : k = 0 ∨ k = 1 ∨ k = 2 ∨ k = 3 ∨ k = 4 ∨ k = 5 ∨ k = 6 ∨ k = 7 := by omega
      rcases e with rfl | rfl | rfl | rfl | rfl | rfl | rfl | rfl
      all_goals
        simp only [Nat.reduceMul, Nat.reduceSub, Nat.reducePow, Nat.reduceAdd, Nat.div_one] at HS
        first
          | rw [vb_top x hx] at HS
          | rw [vb_div x 281474976710656 281474976710656 rfl] at HS
          | rw [vb_div x 1099511627776 1099511627776 rfl] at HS
          | rw [vb_div x 4294967296 4294967296 rfl] at HS
          | rw [vb_div x 16777216 16777216 rfl] at HS
          | rw [vb_div x 65536 65536 rfl] at HS
          | rw [vb_div x 256 256 rfl] at HS
          | rw [vb_mod x] at HS
        go_wp2_with (refine wpList_push Try.underlying24 info5 rfl (by decide) rfl (.tmp 9) (.tmp 16) rfl HR.out rfl _ 1 rfl rfl rfl (by rw [HL.out]; omega) ?_)
        intro v1 w1 hr1
        rw [← HS.out] at hr1
        have HN := Lib.hid hr1
        clear hr1 HR
        go_wp2_with fail
        go_roundw
        case rel => exact ⟨_, by omega, by first | rfl | go_num, HN.out⟩
        case measure => simp [intOf]
    · obtain rfl : k = 8 := by omega
      go_wp2_with fail
      go_ret
      exact ⟨_, rfl, HR.out⟩
end Go.Proofs.Ytlehgacbcacokaa
