/- The contracts of the reader's numbers and text. -/
import Derived.Test.YtggmogjgaoobjaaDoorXCT2
namespace Go.Proofs.YtggmogjgaoobjaaDoor
open Go.RowKit BaseMath WireMath

set_option maxRecDepth 100000 in
theorem take_nil (n : Nat) (hn : n ≤ 1000000) (w : World) : Calls Tryd.prog 88 #[.pointer none, .int .i64 n] w fun e w' => e = .returned (.slice none 0 0) ∧ w = w' := by
  by_cases h0 : n = 0
  · subst h0
    go_enter Tryd.func88, Tryd.ntmps88
    go_wp2_with fail
    refine (left_nil w).mono ?_
    rintro e w1 ⟨rfl, rfl⟩
    go_wp2_with fail
    go_ret
    exact ⟨rfl, rfl⟩
  · have h0' : (0 : Int) < n := by omega
    go_enter Tryd.func88, Tryd.ntmps88
    go_wp2_with fail
    refine (left_nil w).mono ?_
    rintro e w1 ⟨rfl, rfl⟩
    go_wp2_with fail
    refine (fail_nil w).mono ?_
    rintro e w1 ⟨rfl, rfl⟩
    go_wp2_with fail
    go_ret
    exact ⟨rfl, rfl⟩
/-- what a number comes to -/
def NumPost (k : IntKind) (x : Nat) (w : World) (T : TypeId) (top g n : Nat) (r : Rd) (e : Ending) (w' : World) : Prop :=
  e = .returned (.int k (x : Nat)) ∧ RdIs w' T top g (after n r) ∧ OnlyAt g w w'
set_option maxRecDepth 100000 in
theorem val_take (t : List By) (k : Nat) (h : k < t.length) : val 256 (nat (t.take (k + 1))) = val 256 (nat (t.take k)) * 256 + t[k].toNat := by
  rw [List.take_succ_eq_append_getElem h]; unfold nat; rw [List.map_append, List.map_singleton, val_snoc]
set_option maxRecDepth 100000 in
theorem val_take_lt (t : List By) (k : Nat) (hk : k ≤ 7) : val 256 (nat (t.take k)) < 72057594037927936 := by
  refine Nat.lt_of_lt_of_le (val_lt 256 _ (nat_lt _)) (Nat.le_trans (Nat.pow_le_pow_right (by decide) (?_ : _ ≤ 7)) (by decide))
  rw [nat_length]; simp; omega
set_option maxRecDepth 100000 in
theorem or_byte (x b : Nat) (hx : x < 72057594037927936) (hb : b < 256) : bits .or .u64 ((x : Int) * 256) (b : Int) = ((x * 256 + b : Nat) : Int) := by
  rw [show (x : Int) * 256 = ((x * 256 : Nat) : Int) by omega, u64_or_nat _ _ (by omega) (by omega), nat_join 8 (x * 256) b (by omega) hb]
set_option maxRecDepth 100000 in
set_option maxHeartbeats 1000000 in
theorem number_any (top g n : Nat) (hn : n ≤ 8) (r : Rd) (hr : r.p.length ≤ 1000000) (w : World) (h : RdIs w 141 top g r) :
    Calls Tryd.prog 87 #[.pointer (some ⟨g, 0, none⟩), .int .i64 n] w (NumPost .u64 (numR n r) w 141 top g n r) := by
  have H := Lib.hid h; clear h
  go_enter Tryd.func87, Tryd.ntmps87
  go_wp2_with fail
  refine (take_any top g n (by omega) r hr w H.out).mono ?_
  rintro e w1 ⟨A, c, rfl, hs, hr1, ho1⟩
  have HS := Lib.hid hs; have HR := Lib.hid hr1; have HO := Lib.hid ho1
  have htl := taken_length n r
  have HV : Hid (numR n r = val 256 (nat (taken n r))) := rfl
  clear hs hr1 ho1 H
  generalize taken n r = t at *
  generalize numR n r = v at *
  go_wp2_with fail
  go_loop [5, 12] (fun vx vi => ∃ k : Nat, k ≤ t.length ∧ vi = .int .i64 k ∧ vx = .int .u64 (val 256 (nat (t.take k)) : Nat)) (fun _ vi => t.length - (intOf vi).toNat)
  case atStart => exact ⟨0, Nat.zero_le _, rfl, rfl⟩
  case round =>
    obtain ⟨k, hk, rfl, rfl⟩ := hrel
    by_cases hlt : k < t.length
    · obtain ⟨b, o, rfl, hb⟩ := HS.out (by omega)
      have c0 : w1.cell? ⟨b, o + k, none⟩ = some (vb t[k]) := hb k hlt
      have hx := val_take_lt t k (by omega)
      have HVT := Lib.hid (val_take t k hlt)
      have hbb : t[k].toNat < 256 := t[k].toNat_lt
      have hor := or_byte (val 256 (nat (t.take k))) t[k].toNat hx hbb
      clear hb
      generalize val 256 (nat (t.take k)) = x at *
      generalize t[k] = y at *
      have hx' : x ≤ 72057594037927935 := by omega
      obtain ⟨z, HZ⟩ : ∃ z, Hid (z = x * 256 + y.toNat) := ⟨_, rfl⟩
      rw [← HZ.out] at hor HVT
      clear hx
      go_wp2_with fail
      go_round
      case rel => exact ⟨k + 1, by omega, by go_num, by rw [HVT.out]⟩
      case measure => simp [intOf]; omega
    · obtain rfl : k = t.length := by omega
      rw [List.take_length, ← HV.out]
      go_wp2_with fail
      go_ret
      exact ⟨rfl, HR.out, HO.out⟩
set_option maxRecDepth 100000 in
theorem number_nil (n : Nat) (hn : n ≤ 8) (w : World) : Calls Tryd.prog 87 #[.pointer none, .int .i64 n] w fun e w' => e = .returned (.int .u64 0) ∧ w = w' := by
  go_enter Tryd.func87, Tryd.ntmps87
  go_wp2_with fail
  refine (take_nil n (by omega) w).mono ?_
  rintro e w1 ⟨rfl, rfl⟩
  go_wp2_with fail
  go_loop [5, 12] (fun vx vi => vi = .int .i64 0 ∧ vx = .int .u64 0) (fun _ vi => 0)
  case atStart => exact ⟨rfl, rfl⟩
  case round =>
    obtain ⟨rfl, rfl⟩ := hrel
    go_wp2_with fail
    go_ret
    exact ⟨rfl, rfl⟩
set_option maxRecDepth 100000 in
theorem byte_any (top g : Nat) (r : Rd) (hr : r.p.length ≤ 1000000) (w : World) (h : RdIs w 141 top g r) :
    Calls Tryd.prog 48 #[.pointer (some ⟨g, 0, none⟩)] w (NumPost .u8 (numR 1 r) w 141 top g 1 r) := by
  have H := Lib.hid h; clear h
  have hlt : numR 1 r < 256 := numR_lt 1 r
  go_enter Tryd.func48, Tryd.ntmps48
  go_wp2_with fail
  refine (number_any top g 1 (by decide) r hr w H.out).mono ?_
  rintro e w1 ⟨rfl, h1, h2⟩
  have HR := Lib.hid h1; have HO := Lib.hid h2
  clear h1 h2
  generalize numR 1 r = v at *
  go_wp2_with fail
  go_ret
  exact ⟨rfl, HR.out, HO.out⟩
set_option maxRecDepth 100000 in
theorem num_any (top g : Nat) (r : Rd) (hr : r.p.length ≤ 1000000) (w : World) (h : RdIs w 141 top g r) :
    Calls Tryd.prog 62 #[.pointer (some ⟨g, 0, none⟩)] w (NumPost .i64 (numR 2 r) w 141 top g 2 r) := by
  have H := Lib.hid h; clear h
  have hlt : numR 2 r < 65536 := numR_lt 2 r
  go_enter Tryd.func62, Tryd.ntmps62
  go_wp2_with fail
  refine (number_any top g 2 (by decide) r hr w H.out).mono ?_
  rintro e w1 ⟨rfl, h1, h2⟩
  have HR := Lib.hid h1; have HO := Lib.hid h2
  clear h1 h2
  generalize numR 2 r = v at *
  go_wp2_with fail
  go_ret
  exact ⟨rfl, HR.out, HO.out⟩
set_option maxRecDepth 100000 in
theorem wide_any (top g : Nat) (r : Rd) (hr : r.p.length ≤ 1000000) (w : World) (h : RdIs w 141 top g r) :
    Calls Tryd.prog 64 #[.pointer (some ⟨g, 0, none⟩)] w (NumPost .u64 (numR 8 r) w 141 top g 8 r) := by
  have H := Lib.hid h; clear h
  go_enter Tryd.func64, Tryd.ntmps64
  go_wp2_with fail
  refine (number_any top g 8 (by decide) r hr w H.out).mono ?_
  rintro e w1 ⟨rfl, h1, h2⟩
  have HR := Lib.hid h1; have HO := Lib.hid h2
  clear h1 h2
  generalize numR 8 r = v at *
  go_wp2_with fail
  go_ret
  exact ⟨rfl, HR.out, HO.out⟩
set_option maxRecDepth 100000 in
theorem byte_nil (w : World) : Calls Tryd.prog 48 #[.pointer none] w fun e w' => e = .returned (.int .u8 0) ∧ w = w' := by
  go_enter Tryd.func48, Tryd.ntmps48
  go_wp2_with fail
  refine (number_nil 1 (by decide) w).mono ?_
  rintro e w1 ⟨rfl, rfl⟩
  go_wp2_with fail
  go_ret
  exact ⟨rfl, rfl⟩
set_option maxRecDepth 100000 in
theorem num_nil (w : World) : Calls Tryd.prog 62 #[.pointer none] w fun e w' => e = .returned (.int .i64 0) ∧ w = w' := by
  go_enter Tryd.func62, Tryd.ntmps62
  go_wp2_with fail
  refine (number_nil 2 (by decide) w).mono ?_
  rintro e w1 ⟨rfl, rfl⟩
  go_wp2_with fail
  go_ret
  exact ⟨rfl, rfl⟩
set_option maxRecDepth 100000 in
theorem wide_nil (w : World) : Calls Tryd.prog 64 #[.pointer none] w fun e w' => e = .returned (.int .u64 0) ∧ w = w' := by
  go_enter Tryd.func64, Tryd.ntmps64
  go_wp2_with fail
  refine (number_nil 8 (by decide) w).mono ?_
  rintro e w1 ⟨rfl, rfl⟩
  go_wp2_with fail
  go_ret
  exact ⟨rfl, rfl⟩
def TextPost (w : World) (T : TypeId) (top g : Nat) (r : Rd) (e : Ending) (w' : World) : Prop :=
  e = .returned (.string ⟨(textR r).toArray⟩) ∧ RdIs w' T top g (textA r) ∧ OnlyAt g w w'
set_option maxRecDepth 100000 in
theorem after_len (n : Nat) (r : Rd) : (after n r).p.length ≤ r.p.length := by unfold after; split <;> simp
set_option maxRecDepth 100000 in
theorem rtext_any (top g : Nat) (r : Rd) (hr : r.p.length ≤ 1000000) (w : World) (h : RdIs w 141 top g r) :
    Calls Tryd.prog 49 #[.pointer (some ⟨g, 0, none⟩)] w (TextPost w 141 top g r) := by
  have H := Lib.hid h; clear h
  have hlt : numR 2 r < 65536 := numR_lt 2 r
  have hal := after_len 2 r
  go_enter Tryd.func49, Tryd.ntmps49
  go_wp2_with fail
  refine (num_any top g r hr w H.out).mono ?_
  rintro e w1 ⟨rfl, h1, h2⟩
  have HR := Lib.hid h1; have HO := Lib.hid h2
  clear h1 h2
  go_wp2_with fail
  refine (take_any top g (numR 2 r) (by omega) (after 2 r) (by omega) w1 HR.out).mono ?_
  rintro e w2 ⟨A, c, rfl, hs, hr2, ho2⟩
  have HR2 := Lib.hid hr2; have HO2 := Lib.hid ho2
  have hcv := run_text_src (cap := c) hs
  clear hs hr2 ho2
  have HT : Hid (taken (numR 2 r) (after 2 r) = textR r) := rfl
  have HT2 : Hid (after (numR 2 r) (after 2 r) = textA r) := rfl
  rw [HT.out] at hcv ⊢
  rw [HT2.out] at HR2
  go_wp2_with fail
  go_ret
  exact ⟨rfl, HR2.out, HO.out.trans HO2.out⟩
set_option maxRecDepth 100000 in
theorem rtext_nil (w : World) : Calls Tryd.prog 49 #[.pointer none] w fun e w' => e = .returned (.string ⟨#[]⟩) ∧ w = w' := by
  have hcv : (convert 37 9 (.slice none 0 0)).run Tryd.prog w = .ok (.string ⟨#[]⟩) w := run_text_src (w := w) (A := none) (cap := 0) (l := []) (fun h => absurd h (by simp))
  go_enter Tryd.func49, Tryd.ntmps49
  go_wp2_with fail
  refine (num_nil w).mono ?_
  rintro e w1 ⟨rfl, rfl⟩
  go_wp2_with fail
  refine (take_nil 0 (by decide) w).mono ?_
  rintro e w1 ⟨rfl, rfl⟩
  go_wp2_with fail
  go_ret
  exact ⟨rfl, rfl⟩
end Go.Proofs.YtggmogjgaoobjaaDoor

/- A writer in memory; the contracts of lay, Byte, Num, Wide, Text, Texts, Bytes, of bytes.Clone and NewReader. -/
namespace Go.Proofs.YtggmogjgaoobjaaDoor
open Go.RowKit BaseMath WireMath

/-- a writer at block g, with the slice v of its own row -/
structure WrIs (w : World) (base g : Nat) (v : Value) (l : List By) : Prop where
  blk : Blk w g 88 [v]
  own : w.ownsRow base 5 1 v l.length (l.map vb)
  lo : base ≤ g
/-- what laying leaves: all but the writer and its row -/
structure WrStep (g : Nat) (v v' : Value) (w w' : World) : Prop where
  os : w'.os = w.os
  tape : w'.tape = w.tape
  output : w'.output = w.output
  size : w.heap.size ≤ w'.heap.size
  other : ∀ c, c < w.heap.size → c ≠ g → v.ownBlock ≠ some c → w'.heap[c]? = w.heap[c]?
  own : ∀ k, v'.ownBlock = some k → v.ownBlock = some k ∨ w.heap.size ≤ k
set_option maxRecDepth 100000 in
theorem WrStep.refl (g : Nat) (v : Value) (w : World) : WrStep g v v w w := ⟨rfl, rfl, rfl, Nat.le_refl _, fun _ _ _ _ => rfl, fun _ h => .inl h⟩
set_option maxRecDepth 100000 in
theorem WrStep.trans {g : Nat} {v1 v2 v3 : Value} {a b c : World} (h : WrStep g v1 v2 a b) (k : WrStep g v2 v3 b c) : WrStep g v1 v3 a c := by
  refine ⟨k.os.trans h.os, k.tape.trans h.tape, k.output.trans h.output, Nat.le_trans h.size k.size, fun i hi hn hv => ?_, fun i hi => ?_⟩
  · rw [k.other i (Nat.lt_of_lt_of_le hi h.size) hn (fun e => ?_), h.other i hi hn hv]
    rcases h.own i e with h1 | h1
    · exact hv h1
    · omega
  · rcases k.own i hi with h1 | h1
    · exact h.own i h1
    · exact .inr (Nat.le_trans h.size h1)
set_option maxRecDepth 100000 in
theorem WrStep.of_below {g : Nat} {v : Value} {w w' : World} (h : Below w.heap.size w w') : WrStep g v v w w' := ⟨h.os, h.tape, h.output, h.size, fun c hc _ _ => h.block c hc, fun _ hk => .inl hk⟩
set_option maxRecDepth 100000 in
theorem WrIs.base_le {w : World} {base g : Nat} {v : Value} {l : List By} (h : WrIs w base g v l) (k : Nat) (hk : v.ownBlock = some k) : base ≤ k := (h.own.lt k hk).1
set_option maxRecDepth 100000 in
theorem WrStep.below {w w' : World} {base g : Nat} {v v' : Value} {l : List By} (h : WrStep g v v' w w') (hw : WrIs w base g v l) (hb : base ≤ w.heap.size) : Below base w w' :=
  ⟨h.os, h.tape, h.output, h.size, fun k hk => h.other k (by omega) (by have := hw.lo; omega) (fun e => by have := hw.base_le k e; omega)⟩
set_option maxRecDepth 100000 in
theorem own_ne {w : World} {base g n : Nat} {v : Value} {xs cs : List Value} {T : TypeId} (hT : T ≠ 5) (h : Blk w g T cs) (ho : w.ownsRow base 5 1 v n xs) : v.ownBlock ≠ some g := by
  rcases ho.2 with ⟨rfl, _⟩ | ⟨k, cap, cur, rfl, _, hc, _⟩
  · intro e; cases e
  · intro e
    obtain rfl : k = g := by simpa [Value.ownBlock] using e
    unfold Blk at h; rw [hc] at h
    simp only [Option.some.injEq, Obj.cells.injEq] at h
    exact hT h.2.1.symm
set_option maxRecDepth 100000 in
theorem ownsRow_keep {w w' : World} {base n : Nat} {e : TypeId} {v : Value} {xs : List Value} (ho : w.ownsRow base e 1 v n xs) (h : ∀ k, v.ownBlock = some k → w'.heap[k]? = w.heap[k]?) : w'.ownsRow base e 1 v n xs := by
  refine ⟨ho.1, ?_⟩
  rcases ho.2 with h1 | ⟨k, cap, cur, rfl, h2, h3, h4⟩
  · exact .inl h1
  · exact .inr ⟨k, cap, cur, rfl, h2, by rw [h k rfl]; exact h3, h4⟩
set_option maxRecDepth 100000 in
theorem WrIs.below {w w' : World} {base g : Nat} {v : Value} {l : List By} (h : WrIs w base g v l) (hb : Below w.heap.size w w') : WrIs w' base g v l :=
  ⟨h.blk.below hb h.blk.lt, ownsRow_keep h.own (fun k hk => hb.block k (h.own.lt k hk).2), h.lo⟩
set_option maxRecDepth 100000 in
/-- BYTES APPENDED TO A ROW OF ONE's OWN: what there is then, and where -/
theorem run_append_x {w : World} {ty : TypeId} (base : Nat) (v : Value) (xs : List By) (hown : w.ownsRow base 5 1 v xs.length (xs.map vb))
    (A : Option Addr) (c : Nat) (l : List By) (hN : A = none → c = 0) (hA : SrcIs w A l) (hbd : xs.length + l.length ≤ 1000000) (hbase : base ≤ w.heap.size) :
    ∃ v' w', (Builtin.append_ #[37, 37] ty #[v, .slice A l.length c]).run Tryd.prog w = .ok v' w' ∧ w'.ownsRow base 5 1 v' (xs ++ l).length ((xs ++ l).map vb) ∧ w.grownBy w' v.ownBlock ∧ (∀ k, v'.ownBlock = some k → v.ownBlock = some k ∨ w.heap.size ≤ k) := by
  obtain ⟨i0, hi, hz0, hz1, hz2⟩ := info_parts info5
  cases A with
  | none =>
    have hl : l = [] := by
      cases l with
      | nil => rfl
      | cons y r => obtain ⟨b, o, he, _⟩ := hA (by simp); cases he
    subst hl
    obtain rfl := hN rfl
    refine ⟨v, w, ?_, by simpa using hown, ⟨rfl, rfl, rfl, Nat.le_refl _, fun _ _ _ => rfl⟩, fun _ h => .inl h⟩
    exact run_append_owned_none (P := Tryd.prog) (w := w) base 37 ty 5 i0 1 Tryd.underlying37 hi v xs.length (xs.map vb) hown
  | some ad =>
    have hsrc : ∀ j y, (l.map vb)[j]? = some y → w.cell? (ad.add j) = some y := by
      intro j y hj
      have h0 : 0 < l.length := by have := (List.getElem?_eq_some_iff.1 hj).1; simp at this; omega
      obtain ⟨b, o, he, hc⟩ := hA h0
      cases he
      exact hc.src j y hj
    have h1 : ∀ y ∈ l.map vb, y.oneCell' = true := by intro y hy; obtain ⟨z, _, rfl⟩ := List.mem_map.1 hy; rfl
    obtain ⟨v', w', hr, ho, hg, _⟩ := run_append_own (P := Tryd.prog) w base 37 ty 5 i0 (.int .u8 0) 1 1 Tryd.underlying37 hi hz0 hz1 hz2 rfl (by decide) v xs.length (xs.map vb) hown ad l.length c (l.map vb) (by simp) hsrc h1 (by unfold maxLen; omega) (by omega) hbase
    refine ⟨v', w', hr, by rw [List.length_append, List.map_append]; exact ho, hg, ?_⟩
    rcases hown.2 with ⟨rfl, hz⟩ | ⟨g, cap, cur, rfl, _, hgc, hnc, hcm, hcs, htk⟩
    · obtain ⟨v2, w2, hr2, ho2, _, _⟩ := run_append_own (P := Tryd.prog) w w.heap.size 37 ty 5 i0 (.int .u8 0) 1 1 Tryd.underlying37 hi hz0 hz1 hz2 rfl (by decide) (.slice none 0 0) xs.length (xs.map vb) ⟨by simp, .inl ⟨rfl, hz⟩⟩ ad l.length c (l.map vb) (by simp) hsrc h1 (by unfold maxLen; omega) (by omega) (Nat.le_refl _)
      rw [hr] at hr2
      injection hr2 with e1 e2
      subst e1 e2
      exact fun k hk => .inr (ho2.lt k hk).1
    · by_cases hroom : xs.length + l.length ≤ cap
      · have hr2 := run_append_room (P := Tryd.prog) w 37 ty 5 i0 Tryd.underlying37 hi g xs.length cap cur hgc ad l.length c (l.map vb) (by rw [hz1]; simp) hsrc h1 hroom (by rw [hz1, List.length_map]; omega)
        rw [hr] at hr2
        injection hr2 with e1 e2
        subst e1
        intro k hk
        exact .inl hk
      · have hr2 := run_append_grow (P := Tryd.prog) w 37 ty 5 i0 (.int .u8 0) Tryd.underlying37 hi hz0 ⟨g, 0, none⟩ xs.length cap (xs.map vb) (by rw [hz1]; simp) (hown.cells (g := g) rfl) ad l.length c (l.map vb) (by rw [hz1]; simp) hsrc (by omega) (by omega) (growslice_fits (by omega) (by rw [hz2]; omega))
        rw [hr] at hr2
        injection hr2 with e1 e2
        subst e1
        intro k hk
        simp [Value.ownBlock] at hk
        omega
set_option maxRecDepth 100000 in
theorem wpList_append_x {w : World} {ops : Array Oper} {rest : List Oper} {o : Oper} {a : Act} {Q : Exit → Act → World → Prop} (hgd : o.guard = none) (s x : Operand)
    (ho : o.op = .call { callee := .builtin .append, args := #[s, x], argTypes := #[37, 37] }) (base : Nat) (v : Value) (xs : List By) (hs : a.eval s = v) (hown : w.ownsRow base 5 1 v xs.length (xs.map vb))
    (A : Option Addr) (c : Nat) (l : List By) (hx : a.eval x = .slice A l.length c) (hN : A = none → c = 0) (hA : SrcIs w A l) (hbd : xs.length + l.length ≤ 1000000) (hbase : base ≤ w.heap.size)
    (h : ∀ v' w', w'.ownsRow base 5 1 v' (xs ++ l).length ((xs ++ l).map vb) → w.grownBy w' v.ownBlock → (∀ k, v'.ownBlock = some k → v.ownBlock = some k ∨ w.heap.size ≤ k) → wpList Tryd.prog ops Q rest (a.put o.dst v') w') : wpList Tryd.prog ops Q (o :: rest) a w := by
  refine wpList_plain hgd fun K hK => ?_
  obtain ⟨v', w', hr, h1, h2, h3⟩ := run_append_x (ty := o.type) base v xs hown A c l hN hA hbd hbase
  unfold Oper.wp execOp
  simp only [ho, resolve, invoke, builtin, Sem.run_bind, Sem.run_pure, Result.andThen_ok, List.map_toArray, List.map_cons, List.map_nil, hs, hx, hr]
  exact hK _ _ (h v' w' h1 h2 h3)
/-- what laying comes to -/
def WrPost (w : World) (base g : Nat) (v : Value) (l : List By) (e : Ending) (w' : World) : Prop :=
  e = .returned (.pointer (some ⟨g, 0, none⟩)) ∧ ∃ v', WrIs w' base g v' l ∧ WrStep g v v' w w'
set_option maxRecDepth 100000 in
theorem WrPost.pre {w w0 w' : World} {base g : Nat} {v : Value} {l : List By} {e : Ending} (h : WrPost w base g v l e w') (hb : Below w0.heap.size w0 w) : WrPost w0 base g v l e w' := by
  obtain ⟨he, v', h1, h2⟩ := h
  exact ⟨he, v', h1, (WrStep.of_below hb).trans h2⟩
set_option maxRecDepth 100000 in
set_option maxHeartbeats 1000000 in
theorem lay_any (base g : Nat) (v : Value) (l : List By) (A : Option Addr) (c : Nat) (x : List By) (hbd : l.length + x.length ≤ 1000000) (hN : A = none → c = 0) (w : World) (h : WrIs w base g v l) (hA : SrcIs w A x) :
    Calls Tryd.prog 85 #[.pointer (some ⟨g, 0, none⟩), .slice A x.length c] w (WrPost w base g v (l ++ x)) := by
  have H := Lib.hid h; have HA := Lib.hid hA; have HN := Lib.hid hN
  have c0 := h.blk.cell 0
  simp only [List.getElem?_cons_zero] at c0
  have hgl := h.blk.lt
  have hlo := h.lo
  clear h hA hN
  go_enter Tryd.func85, Tryd.ntmps85
  go_wp2_with (refine wpList_append_x rfl (.tmp 11) (.tmp 12) rfl base v l rfl H.out.own A c x rfl HN.out HA.out hbd (by omega) ?_)
  intro v' w1 ho hg hk
  rw [← List.map_append, ← List.length_append] at ho
  have hne := own_ne (by decide) H.out.blk H.out.own
  have hb1 : Blk w1 g 88 [v] := by
    unfold Blk
    rw [hg.block g hgl (fun e => hne e.symm)]; exact H.out.blk
  have c1 := hb1.cell 0
  have f1 := hb1.frozen 0
  simp only [List.getElem?_cons_zero] at c1
  have hb2 : Blk (w1.setCell ⟨g, 0, none⟩ v') g 88 [v'] := by have := hb1.set 0 v'; simpa using this
  have hne2 := own_ne (by decide) hb1 ho
  have HW : Hid (WrIs (w1.setCell ⟨g, 0, none⟩ v') base g v' (l ++ x)) :=
    ⟨hb2, ownsRow_keep ho (fun k hk => Below.heap_setCell w1 ⟨g, 0, none⟩ v' k (fun e => by subst e; exact hne2 hk)), hlo⟩
  have HS : Hid (WrStep g v v' w (w1.setCell ⟨g, 0, none⟩ v')) :=
    ⟨hg.os, hg.tape, hg.output, by rw [World.size_setCell]; exact hg.size, fun k hk1 hk2 hk3 => by rw [Below.heap_setCell w1 ⟨g, 0, none⟩ v' k hk2]; exact hg.block k hk1 (fun e => hk3 e.symm), hk⟩
  obtain ⟨A2, n2, c2, rfl⟩ : ∃ A n c, v' = .slice A n c := by
    rcases ho.2 with ⟨rfl, _⟩ | ⟨k, cap, cur, rfl, _⟩ <;> exact ⟨_, _, _, rfl⟩
  clear ho hg hk hne hb1 hb2 hne2 H HA
  go_wp2_with fail
  go_ret
  exact ⟨rfl, _, HW.out, HS.out⟩
set_option maxRecDepth 100000 in
theorem lay_n (base g : Nat) (v : Value) (l : List By) (A : Option Addr) (c n : Nat) (x : List By) (hn : x.length = n) (hbd : l.length + n ≤ 1000000) (hN : A = none → c = 0) (w : World) (h : WrIs w base g v l) (hA : SrcIs w A x) :
    Calls Tryd.prog 85 #[.pointer (some ⟨g, 0, none⟩), .slice A n c] w (WrPost w base g v (l ++ x)) := by
  subst hn; exact lay_any base g v l A c x hbd hN w h hA
set_option maxRecDepth 100000 in
theorem lay_nil (v : Value) (w : World) : Calls Tryd.prog 85 #[.pointer none, v] w fun e w' => e = .returned (.pointer none) ∧ w = w' := by
  go_enter Tryd.func85, Tryd.ntmps85
  go_wp2_with fail
  go_ret
  exact ⟨rfl, rfl⟩
set_option maxRecDepth 100000 in
theorem new_src (w : World) (l : List By) : SrcIs (w.alloc (.cells (l.map vb).toArray 5)) (some ⟨w.heap.size, 0, none⟩) l :=
  bytes_src (Blk.bytes (l := l) (tl := []) (by have := Blk.new w 5 (l.map vb).toArray; simpa using this))
set_option maxRecDepth 100000 in
theorem vb_ofNat (n : Nat) : vb (UInt8.ofNat n) = .int .u8 ((n % 256 : Nat) : Int) := by
  unfold vb; rw [UInt8.toNat_ofNat']
set_option maxRecDepth 100000 in
theorem vb_ofInt (n : Int) : vb (UInt8.ofNat (n % 256).toNat) = .int .u8 (n % 256) := by
  rw [vb_ofNat]; congr 1; omega
set_option maxRecDepth 100000 in
theorem numB_cells (n : Int) : ((numB n).map vb).toArray = #[.int .u8 (n / 256 % 256), .int .u8 (n % 256)] := by
  unfold numB; rw [List.map_cons, List.map_cons, List.map_nil, vb_ofInt, vb_ofInt]
set_option maxRecDepth 100000 in
theorem vb_div (x K : Nat) (k : Int) (h : (K : Int) = k) : vb (UInt8.ofNat (x / K)) = .int .u8 ((x : Int) / k % 256) := by
  subst h; rw [vb_ofNat, Int.natCast_emod, Int.natCast_ediv]; rfl
set_option maxRecDepth 100000 in
theorem vb_top (x : Nat) (hx : x ≤ 18446744073709551615) : vb (UInt8.ofNat (x / 72057594037927936)) = .int .u8 ((x : Int) / 72057594037927936) := by
  rw [vb_div x 72057594037927936 72057594037927936 rfl]; congr 1; omega
set_option maxRecDepth 100000 in
theorem wideB_cells (x : Nat) (hx : x ≤ 18446744073709551615) : ((wideB x).map vb).toArray = #[.int .u8 ((x : Int) / 72057594037927936), .int .u8 ((x : Int) / 281474976710656 % 256), .int .u8 ((x : Int) / 1099511627776 % 256), .int .u8 ((x : Int) / 4294967296 % 256), .int .u8 ((x : Int) / 16777216 % 256), .int .u8 ((x : Int) / 65536 % 256), .int .u8 ((x : Int) / 256 % 256), .int .u8 ((x : Int) % 256)] := by
  have e : wideB x = [UInt8.ofNat (x / 72057594037927936), UInt8.ofNat (x / 281474976710656), UInt8.ofNat (x / 1099511627776), UInt8.ofNat (x / 4294967296), UInt8.ofNat (x / 16777216), UInt8.ofNat (x / 65536), UInt8.ofNat (x / 256), UInt8.ofNat (x / 1)] := rfl
  have e1 : vb (UInt8.ofNat (x / 1)) = .int .u8 ((x : Int) % 256) := by rw [Nat.div_one, vb_ofNat, Int.natCast_emod]; rfl
  rw [e]
  rw [List.map_cons, List.map_cons, List.map_cons, List.map_cons, List.map_cons, List.map_cons, List.map_cons, List.map_cons, List.map_nil, e1, vb_top x hx, vb_div x 281474976710656 _ rfl, vb_div x 1099511627776 _ rfl, vb_div x 4294967296 _ rfl, vb_div x 16777216 _ rfl, vb_div x 65536 _ rfl, vb_div x 256 _ rfl]
  rfl
set_option maxRecDepth 100000 in
theorem wbyte_any (base g : Nat) (v : Value) (l : List By) (b : By) (hbd : l.length + 1 ≤ 1000000) (w : World) (h : WrIs w base g v l) :
    Calls Tryd.prog 39 #[.pointer (some ⟨g, 0, none⟩), vb b] w (WrPost w base g v (l ++ [b])) := by
  have hb : Below w.heap.size w (w.alloc (.cells #[vb b] 5)) := (Below.refl _ _).alloc (Nat.le_refl _) _
  have H := Lib.hid (h.below hb); have HB := Lib.hid hb
  clear h hb
  go_enter Tryd.func39, Tryd.ntmps39
  go_wp2_with fail
  refine (lay_any base g v l (some ⟨w.heap.size, 0, none⟩) 1 [b] hbd (fun h => by cases h) _ H.out (new_src w [b])).mono ?_
  rintro e w1 hp
  have HP := Lib.hid (hp.pre HB.out)
  obtain ⟨rfl, -⟩ := hp
  go_wp2_with fail
  go_ret
  exact HP.out
set_option maxRecDepth 100000 in
theorem wbyte_nil (b : Int) (w : World) : Calls Tryd.prog 39 #[.pointer none, .int .u8 b] w fun e w' => e = .returned (.pointer none) ∧ Below w.heap.size w w' := by
  go_enter Tryd.func39, Tryd.ntmps39
  go_wp2_with fail
  refine (lay_nil _ _).mono ?_
  rintro e w1 ⟨rfl, rfl⟩
  go_wp2_with fail
  go_ret
  exact ⟨rfl, (Below.refl _ _).alloc (Nat.le_refl _) _⟩
set_option maxRecDepth 100000 in
theorem wnum_any (base g : Nat) (v : Value) (l : List By) (n : Int) (hbd : l.length + 2 ≤ 1000000) (w : World) (h : WrIs w base g v l) :
    Calls Tryd.prog 58 #[.pointer (some ⟨g, 0, none⟩), .int .i64 n] w (WrPost w base g v (l ++ numB n)) := by
  have hb : Below w.heap.size w (w.alloc (.cells ((numB n).map vb).toArray 5)) := (Below.refl _ _).alloc (Nat.le_refl _) _
  have H := Lib.hid (h.below hb); have HB := Lib.hid hb; have HS := Lib.hid (new_src w (numB n))
  rw [numB_cells] at H HB HS
  clear h hb
  go_enter Tryd.func58, Tryd.ntmps58
  go_wp2_with fail
  refine (lay_any base g v l (some ⟨w.heap.size, 0, none⟩) 2 (numB n) hbd (fun h => by cases h) _ H.out HS.out).mono ?_
  rintro e w1 hp
  have HP := Lib.hid (hp.pre HB.out)
  obtain ⟨rfl, -⟩ := hp
  go_wp2_with fail
  go_ret
  exact HP.out
set_option maxRecDepth 100000 in
theorem wnum_nil (n : Int) (w : World) : Calls Tryd.prog 58 #[.pointer none, .int .i64 n] w fun e w' => e = .returned (.pointer none) ∧ Below w.heap.size w w' := by
  go_enter Tryd.func58, Tryd.ntmps58
  go_wp2_with fail
  refine (lay_nil _ _).mono ?_
  rintro e w1 ⟨rfl, rfl⟩
  go_wp2_with fail
  go_ret
  exact ⟨rfl, (Below.refl _ _).alloc (Nat.le_refl _) _⟩
set_option maxRecDepth 100000 in
theorem wwide_any (base g : Nat) (v : Value) (l : List By) (x : Nat) (hx : x ≤ 18446744073709551615) (hbd : l.length + 8 ≤ 1000000) (w : World) (h : WrIs w base g v l) :
    Calls Tryd.prog 59 #[.pointer (some ⟨g, 0, none⟩), .int .u64 x] w (WrPost w base g v (l ++ wideB x)) := by
  have hb : Below w.heap.size w (w.alloc (.cells ((wideB x).map vb).toArray 5)) := (Below.refl _ _).alloc (Nat.le_refl _) _
  have H := Lib.hid (h.below hb); have HB := Lib.hid hb; have HS := Lib.hid (new_src w (wideB x))
  rw [wideB_cells x hx] at H HB HS
  clear h hb
  go_enter Tryd.func59, Tryd.ntmps59
  go_wp2_with fail
  refine (lay_n base g v l (some ⟨w.heap.size, 0, none⟩) 8 8 (wideB x) rfl hbd (fun h => by cases h) _ H.out HS.out).mono ?_
  rintro e w1 hp
  have HP := Lib.hid (hp.pre HB.out)
  obtain ⟨rfl, -⟩ := hp
  go_wp2_with fail
  go_ret
  exact HP.out
set_option maxRecDepth 100000 in
theorem wwide_nil (w : World) : Calls Tryd.prog 59 #[.pointer none, .int .u64 7] w fun e w' => e = .returned (.pointer none) ∧ Below w.heap.size w w' := by
  go_enter Tryd.func59, Tryd.ntmps59
  go_wp2_with fail
  refine (lay_nil _ _).mono ?_
  rintro e w1 ⟨rfl, rfl⟩
  go_wp2_with fail
  go_ret
  exact ⟨rfl, (Below.refl _ _).alloc (Nat.le_refl _) _⟩
set_option maxRecDepth 100000 in
/-- a text as bytes -/
theorem str_bytes (s : List By) (w : World) : ∃ c w2, (convert 9 37 (.string ⟨s.toArray⟩)).run Tryd.prog w = .ok (.slice (some ⟨w.heap.size, 0, none⟩) s.length c) w2 ∧ SrcIs w2 (some ⟨w.heap.size, 0, none⟩) s ∧ Below w.heap.size w w2 := by
  have h := run_bytes_of_string (P := Tryd.prog) w 9 37 5 ⟨s.toArray⟩ Tryd.underlying9 Tryd.underlying37 Tryd.underlying5
  have hs : (ByteArray.mk s.toArray).size = s.length := by simp [ByteArray.size]
  rw [hs] at h
  refine ⟨_, _, h, ?_, (Below.refl _ _).drew.alloc (Nat.le_refl _) _⟩
  refine bytes_src (fun k hk => ?_)
  rw [Nat.zero_add]
  have hc := World.cell?_alloc_mark w.drew (bytesRow ⟨s.toArray⟩ (grownCap w s.length 0 5)) 5 ((bytesRow ⟨s.toArray⟩ (grownCap w s.length 0 5)).size, (bytesRow ⟨s.toArray⟩ (grownCap w s.length 0 5)).size + 1) k
  refine Eq.trans hc ?_
  rw [bytesRow_at _ _ _ (by simpa using hk)]
  simp
set_option maxRecDepth 100000 in
theorem numB_length (n : Int) : (numB n).length = 2 := rfl
set_option maxRecDepth 100000 in
set_option maxHeartbeats 1000000 in
theorem wtext_any (base g : Nat) (v : Value) (l s : List By) (hbd : l.length + 2 + s.length ≤ 1000000) (w : World) (h : WrIs w base g v l) :
    Calls Tryd.prog 41 #[.pointer (some ⟨g, 0, none⟩), .string ⟨s.toArray⟩] w (WrPost w base g v (l ++ textB s)) := by
  have H := Lib.hid h; clear h
  go_enter Tryd.func41, Tryd.ntmps41
  go_wp2_with fail
  refine (wnum_any base g v l s.length (by omega) w H.out).mono ?_
  rintro e w1 ⟨rfl, v1, h1, h2⟩
  obtain ⟨c, w2, hcv, hsrc, hb⟩ := str_bytes s w1
  have H2 := Lib.hid (h1.below hb); have HS := Lib.hid hsrc
  have HST := Lib.hid (h2.trans (WrStep.of_below hb))
  clear h1 h2 hsrc hb
  go_wp2_with fail
  refine (lay_n base g v1 (l ++ numB s.length) (some ⟨w1.heap.size, 0, none⟩) c s.length s rfl (by rw [List.length_append, numB_length]; omega) (fun h => by cases h) w2 H2.out HS.out).mono ?_
  rintro e w3 ⟨rfl, v3, h3, h4⟩
  have H3 := Lib.hid h3; have H4 := Lib.hid (HST.out.trans h4)
  clear h3 h4
  go_wp2_with fail
  go_ret
  refine ⟨rfl, v3, ?_, H4.out⟩
  unfold textB; rw [← List.append_assoc]; exact H3.out
set_option maxRecDepth 100000 in
theorem wtext_nil (s : List By) (w : World) : Calls Tryd.prog 41 #[.pointer none, .string ⟨s.toArray⟩] w fun e w' => e = .returned (.pointer none) ∧ Below w.heap.size w w' := by
  go_enter Tryd.func41, Tryd.ntmps41
  go_wp2_with fail
  refine (wnum_nil s.length w).mono ?_
  rintro e w1 ⟨rfl, hb1⟩
  obtain ⟨c, w2, hcv, -, hb⟩ := str_bytes s w1
  have HB : Hid (Below w.heap.size w w2) := hb1.trans (hb.mono hb1.size)
  clear hb hb1
  go_wp2_with fail
  refine (lay_nil _ _).mono ?_
  rintro e w3 ⟨rfl, rfl⟩
  go_wp2_with fail
  go_ret
  exact ⟨rfl, HB.out⟩
end Go.Proofs.YtggmogjgaoobjaaDoor
