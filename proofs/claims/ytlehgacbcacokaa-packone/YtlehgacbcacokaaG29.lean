/- A writer in memory; the contracts of lay, Byte, Num, Wide, Text, Texts, Bytes, of bytes.Clone and NewReader. -/
import Derived.Test.YtlehgacbcacokaaG18
import Derived.Test.YtlehgacbcacokaaG20
import Derived.Test.YtlehgacbcacokaaG26
import Derived.Test.YtlehgacbcacokaaG28
namespace Go.Proofs.Ytlehgacbcacokaa
open Go.RowKit BaseMath WireMath

/-- a writer at block g, with the slice v of its own row -/
structure WrIs (w : World) (base g : Nat) (v : Value) (l : List By) : Prop where
  blk : Blk w g 83 [v]
  own : w.ownsRow base 5 1 v l.length (l.map vb)
  lo : base ≤ g
/-- what laying leaves: all but the writer and its row -/
structure WrStep (g : Nat) (v v' : Value) (w w' : World) : Prop where
  os : w'.os = w.os
  tape : w'.tape = w.tape
  output : w'.output = w.output
  size : w.heap.size ≤ w'.heap.size
  other : ∀ c, c < w.heap.size → c ≠ g → v.ownBlock ≠ some c → w'.heap[c]? = w.heap[c]?
  own : ∀ k, v'.ownBlock = some k → v.ownBlock = some k ∨ w.heap.size ≤ k
theorem WrStep.refl (g : Nat) (v : Value) (w : World) : WrStep g v v w w := ⟨rfl, rfl, rfl, Nat.le_refl _, fun _ _ _ _ => rfl, fun _ h => .inl h⟩
theorem WrStep.trans {g : Nat} {v1 v2 v3 : Value} {a b c : World} (h : WrStep g v1 v2 a b) (k : WrStep g v2 v3 b c) : WrStep g v1 v3 a c := by
  refine ⟨k.os.trans h.os, k.tape.trans h.tape, k.output.trans h.output, Nat.le_trans h.size k.size, fun i hi hn hv => ?_, fun i hi => ?_⟩
  · rw [k.other i (Nat.lt_of_lt_of_le hi h.size) hn (fun e => ?_), h.other i hi hn hv]
    rcases h.own i e with h1 | h1
    · exact hv h1
    · omega
  · rcases k.own i hi with h1 | h1
    · exact h.own i h1
    · exact .inr (Nat.le_trans h.size h1)
theorem WrStep.of_below {g : Nat} {v : Value} {w w' : World} (h : Below w.heap.size w w') : WrStep g v v w w' := ⟨h.os, h.tape, h.output, h.size, fun c hc _ _ => h.block c hc, fun _ hk => .inl hk⟩
theorem WrIs.base_le {w : World} {base g : Nat} {v : Value} {l : List By} (h : WrIs w base g v l) (k : Nat) (hk : v.ownBlock = some k) : base ≤ k := (h.own.lt k hk).1
theorem WrStep.below {w w' : World} {base g : Nat} {v v' : Value} {l : List By} (h : WrStep g v v' w w') (hw : WrIs w base g v l) (hb : base ≤ w.heap.size) : Below base w w' :=
  ⟨h.os, h.tape, h.output, h.size, fun k hk => h.other k (by omega) (by have := hw.lo; omega) (fun e => by have := hw.base_le k e; omega)⟩
theorem own_ne {w : World} {base g n : Nat} {v : Value} {xs cs : List Value} {T : TypeId} (hT : T ≠ 5) (h : Blk w g T cs) (ho : w.ownsRow base 5 1 v n xs) : v.ownBlock ≠ some g := by
  rcases ho.2 with ⟨rfl, _⟩ | ⟨k, cap, cur, rfl, _, hc, _⟩
  · intro e; cases e
  · intro e
    obtain rfl : k = g := by simpa [Value.ownBlock] using e
    unfold Blk at h; rw [hc] at h
    simp only [Option.some.injEq, Obj.cells.injEq] at h
    exact hT h.2.1.symm
theorem ownsRow_keep {w w' : World} {base n : Nat} {e : TypeId} {v : Value} {xs : List Value} (ho : w.ownsRow base e 1 v n xs) (h : ∀ k, v.ownBlock = some k → w'.heap[k]? = w.heap[k]?) : w'.ownsRow base e 1 v n xs := by
  refine ⟨ho.1, ?_⟩
  rcases ho.2 with h1 | ⟨k, cap, cur, rfl, h2, h3, h4⟩
  · exact .inl h1
  · exact .inr ⟨k, cap, cur, rfl, h2, by rw [h k rfl]; exact h3, h4⟩
theorem WrIs.below {w w' : World} {base g : Nat} {v : Value} {l : List By} (h : WrIs w base g v l) (hb : Below w.heap.size w w') : WrIs w' base g v l :=
  ⟨h.blk.below hb h.blk.lt, ownsRow_keep h.own (fun k hk => hb.block k (h.own.lt k hk).2), h.lo⟩
/-- BYTES APPENDED TO A ROW OF ONE's OWN: what there is then, and where -/
theorem run_append_x {w : World} {ty : TypeId} (base : Nat) (v : Value) (xs : List By) (hown : w.ownsRow base 5 1 v xs.length (xs.map vb))
    (A : Option Addr) (c : Nat) (l : List By) (hN : A = none → c = 0) (hA : SrcIs w A l) (hbd : xs.length + l.length ≤ 1000000) (hbase : base ≤ w.heap.size) :
    ∃ v' w', (Builtin.append_ #[24, 24] ty #[v, .slice A l.length c]).run Try.prog w = .ok v' w' ∧ w'.ownsRow base 5 1 v' (xs ++ l).length ((xs ++ l).map vb) ∧ w.grownBy w' v.ownBlock ∧ (∀ k, v'.ownBlock = some k → v.ownBlock = some k ∨ w.heap.size ≤ k) := by
  obtain ⟨i0, hi, hz0, hz1, hz2⟩ := info_parts info5
  cases A with
  | none =>
    have hl : l = [] := by
      cases l with
      | nil => rfl
      | cons y r => obtain ⟨b, o, he, _⟩ := hA (by simp); cases he
    subst hl
    obtain rfl := hN rfl
    refine ⟨v, w, ?_, by simpa using hown, ⟨rfl, rfl, rfl, Nat.le_refl _, fun _ _ _ => rfl⟩, fun _ h => .inl h⟩
    exact run_append_owned_none (P := Try.prog) (w := w) base 24 ty 5 i0 1 Try.underlying24 hi v xs.length (xs.map vb) hown
  | some ad =>
    have hsrc : ∀ j y, (l.map vb)[j]? = some y → w.cell? (ad.add j) = some y := by
      intro j y hj
      have h0 : 0 < l.length := by have := (List.getElem?_eq_some_iff.1 hj).1; simp at this; omega
      obtain ⟨b, o, he, hc⟩ := hA h0
      cases he
      exact hc.src j y hj
    have h1 : ∀ y ∈ l.map vb, y.oneCell' = true := by intro y hy; obtain ⟨z, _, rfl⟩ := List.mem_map.1 hy; rfl
    obtain ⟨v', w', hr, ho, hg, _⟩ := run_append_own (P := Try.prog) w base 24 ty 5 i0 (.int .u8 0) 1 1 Try.underlying24 hi hz0 hz1 hz2 rfl (by decide) v xs.length (xs.map vb) hown ad l.length c (l.map vb) (by simp) hsrc h1 (by unfold maxLen; omega) (by omega) hbase
    refine ⟨v', w', hr, by rw [List.length_append, List.map_append]; exact ho, hg, ?_⟩
    rcases hown.2 with ⟨rfl, hz⟩ | ⟨g, cap, cur, rfl, _, hgc, hnc, hcm, hcs, htk⟩
    · obtain ⟨v2, w2, hr2, ho2, _, _⟩ := run_append_own (P := Try.prog) w w.heap.size 24 ty 5 i0 (.int .u8 0) 1 1 Try.underlying24 hi hz0 hz1 hz2 rfl (by decide) (.slice none 0 0) xs.length (xs.map vb) ⟨by simp, .inl ⟨rfl, hz⟩⟩ ad l.length c (l.map vb) (by simp) hsrc h1 (by unfold maxLen; omega) (by omega) (Nat.le_refl _)
      rw [hr] at hr2
      injection hr2 with e1 e2
      subst e1 e2
      exact fun k hk => .inr (ho2.lt k hk).1
    · by_cases hroom : xs.length + l.length ≤ cap
      · have hr2 := run_append_room (P := Try.prog) w 24 ty 5 i0 Try.underlying24 hi g xs.length cap cur hgc ad l.length c (l.map vb) (by rw [hz1]; simp) hsrc h1 hroom (by rw [hz1, List.length_map]; omega)
        rw [hr] at hr2
        injection hr2 with e1 e2
        subst e1
        intro k hk
        exact .inl hk
      · have hr2 := run_append_grow (P := Try.prog) w 24 ty 5 i0 (.int .u8 0) Try.underlying24 hi hz0 ⟨g, 0, none⟩ xs.length cap (xs.map vb) (by rw [hz1]; simp) (hown.cells (g := g) rfl) ad l.length c (l.map vb) (by rw [hz1]; simp) hsrc (by omega) (by omega) (growslice_fits (by omega) (by rw [hz2]; omega))
        rw [hr] at hr2
        injection hr2 with e1 e2
        subst e1
        intro k hk
        simp [Value.ownBlock] at hk
        omega
theorem wpList_append_x {w : World} {ops : Array Oper} {rest : List Oper} {o : Oper} {a : Act} {Q : Exit → Act → World → Prop} (hgd : o.guard = none) (s x : Operand)
    (ho : o.op = .call { callee := .builtin .append, args := #[s, x], argTypes := #[24, 24] }) (base : Nat) (v : Value) (xs : List By) (hs : a.eval s = v) (hown : w.ownsRow base 5 1 v xs.length (xs.map vb))
    (A : Option Addr) (c : Nat) (l : List By) (hx : a.eval x = .slice A l.length c) (hN : A = none → c = 0) (hA : SrcIs w A l) (hbd : xs.length + l.length ≤ 1000000) (hbase : base ≤ w.heap.size)
    (h : ∀ v' w', w'.ownsRow base 5 1 v' (xs ++ l).length ((xs ++ l).map vb) → w.grownBy w' v.ownBlock → (∀ k, v'.ownBlock = some k → v.ownBlock = some k ∨ w.heap.size ≤ k) → wpList Try.prog ops Q rest (a.put o.dst v') w') : wpList Try.prog ops Q (o :: rest) a w := by
  refine wpList_plain hgd fun K hK => ?_
  obtain ⟨v', w', hr, h1, h2, h3⟩ := run_append_x (ty := o.type) base v xs hown A c l hN hA hbd hbase
  unfold Oper.wp execOp
  simp only [ho, resolve, invoke, builtin, Sem.run_bind, Sem.run_pure, Result.andThen_ok, List.map_toArray, List.map_cons, List.map_nil, hs, hx, hr]
  exact hK _ _ (h v' w' h1 h2 h3)
/-- what laying comes to -/
def WrPost (w : World) (base g : Nat) (v : Value) (l : List By) (e : Ending) (w' : World) : Prop :=
  e = .returned (.pointer (some ⟨g, 0, none⟩)) ∧ ∃ v', WrIs w' base g v' l ∧ WrStep g v v' w w'
theorem WrPost.pre {w w0 w' : World} {base g : Nat} {v : Value} {l : List By} {e : Ending} (h : WrPost w base g v l e w') (hb : Below w0.heap.size w0 w) : WrPost w0 base g v l e w' := by
  obtain ⟨he, v', h1, h2⟩ := h
  exact ⟨he, v', h1, (WrStep.of_below hb).trans h2⟩
set_option maxHeartbeats 1000000 in
theorem lay_any (base g : Nat) (v : Value) (l : List By) (A : Option Addr) (c : Nat) (x : List By) (hbd : l.length + x.length ≤ 1000000) (hN : A = none → c = 0) (w : World) (h : WrIs w base g v l) (hA : SrcIs w A x) :
    Calls Try.prog 92 #[.pointer (some ⟨g, 0, none⟩), .slice A x.length c] w (WrPost w base g v (l ++ x)) := by
  have H := Lib.hid h; have HA := Lib.hid hA; have HN := Lib.hid hN
  have c0 := h.blk.cell 0
  simp only [List.getElem?_cons_zero] at c0
  have hgl := h.blk.lt
  have hlo := h.lo
  clear h hA hN
  go_enter Try.func92, Try.ntmps92
  go_wp2_with (refine wpList_append_x rfl (.tmp 11) (.tmp 12) rfl base v l rfl H.out.own A c x rfl HN.out HA.out hbd (by omega) ?_)
  intro v' w1 ho hg hk
  rw [← List.map_append, ← List.length_append] at ho
  have hne := own_ne (by decide) H.out.blk H.out.own
  have hb1 : Blk w1 g 83 [v] := by
    unfold Blk
    rw [hg.block g hgl (fun e => hne e.symm)]; exact H.out.blk
  have c1 := hb1.cell 0
  have f1 := hb1.frozen 0
  simp only [List.getElem?_cons_zero] at c1
  have hb2 : Blk (w1.setCell ⟨g, 0, none⟩ v') g 83 [v'] := by have := hb1.set 0 v'; simpa using this
  have hne2 := own_ne (by decide) hb1 ho
  have HW : Hid (WrIs (w1.setCell ⟨g, 0, none⟩ v') base g v' (l ++ x)) :=
    ⟨hb2, ownsRow_keep ho (fun k hk => Below.heap_setCell w1 ⟨g, 0, none⟩ v' k (fun e => by subst e; exact hne2 hk)), hlo⟩
  have HS : Hid (WrStep g v v' w (w1.setCell ⟨g, 0, none⟩ v')) :=
    ⟨hg.os, hg.tape, hg.output, by rw [World.size_setCell]; exact hg.size, fun k hk1 hk2 hk3 => by rw [Below.heap_setCell w1 ⟨g, 0, none⟩ v' k hk2]; exact hg.block k hk1 (fun e => hk3 e.symm), hk⟩
  obtain ⟨A2, n2, c2, rfl⟩ : ∃ A n c, v' = .slice A n c := by
    rcases ho.2 with ⟨rfl, _⟩ | ⟨k, cap, cur, rfl, _⟩ <;> exact ⟨_, _, _, rfl⟩
  clear ho hg hk hne hb1 hb2 hne2 H HA
  go_wp2_with fail
  go_ret
  exact ⟨rfl, _, HW.out, HS.out⟩
theorem lay_n (base g : Nat) (v : Value) (l : List By) (A : Option Addr) (c n : Nat) (x : List By) (hn : x.length = n) (hbd : l.length + n ≤ 1000000) (hN : A = none → c = 0) (w : World) (h : WrIs w base g v l) (hA : SrcIs w A x) :
    Calls Try.prog 92 #[.pointer (some ⟨g, 0, none⟩), .slice A n c] w (WrPost w base g v (l ++ x)) := by
  subst hn; exact lay_any base g v l A c x hbd hN w h hA
theorem lay_nil (v : Value) (w : World) : Calls Try.prog 92 #[.pointer none, v] w fun e w' => e = .returned (.pointer none) ∧ w = w' := by
  go_enter Try.func92, Try.ntmps92
  go_wp2_with fail
  go_ret
  exact ⟨rfl, rfl⟩
theorem new_src (w : World) (l : List By) : SrcIs (w.alloc (.cells (l.map vb).toArray 5)) (some ⟨w.heap.size, 0, none⟩) l :=
  bytes_src (Blk.bytes (l := l) (tl := []) (by have := Blk.new w 5 (l.map vb).toArray; simpa using this))
theorem vb_ofNat (n : Nat) : vb (UInt8.ofNat n) = .int .u8 ((n % 256 : Nat) : Int) := by
  unfold vb; rw [UInt8.toNat_ofNat']
theorem vb_ofInt (n : Int) : vb (UInt8.ofNat (n % 256).toNat) = .int .u8 (n % 256) := by
  rw [vb_ofNat]; congr 1; omega
theorem numB_cells (n : Int) : ((numB n).map vb).toArray = #[.int .u8 (n / 256 % 256), .int .u8 (n % 256)] := by
  unfold numB; rw [List.map_cons, List.map_cons, List.map_nil, vb_ofInt, vb_ofInt]
theorem vb_div (x K : Nat) (k : Int) (h : (K : Int) = k) : vb (UInt8.ofNat (x / K)) = .int .u8 ((x : Int) / k % 256) := by
  subst h; rw [vb_ofNat, Int.natCast_emod, Int.natCast_ediv]; rfl
theorem vb_top (x : Nat) (hx : x ≤ 18446744073709551615) : vb (UInt8.ofNat (x / 72057594037927936)) = .int .u8 ((x : Int) / 72057594037927936) := by
  rw [vb_div x 72057594037927936 72057594037927936 rfl]; congr 1; omega
theorem wideB_cells (x : Nat) (hx : x ≤ 18446744073709551615) : ((wideB x).map vb).toArray = #[.int .u8 ((x : Int) / 72057594037927936), .int .u8 ((x : Int) / 281474976710656 % 256), .int .u8 ((x : Int) / 1099511627776 % 256), .int .u8 ((x : Int) / 4294967296 % 256), .int .u8 ((x : Int) / 16777216 % 256), .int .u8 ((x : Int) / 65536 % 256), .int .u8 ((x : Int) / 256 % 256), .int .u8 ((x : Int) % 256)] := by
  have e : wideB x = [UInt8.ofNat (x / 72057594037927936), UInt8.ofNat (x / 281474976710656), UInt8.ofNat (x / 1099511627776), UInt8.ofNat (x / 4294967296), UInt8.ofNat (x / 16777216), UInt8.ofNat (x / 65536), UInt8.ofNat (x / 256), UInt8.ofNat (x / 1)] := rfl
  have e1 : vb (UInt8.ofNat (x / 1)) = .int .u8 ((x : Int) % 256) := by rw [Nat.div_one, vb_ofNat, Int.natCast_emod]; rfl
  rw [e]
  rw [List.map_cons, List.map_cons, List.map_cons, List.map_cons, List.map_cons, List.map_cons, List.map_cons, List.map_cons, List.map_nil, e1, vb_top x hx, vb_div x 281474976710656 _ rfl, vb_div x 1099511627776 _ rfl, vb_div x 4294967296 _ rfl, vb_div x 16777216 _ rfl, vb_div x 65536 _ rfl, vb_div x 256 _ rfl]
  rfl
theorem wbyte_any (base g : Nat) (v : Value) (l : List By) (b : By) (hbd : l.length + 1 ≤ 1000000) (w : World) (h : WrIs w base g v l) :
    Calls Try.prog 93 #[.pointer (some ⟨g, 0, none⟩), vb b] w (WrPost w base g v (l ++ [b])) := by
  have hb : Below w.heap.size w (w.alloc (.cells #[vb b] 5)) := (Below.refl _ _).alloc (Nat.le_refl _) _
  have H := Lib.hid (h.below hb); have HB := Lib.hid hb
  clear h hb
  go_enter Try.func93, Try.ntmps93
  go_wp2_with fail
  refine (lay_any base g v l (some ⟨w.heap.size, 0, none⟩) 1 [b] hbd (fun h => by cases h) _ H.out (new_src w [b])).mono ?_
  rintro e w1 hp
  have HP := Lib.hid (hp.pre HB.out)
  obtain ⟨rfl, -⟩ := hp
  go_wp2_with fail
  go_ret
  exact HP.out
theorem wbyte_nil (b : Int) (w : World) : Calls Try.prog 93 #[.pointer none, .int .u8 b] w fun e w' => e = .returned (.pointer none) ∧ Below w.heap.size w w' := by
  go_enter Try.func93, Try.ntmps93
  go_wp2_with fail
  refine (lay_nil _ _).mono ?_
  rintro e w1 ⟨rfl, rfl⟩
  go_wp2_with fail
  go_ret
  exact ⟨rfl, (Below.refl _ _).alloc (Nat.le_refl _) _⟩
theorem wnum_any (base g : Nat) (v : Value) (l : List By) (n : Int) (hbd : l.length + 2 ≤ 1000000) (w : World) (h : WrIs w base g v l) :
    Calls Try.prog 91 #[.pointer (some ⟨g, 0, none⟩), .int .i64 n] w (WrPost w base g v (l ++ numB n)) := by
  have hb : Below w.heap.size w (w.alloc (.cells ((numB n).map vb).toArray 5)) := (Below.refl _ _).alloc (Nat.le_refl _) _
  have H := Lib.hid (h.below hb); have HB := Lib.hid hb; have HS := Lib.hid (new_src w (numB n))
  rw [numB_cells] at H HB HS
  clear h hb
  go_enter Try.func91, Try.ntmps91
  go_wp2_with fail
  refine (lay_any base g v l (some ⟨w.heap.size, 0, none⟩) 2 (numB n) hbd (fun h => by cases h) _ H.out HS.out).mono ?_
  rintro e w1 hp
  have HP := Lib.hid (hp.pre HB.out)
  obtain ⟨rfl, -⟩ := hp
  go_wp2_with fail
  go_ret
  exact HP.out
theorem wnum_nil (n : Int) (w : World) : Calls Try.prog 91 #[.pointer none, .int .i64 n] w fun e w' => e = .returned (.pointer none) ∧ Below w.heap.size w w' := by
  go_enter Try.func91, Try.ntmps91
  go_wp2_with fail
  refine (lay_nil _ _).mono ?_
  rintro e w1 ⟨rfl, rfl⟩
  go_wp2_with fail
  go_ret
  exact ⟨rfl, (Below.refl _ _).alloc (Nat.le_refl _) _⟩
theorem wwide_any (base g : Nat) (v : Value) (l : List By) (x : Nat) (hx : x ≤ 18446744073709551615) (hbd : l.length + 8 ≤ 1000000) (w : World) (h : WrIs w base g v l) :
    Calls Try.prog 95 #[.pointer (some ⟨g, 0, none⟩), .int .u64 x] w (WrPost w base g v (l ++ wideB x)) := by
  have hb : Below w.heap.size w (w.alloc (.cells ((wideB x).map vb).toArray 5)) := (Below.refl _ _).alloc (Nat.le_refl _) _
  have H := Lib.hid (h.below hb); have HB := Lib.hid hb; have HS := Lib.hid (new_src w (wideB x))
  rw [wideB_cells x hx] at H HB HS
  clear h hb
  go_enter Try.func95, Try.ntmps95
  go_wp2_with fail
  refine (lay_n base g v l (some ⟨w.heap.size, 0, none⟩) 8 8 (wideB x) rfl hbd (fun h => by cases h) _ H.out HS.out).mono ?_
  rintro e w1 hp
  have HP := Lib.hid (hp.pre HB.out)
  obtain ⟨rfl, -⟩ := hp
  go_wp2_with fail
  go_ret
  exact HP.out
theorem wwide_nil (w : World) : Calls Try.prog 95 #[.pointer none, .int .u64 7] w fun e w' => e = .returned (.pointer none) ∧ Below w.heap.size w w' := by
  go_enter Try.func95, Try.ntmps95
  go_wp2_with fail
  refine (lay_nil _ _).mono ?_
  rintro e w1 ⟨rfl, rfl⟩
  go_wp2_with fail
  go_ret
  exact ⟨rfl, (Below.refl _ _).alloc (Nat.le_refl _) _⟩
/-- a text as bytes -/
theorem str_bytes (s : List By) (w : World) : ∃ c w2, (convert 9 24 (.string ⟨s.toArray⟩)).run Try.prog w = .ok (.slice (some ⟨w.heap.size, 0, none⟩) s.length c) w2 ∧ SrcIs w2 (some ⟨w.heap.size, 0, none⟩) s ∧ Below w.heap.size w w2 := by
  have h := run_bytes_of_string (P := Try.prog) w 9 24 5 ⟨s.toArray⟩ Try.underlying9 Try.underlying24 Try.underlying5
  have hs : (ByteArray.mk s.toArray).size = s.length := by simp [ByteArray.size]
  rw [hs] at h
  refine ⟨_, _, h, ?_, (Below.refl _ _).drew.alloc (Nat.le_refl _) _⟩
  refine bytes_src (fun k hk => ?_)
  rw [Nat.zero_add]
  have hc := World.cell?_alloc_mark w.drew (bytesRow ⟨s.toArray⟩ (grownCap w s.length 0 5)) 5 ((bytesRow ⟨s.toArray⟩ (grownCap w s.length 0 5)).size, (bytesRow ⟨s.toArray⟩ (grownCap w s.length 0 5)).size + 1) k
  refine Eq.trans hc ?_
  rw [bytesRow_at _ _ _ (by simpa using hk)]
  simp
theorem numB_length (n : Int) : (numB n).length = 2 := rfl
set_option maxHeartbeats 1000000 in
theorem wtext_any (base g : Nat) (v : Value) (l s : List By) (hbd : l.length + 2 + s.length ≤ 1000000) (w : World) (h : WrIs w base g v l) :
    Calls Try.prog 67 #[.pointer (some ⟨g, 0, none⟩), .string ⟨s.toArray⟩] w (WrPost w base g v (l ++ textB s)) := by
  have H := Lib.hid h; clear h
  go_enter Try.func67, Try.ntmps67
  go_wp2_with fail
  refine (wnum_any base g v l s.length (by omega) w H.out).mono ?_
  rintro e w1 ⟨rfl, v1, h1, h2⟩
  obtain ⟨c, w2, hcv, hsrc, hb⟩ := str_bytes s w1
  have H2 := Lib.hid (h1.below hb); have HS := Lib.hid hsrc
  have HST := Lib.hid (h2.trans (WrStep.of_below hb))
  clear h1 h2 hsrc hb
  go_wp2_with fail
  refine (lay_n base g v1 (l ++ numB s.length) (some ⟨w1.heap.size, 0, none⟩) c s.length s rfl (by rw [List.length_append, numB_length]; omega) (fun h => by cases h) w2 H2.out HS.out).mono ?_
  rintro e w3 ⟨rfl, v3, h3, h4⟩
  have H3 := Lib.hid h3; have H4 := Lib.hid (HST.out.trans h4)
  clear h3 h4
  go_wp2_with fail
  go_ret
  refine ⟨rfl, v3, ?_, H4.out⟩
  unfold textB; rw [← List.append_assoc]; exact H3.out
theorem wtext_nil (s : List By) (w : World) : Calls Try.prog 67 #[.pointer none, .string ⟨s.toArray⟩] w fun e w' => e = .returned (.pointer none) ∧ Below w.heap.size w w' := by
  go_enter Try.func67, Try.ntmps67
  go_wp2_with fail
  refine (wnum_nil s.length w).mono ?_
  rintro e w1 ⟨rfl, hb1⟩
  obtain ⟨c, w2, hcv, -, hb⟩ := str_bytes s w1
  have HB : Hid (Below w.heap.size w w2) := hb1.trans (hb.mono hb1.size)
  clear hb hb1
  go_wp2_with fail
  refine (lay_nil _ _).mono ?_
  rintro e w3 ⟨rfl, rfl⟩
  go_wp2_with fail
  go_ret
  exact ⟨rfl, HB.out⟩
end Go.Proofs.Ytlehgacbcacokaa

/- What is read of an archive's node: rows that grow, and where; what holds while a directory is read. -/
namespace Go.Proofs.Ytlehgacbcacokaa
open Go.RowKit TreeMath RealMath WireMath PackMath

/-- APPENDED TO A ROW OF ONE's OWN: what there is then, and where -/
theorem run_append_where {w : World} {t e : TypeId} {z : Value} {size k : Nat} {ty : TypeId} (ht : Try.prog.underlying t = some (.slice e)) (hinf : (Try.prog.info? e).map (fun i => (i.zero, i.size, i.bytes)) = some (some z, size, k)) (hzs : z.cells.size = size) (h0 : 0 < size)
    (base : Nat) (v : Value) (n : Nat) (xs : List Value) (hown : w.ownsRow base e size v n xs) (ad : Addr) (m c : Nat) (ns : List Value) (hns : ns.length = m * size) (hsrc : ∀ j u, ns[j]? = some u → w.cell? (ad.add j) = some u) (h1 : ∀ u ∈ ns, u.oneCell' = true)
    (h63 : n + m ≤ 1000000) (hk : k ≤ 1000) (hbase : base ≤ w.heap.size) :
    ∃ v' w', (Builtin.append_ #[t, t] ty #[v, .slice (some ad) m c]).run Try.prog w = .ok v' w' ∧ w'.ownsRow base e size v' (n + m) (xs ++ ns) ∧ w.grownBy w' v.ownBlock ∧ (∀ k, v'.ownBlock = some k → v.ownBlock = some k ∨ w.heap.size ≤ k) := by
  obtain ⟨i0, hi, hz0, hz1, hz2⟩ := info_parts hinf
  have hby : (n + m) * k ≤ 140737488355328 := Nat.le_trans (Nat.mul_le_mul h63 hk) (by decide)
  obtain ⟨v', w', hr, ho, hg, _⟩ := run_append_own (P := Try.prog) w base t ty e i0 z size k ht hi hz0 hz1 hz2 hzs h0 v n xs hown ad m c ns hns hsrc h1 (by unfold maxLen; omega) hby hbase
  refine ⟨v', w', hr, ho, hg, ?_⟩
  rcases hown.2 with ⟨rfl, hz⟩ | ⟨g, cap, cur, rfl, _, hgc, hnc, hcm, hcs, htk⟩
  · obtain ⟨v2, w2, hr2, ho2, _, _⟩ := run_append_own (P := Try.prog) w w.heap.size t ty e i0 z size k ht hi hz0 hz1 hz2 hzs h0 (.slice none 0 0) n xs ⟨hown.1, .inl ⟨rfl, hz⟩⟩ ad m c ns hns hsrc h1 (by unfold maxLen; omega) hby (Nat.le_refl _)
    rw [hr] at hr2
    injection hr2 with e1 e2
    subst e1 e2
    exact fun k hk => .inr (ho2.lt k hk).1
  · by_cases hroom : n + m ≤ cap
    · have hr2 := run_append_room (P := Try.prog) w t ty e i0 ht hi g n cap cur hgc ad m c ns (by rw [hz1]; exact hns) hsrc h1 hroom (by rw [hz1, hns, ← Nat.add_mul]; exact Nat.le_trans (Nat.mul_le_mul_right _ hroom) (Nat.le_of_eq hcs.symm))
      rw [hr] at hr2
      injection hr2 with e1 e2
      subst e1
      intro k hk
      exact .inl hk
    · have hr2 := run_append_grow (P := Try.prog) w t ty e i0 z ht hi hz0 ⟨g, 0, none⟩ n cap xs (by rw [hz1]; exact hown.1) (hown.cells (g := g) rfl) ad m c ns (by rw [hz1]; exact hns) hsrc (by omega) (by omega) (growslice_fits (by omega) (by rw [hz2]; exact hby))
      rw [hr] at hr2
      injection hr2 with e1 e2
      subst e1
      intro k hk
      simp [Value.ownBlock] at hk
      omega
theorem step_strs2 {W : World} {ops : Array Oper} {o : Oper} {a : Act} {K : Act → World → Prop} {Q : Exit → Act → World → Prop} {E : Prop} (hgd : o.guard = none) (s x : Operand)
    (ho : o.op = .call { callee := .builtin .append, args := #[s, x], argTypes := #[22, 22] }) (base : Nat) (v : Value) (ls : List (List By)) (hs : a.eval s = v) (hown : Strs W base v ls)
    (ad : Addr) (c m : Nat) (ms : List (List By)) (hm : ms.length = m) (hx : a.eval x = .slice (some ad) m c) (hA : ∀ j u, (ms.map vs)[j]? = some u → W.cell? (ad.add j) = some u) (hbd : ls.length + m ≤ 1000000) (hbase : base ≤ W.heap.size)
    (h : ∀ v' w', Strs w' base v' (ls ++ ms) → W.grownBy w' v.ownBlock → (∀ k, v'.ownBlock = some k → v.ownBlock = some k ∨ W.heap.size ≤ k) → K (a.put o.dst v') w') : if Region.wanted o (yielded ops a.tmps) = true then Oper.wp Try.prog o a W K Q else E := by
  have hw : Region.wanted o (yielded ops a.tmps) = true := by simp [Region.wanted, hgd]
  rw [if_pos hw]
  obtain ⟨v', w', hr, h2, h3, h4⟩ := run_append_where (ty := o.type) Try.underlying22 info9 rfl (by decide) base v ls.length (ls.map vs) hown ad m c (ms.map vs) (by simp [hm]) hA (fun y hy => by obtain ⟨z, _, rfl⟩ := List.mem_map.1 hy; rfl) hbd (by decide) hbase
  unfold Oper.wp execOp
  simp only [ho, resolve, invoke, builtin, Sem.run_bind, Sem.run_pure, Result.andThen_ok, List.map_toArray, List.map_cons, List.map_nil, hs, hx, hr]
  exact h v' w' (by unfold Strs; rw [List.length_append, List.map_append, hm]; exact h2) h3 h4
theorem step_nodes2 {W : World} {ops : Array Oper} {o : Oper} {a : Act} {K : Act → World → Prop} {Q : Exit → Act → World → Prop} {E : Prop} (hgd : o.guard = none) (s x : Operand)
    (ho : o.op = .call { callee := .builtin .append, args := #[s, x], argTypes := #[23, 23] }) (base : Nat) (v : Value) (ts : List T) (hs : a.eval s = v) (hown : Nodes W base v ts)
    (ad : Addr) (c m : Nat) (ls : List T) (hm : ls.length = m) (hx : a.eval x = .slice (some ad) m c) (hA : ∀ j u, (ls.flatMap cellsT)[j]? = some u → W.cell? (ad.add j) = some u) (hbd : ts.length + m ≤ 1000000) (hbase : base ≤ W.heap.size)
    (h : ∀ v' w', Nodes w' base v' (ts ++ ls) → W.grownBy w' v.ownBlock → (∀ k, v'.ownBlock = some k → v.ownBlock = some k ∨ W.heap.size ≤ k) → K (a.put o.dst v') w') : if Region.wanted o (yielded ops a.tmps) = true then Oper.wp Try.prog o a W K Q else E := by
  have hw : Region.wanted o (yielded ops a.tmps) = true := by simp [Region.wanted, hgd]
  rw [if_pos hw]
  obtain ⟨v', w', hr, h2, h3, h4⟩ := run_append_where (ty := o.type) Try.underlying23 info27 rfl (by decide) base v ts.length (ts.flatMap cellsT) hown ad m c (ls.flatMap cellsT) (by rw [flat_length, hm]) hA (flat_one ls) hbd (by decide) hbase
  unfold Oper.wp execOp
  simp only [ho, resolve, invoke, builtin, Sem.run_bind, Sem.run_pure, Result.andThen_ok, List.map_toArray, List.map_cons, List.map_nil, hs, hx, hr]
  exact h v' w' (by unfold Nodes; rw [List.length_append, List.flatMap_append, hm]; exact h2) h3 h4
abbrev zero7 : List Value := [.int .u8 0, .slice none 0 0, .slice none 0 0, .slice none 0 0, .bool false, .float .f64 0, .string ⟨#[]⟩]
/-- while a node is read: the reading, the result's box, the node's -/
structure NIn (w : World) (top ga gr g3 k : Nat) (r : Rd) (cs : List Value) (W : World) : Prop where
  ar : ArIs W top ga gr k r
  b2 : Blk W w.heap.size 27 zero7
  b3 : Blk W g3 27 cs
  turned : Turned (ArSet ga gr) (ArSet ga gr) w W
  lt : w.heap.size < g3
  la : ga < w.heap.size
  lr : gr < w.heap.size
theorem NIn.step {w W W' : World} {top ga gr g3 k k' : Nat} {r r' : Rd} {cs : List Value} (h : NIn w top ga gr g3 k r cs W) (ha : ArIs W' top ga gr k' r') (ht : Turned (ArSet ga gr) (ArSet ga gr) W W') : NIn w top ga gr g3 k' r' cs W' := by
  have h1 := h.lt; have h2 := h.la; have h3 := h.lr
  exact ⟨ha, ht.blk h.b2 (fun e => by rcases e with e | e <;> omega), ht.blk h.b3 (fun e => by rcases e with e | e <;> omega), h.turned.trans ht, h1, h2, h3⟩
theorem ArIs.other {w w' : World} {top ga gr k : Nat} {r : Rd} (h : ArIs w top ga gr k r) (B : Nat) (ha : ga < B) (hr : gr < B) (hb : Below B w w') : ArIs w' top ga gr k r :=
  ⟨h.blk.below hb ha, h.rd.below hb hr, h.ne, h.le⟩
theorem NIn.set {w W : World} {top ga gr g3 k : Nat} {r : Rd} {cs : List Value} (h : NIn w top ga gr g3 k r cs W) (i : Nat) (v : Value) : NIn w top ga gr g3 k r (cs.set i v) (W.setCell ⟨g3, i, none⟩ v) := by
  have h1 := h.lt; have h2 := h.la; have h3 := h.lr
  exact ⟨h.ar.other w.heap.size h2 h3 ((Below.refl _ _).setCell (by simp only; omega) _), h.b2.other (by simp only; omega) _, h.b3.set i v,
    ⟨h.turned.os, h.turned.tape, h.turned.output, by rw [World.size_setCell]; exact h.turned.size, fun c hc hn => by rw [Below.heap_setCell W ⟨g3, i, none⟩ v c (by simp only; omega)]; exact h.turned.other c hc hn, fun _ h => .inl h⟩, h1, h2, h3⟩
theorem NIn.below {w W W' : World} {top ga gr g3 k : Nat} {r : Rd} {cs : List Value} (h : NIn w top ga gr g3 k r cs W) (hb : Below W.heap.size W W') : NIn w top ga gr g3 k r cs W' :=
  h.step (h.ar.below hb) (Turned.of_below hb)
/-- what holds while a directory is read -/
structure DirRel (w : World) (top ga gr g3 k : Nat) (r : Rd) (ns : List (List By)) (ks : List T) (vn vk : Value) (W : World) : Prop where
  nin : NIn w top ga gr g3 k r [.int .u8 1, vn, vk, .slice none 0 0, .bool false, .float .f64 0, .string ⟨#[]⟩] W
  names : Strs W (g3 + 1) vn ns
  kids : Nodes W (g3 + 1) vk ks
  oks : ∀ t ∈ ks, Ok W W.heap.size t ∧ InS (fun c => g3 < c ∧ vn.ownBlock ≠ some c ∧ vk.ownBlock ≠ some c) t
  each : ∀ s ∈ ns, s.length ≤ 65536
theorem textR_len (r : Rd) : (textR r).length ≤ 65536 := by
  unfold textR
  have h1 := taken_length (numR 2 r) (after 2 r)
  have h2 := numR_lt 2 r
  omega
/-- own rows stay where others turn -/
theorem own_turn {w w' : World} {base : Nat} {e : TypeId} {size : Nat} {v : Value} {n : Nat} {xs : List Value} {S S' : Nat → Prop} (h : w.ownsRow base e size v n xs) (ht : Turned S S' w w') (hS : ∀ c, S c → c < base) : w'.ownsRow base e size v n xs :=
  own_same h fun c h1 h2 => ht.other c h2 (fun hs => by have := hS c hs; omega)
theorem Ok.turned {w w' : World} {t : T} {S S' P : Nat → Prop} (h : Ok w w.heap.size t) (hi : InS P t) (ht : Turned S S' w w') (hP : ∀ c, P c → ¬ S c) : Ok w' w'.heap.size t :=
  h.turn hi (fun c hc hl => ht.other c hl (hP c hc)) (fun _ _ hl => Nat.lt_of_lt_of_le hl ht.size)
/-- a text has been read -/
theorem DirRel.read {w W W' : World} {top ga gr g3 k k' : Nat} {r r' : Rd} {ns : List (List By)} {ks : List T} {vn vk : Value} (h : DirRel w top ga gr g3 k r ns ks vn vk W) (ha : ArIs W' top ga gr k' r') (ht : Turned (ArSet ga gr) (ArSet ga gr) W W') : DirRel w top ga gr g3 k' r' ns ks vn vk W' := by
  have h1 := h.nin.lt; have h2 := h.nin.la; have h3 := h.nin.lr
  exact ⟨h.nin.step ha ht, own_turn h.names ht (fun c e => by rcases e with e | e <;> omega), own_turn h.kids ht (fun c e => by rcases e with e | e <;> omega), fun t htm => ⟨(h.oks t htm).1.turned (h.oks t htm).2 ht (fun c hc e => by have := hc.1; rcases e with e | e <;> omega), (h.oks t htm).2⟩, h.each⟩
theorem DirRel.grown {w W W' : World} {top ga gr g3 k : Nat} {r : Rd} {ns : List (List By)} {ks : List T} {vn vk : Value} (h : DirRel w top ga gr g3 k r ns ks vn vk W) (hb : Below W.heap.size W W') : DirRel w top ga gr g3 k r ns ks vn vk W' :=
  h.read (h.nin.ar.below hb) (Turned.of_below hb)
theorem grown_turned {w w' : World} {v : Option Nat} (h : w.grownBy w' v) : Turned (fun c => v = some c) (fun c => v = some c) w w' :=
  ⟨h.os, h.tape, h.output, h.size, fun c hc hn => h.block c hc (fun e => hn e.symm), fun _ h => .inl h⟩
theorem NIn.grow {w W W' : World} {top ga gr g3 k : Nat} {r : Rd} {cs : List Value} {v : Option Nat} (h : NIn w top ga gr g3 k r cs W) (hg : W.grownBy W' v) (hv : ∀ c, v = some c → g3 < c) : NIn w top ga gr g3 k r cs W' := by
  have h1 := h.lt; have h2 := h.la; have h3 := h.lr; have h4 := h.turned.size; have h5 := h.b3.lt
  have hb : Below (g3 + 1) W W' := (Below.refl _ _).grown hg (by omega) (fun c hc => hv c hc)
  exact ⟨h.ar.other (g3 + 1) (by omega) (by omega) hb, h.b2.below hb (by omega), h.b3.below hb (by omega), ⟨hb.os.trans h.turned.os, hb.tape.trans h.turned.tape, hb.output.trans h.turned.output, Nat.le_trans h4 hb.size, fun c hc hn => (hb.block c (by omega)).trans (h.turned.other c hc hn), fun _ h => .inl h⟩, h1, h2, h3⟩
/-- a name has been put behind the others -/
theorem DirRel.pushN {w W W' : World} {top ga gr g3 k : Nat} {r : Rd} {ns : List (List By)} {ks : List T} {vn vk v' : Value} {s : List By} (h : DirRel w top ga gr g3 k r ns ks vn vk W) (hs : Strs W' (g3 + 1) v' (ns ++ [s])) (hg : W.grownBy W' vn.ownBlock)
    (hw : ∀ c, v'.ownBlock = some c → vn.ownBlock = some c ∨ W.heap.size ≤ c) (hl : s.length ≤ 65536) : DirRel w top ga gr g3 k r (ns ++ [s]) ks v' vk (W'.setCell ⟨g3, 1, none⟩ v') := by
  have hn := (h.nin.grow hg (fun c hc => by have := (h.names.lt c hc).1; omega)).set 1 v'
  refine ⟨hn, own_set hs (by omega), own_set (h.kids.kept h.names hg) (by omega), fun t ht => ?_, fun x hx => ?_⟩
  · obtain ⟨h1, h2⟩ := h.oks t ht
    refine ⟨?_, (h2.and h1.inS).mono fun c hc => ⟨hc.1.1, fun e => ?_, hc.1.2.2⟩⟩
    · have h3 := h1.turned h2 (grown_turned hg) (fun c hc e => hc.2.1 e)
      exact h3.turn h2 (fun c hc _ => Below.heap_setCell W' ⟨g3, 1, none⟩ v' c (by have := hc.1; simp only; omega)) (fun _ _ hl => by rw [World.size_setCell]; exact hl)
    · rcases hw c e with e2 | e2
      · exact hc.1.2.1 e2
      · have := hc.2; omega
  · rcases List.mem_append.1 hx with e | e
    · exact h.each x e
    · obtain rfl : x = s := by simpa using e
      exact hl
/-- a kid has been put behind the others -/
theorem DirRel.pushK {w W W' : World} {top ga gr g3 k : Nat} {r : Rd} {ns : List (List By)} {ks : List T} {vn vk v' : Value} {y : T} (h : DirRel w top ga gr g3 k r ns ks vn vk W) (hy : Ok W W.heap.size y) (hin : InS (fun c => g3 < c ∧ vn.ownBlock ≠ some c ∧ vk.ownBlock ≠ some c) y)
    (hs : Nodes W' (g3 + 1) v' (ks ++ [y])) (hg : W.grownBy W' vk.ownBlock) (hw : ∀ c, v'.ownBlock = some c → vk.ownBlock = some c ∨ W.heap.size ≤ c) : DirRel w top ga gr g3 k r ns (ks ++ [y]) vn v' (W'.setCell ⟨g3, 2, none⟩ v') := by
  have hn := (h.nin.grow hg (fun c hc => by have := (h.kids.lt c hc).1; omega)).set 2 v'
  have key : ∀ t, Ok W W.heap.size t → InS (fun c => g3 < c ∧ vn.ownBlock ≠ some c ∧ vk.ownBlock ≠ some c) t → Ok (W'.setCell ⟨g3, 2, none⟩ v') (W'.setCell ⟨g3, 2, none⟩ v').heap.size t ∧ InS (fun c => g3 < c ∧ vn.ownBlock ≠ some c ∧ v'.ownBlock ≠ some c) t := fun t h1 h2 => by
    refine ⟨?_, (h2.and h1.inS).mono fun c hc => ⟨hc.1.1, hc.1.2.1, fun e => ?_⟩⟩
    · have h3 := h1.turned h2 (grown_turned hg) (fun c hc e => hc.2.2 e)
      exact h3.turn h2 (fun c hc _ => Below.heap_setCell W' ⟨g3, 2, none⟩ v' c (by have := hc.1; simp only; omega)) (fun _ _ hl => by rw [World.size_setCell]; exact hl)
    · rcases hw c e with e2 | e2
      · exact hc.1.2.2 e2
      · have := hc.2; omega
  refine ⟨hn, own_set (h.names.kept h.kids hg) (by omega), own_set hs (by omega), fun t ht => ?_, h.each⟩
  rcases List.mem_append.1 ht with e | e
  · exact key t (h.oks t e).1 (h.oks t e).2
  · obtain rfl : t = y := by simpa using e
    exact key t hy hin
/-- what reading a node comes to -/
def NodePost (f : Nat) (w : World) (top ga gr k : Nat) (r : Rd) (e : Ending) (w' : World) : Prop :=
  Turned (ArSet ga gr) (ArSet ga gr) w w' ∧
  match nodeP f k r with
  | none => e = gave
  | some (t, k', r') => ∃ z lz, e = .returned (nv z lz.length) ∧ erase (.mk z lz) = t ∧ Ok w' w'.heap.size (.mk z lz) ∧ InS (fun c => w.heap.size ≤ c) (.mk z lz) ∧ ArIs w' top ga gr k' r'
theorem post_none {f : Nat} {w w' : World} {top ga gr k : Nat} {r : Rd} (h : nodeP f k r = none) (ht : Turned (ArSet ga gr) (ArSet ga gr) w w') : NodePost f w top ga gr k r gave w' := ⟨ht, by rw [h]⟩
theorem post_some {f : Nat} {w w' : World} {top ga gr k : Nat} {r : Rd} {t : T} {k' : Nat} {r' : Rd} {e : Ending} (h : nodeP f k r = some (t, k', r')) (ht : Turned (ArSet ga gr) (ArSet ga gr) w w') (z : Hd) (lz : List T) (h1 : e = .returned (nv z lz.length)) (h2 : erase (.mk z lz) = t) (h3 : Ok w' w'.heap.size (.mk z lz)) (h4 : InS (fun c => w.heap.size ≤ c) (.mk z lz)) (h5 : ArIs w' top ga gr k' r') : NodePost f w top ga gr k r e w' :=
  ⟨ht, by rw [h]; exact ⟨z, lz, h1, h2, h3, h4, h5⟩⟩
/-- the end of it: the node's box is the result's -/
theorem NIn.done {w W : World} {top ga gr g3 k : Nat} {r : Rd} {x : Hd} {ks : List T} (h : NIn w top ga gr g3 k r (cellsOf x ks.length) W) (hok : Ok W W.heap.size (.mk x ks)) (hin : InS (fun c => w.heap.size < c) (.mk x ks)) :
    Blk (set7 W w.heap.size (vb x.kind) (.slice x.na x.names.length x.nc) (.slice x.ka ks.length x.kc) (.slice x.da x.data.length x.dc) (.bool x.run) (.float .f64 x.stamp) (vs x.target)) w.heap.size 27 (cellsOf x ks.length) ∧
    Ok (set7 W w.heap.size (vb x.kind) (.slice x.na x.names.length x.nc) (.slice x.ka ks.length x.kc) (.slice x.da x.data.length x.dc) (.bool x.run) (.float .f64 x.stamp) (vs x.target)) (set7 W w.heap.size (vb x.kind) (.slice x.na x.names.length x.nc) (.slice x.ka ks.length x.kc) (.slice x.da x.data.length x.dc) (.bool x.run) (.float .f64 x.stamp) (vs x.target)).heap.size (.mk x ks) ∧
    InS (fun c => w.heap.size ≤ c) (.mk x ks) ∧ ArIs (set7 W w.heap.size (vb x.kind) (.slice x.na x.names.length x.nc) (.slice x.ka ks.length x.kc) (.slice x.da x.data.length x.dc) (.bool x.run) (.float .f64 x.stamp) (vs x.target)) top ga gr k r ∧
    Turned (ArSet ga gr) (ArSet ga gr) w (set7 W w.heap.size (vb x.kind) (.slice x.na x.names.length x.nc) (.slice x.ka ks.length x.kc) (.slice x.da x.data.length x.dc) (.bool x.run) (.float .f64 x.stamp) (vs x.target)) := by
  have h1 := h.lt; have h2 := h.la; have h3 := h.lr
  have hoth := set7_other W w.heap.size (vb x.kind) (.slice x.na x.names.length x.nc) (.slice x.ka ks.length x.kc) (.slice x.da x.data.length x.dc) (.bool x.run) (.float .f64 x.stamp) (vs x.target)
  have hsz := set7_size W w.heap.size (vb x.kind) (.slice x.na x.names.length x.nc) (.slice x.ka ks.length x.kc) (.slice x.da x.data.length x.dc) (.bool x.run) (.float .f64 x.stamp) (vs x.target)
  have hbe := set7_below (Below.refl w.heap.size W) w.heap.size (Nat.le_refl _) (vb x.kind) (.slice x.na x.names.length x.nc) (.slice x.ka ks.length x.kc) (.slice x.da x.data.length x.dc) (.bool x.run) (.float .f64 x.stamp) (vs x.target)
  refine ⟨set7_blk h.b2 rfl _ _ _ _ _ _ _, hok.turn hin (fun c hc _ => hoth c (by omega)) (fun _ _ hl => by rw [hsz]; exact hl), hin.mono (fun c hc => by omega), h.ar.other w.heap.size h2 h3 hbe, ?_⟩
  exact ⟨hbe.os.trans h.turned.os, hbe.tape.trans h.turned.tape, hbe.output.trans h.turned.output, by rw [hsz]; exact h.turned.size, fun c hc hn => (hoth c (by omega)).trans (h.turned.other c hc hn), fun _ h => .inl h⟩
end Go.Proofs.Ytlehgacbcacokaa
