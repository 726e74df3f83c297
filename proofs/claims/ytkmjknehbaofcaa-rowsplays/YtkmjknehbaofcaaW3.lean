/- A writer in memory; the contracts of lay, Byte, Num, Wide, Text, Texts, Bytes, of bytes.Clone and NewReader. -/
import Derived.Test.YtkmjknehbaofcaaW1
namespace Go.Proofs.Ytkmjknehbaofcaa
open Go.RowKit BaseMath WireMath

/-- what laying leaves: all but the writer and its row -/
structure WrStep (g : Nat) (v v' : Value) (w w' : World) : Prop where
  os : w'.os = w.os
  tape : w'.tape = w.tape
  output : w'.output = w.output
  size : w.heap.size ≤ w'.heap.size
  other : ∀ c, c < w.heap.size → c ≠ g → v.ownBlock ≠ some c → w'.heap[c]? = w.heap[c]?
  own : ∀ k, v'.ownBlock = some k → v.ownBlock = some k ∨ w.heap.size ≤ k
theorem WrStep.refl (g : Nat) (v : Value) (w : World) : WrStep g v v w w := ⟨rfl, rfl, rfl, Nat.le_refl _, fun _ _ _ _ => rfl, fun _ h => .inl h⟩
theorem WrStep.trans {g : Nat} {v1 v2 v3 : Value} {a b c : World} (h : WrStep g v1 v2 a b) (k : WrStep g v2 v3 b c) : WrStep g v1 v3 a c := by
  refine ⟨k.os.trans h.os, k.tape.trans h.tape, k.output.trans h.output, Nat.le_trans h.size k.size, fun i hi hn hv => ?_, fun i hi => ?_⟩
  · rw [k.other i (Nat.lt_of_lt_of_le hi h.size) hn (fun e => ?_), h.other i hi hn hv]
    rcases h.own i e with h1 | h1
    · exact hv h1
    · omega
  · rcases k.own i hi with h1 | h1
    · exact h.own i h1
    · exact .inr (Nat.le_trans h.size h1)
theorem WrStep.of_below {g : Nat} {v : Value} {w w' : World} (h : Below w.heap.size w w') : WrStep g v v w w' := ⟨h.os, h.tape, h.output, h.size, fun c hc _ _ => h.block c hc, fun _ hk => .inl hk⟩
theorem own_ne {w : World} {base g n : Nat} {v : Value} {xs cs : List Value} {T : TypeId} (hT : T ≠ 5) (h : Blk w g T cs) (ho : w.ownsRow base 5 1 v n xs) : v.ownBlock ≠ some g := by
  rcases ho.2 with ⟨rfl, _⟩ | ⟨k, cap, cur, rfl, _, hc, _⟩
  · intro e; cases e
  · intro e
    obtain rfl : k = g := by simpa [Value.ownBlock] using e
    unfold Blk at h; rw [hc] at h
    simp only [Option.some.injEq, Obj.cells.injEq] at h
    exact hT h.2.1.symm
theorem ownsRow_keep {w w' : World} {base n : Nat} {e : TypeId} {v : Value} {xs : List Value} (ho : w.ownsRow base e 1 v n xs) (h : ∀ k, v.ownBlock = some k → w'.heap[k]? = w.heap[k]?) : w'.ownsRow base e 1 v n xs := by
  refine ⟨ho.1, ?_⟩
  rcases ho.2 with h1 | ⟨k, cap, cur, rfl, h2, h3, h4⟩
  · exact .inl h1
  · exact .inr ⟨k, cap, cur, rfl, h2, by rw [h k rfl]; exact h3, h4⟩
/-- BYTES APPENDED TO A ROW OF ONE's OWN: what there is then, and where -/
theorem run_append_x {w : World} {ty : TypeId} (base : Nat) (v : Value) (xs : List By) (hown : w.ownsRow base 5 1 v xs.length (xs.map vb))
    (A : Option Addr) (c : Nat) (l : List By) (hN : A = none → c = 0) (hA : SrcIs w A l) (hbd : xs.length + l.length ≤ 1000000) (hbase : base ≤ w.heap.size) :
    ∃ v' w', (Builtin.append_ #[66, 66] ty #[v, .slice A l.length c]).run Try.prog w = .ok v' w' ∧ w'.ownsRow base 5 1 v' (xs ++ l).length ((xs ++ l).map vb) ∧ w.grownBy w' v.ownBlock ∧ (∀ k, v'.ownBlock = some k → v.ownBlock = some k ∨ w.heap.size ≤ k) := by
  obtain ⟨i0, hi, hz0, hz1, hz2⟩ := info_parts info5
  cases A with
  | none =>
    have hl : l = [] := by
      cases l with
      | nil => rfl
      | cons y r => obtain ⟨b, o, he, _⟩ := hA (by simp); cases he
    subst hl
    obtain rfl := hN rfl
    refine ⟨v, w, ?_, by simpa using hown, ⟨rfl, rfl, rfl, Nat.le_refl _, fun _ _ _ => rfl⟩, fun _ h => .inl h⟩
    exact run_append_owned_none (P := Try.prog) (w := w) base 66 ty 5 i0 1 Try.underlying66 hi v xs.length (xs.map vb) hown
  | some ad =>
    have hsrc : ∀ j y, (l.map vb)[j]? = some y → w.cell? (ad.add j) = some y := by
      intro j y hj
      have h0 : 0 < l.length := by have := (List.getElem?_eq_some_iff.1 hj).1; simp at this; omega
      obtain ⟨b, o, he, hc⟩ := hA h0
      cases he
      exact hc.src j y hj
    have h1 : ∀ y ∈ l.map vb, y.oneCell' = true := by intro y hy; obtain ⟨z, _, rfl⟩ := List.mem_map.1 hy; rfl
    obtain ⟨v', w', hr, ho, hg, _⟩ := run_append_own (P := Try.prog) w base 66 ty 5 i0 (.int .u8 0) 1 1 Try.underlying66 hi hz0 hz1 hz2 rfl (by decide) v xs.length (xs.map vb) hown ad l.length c (l.map vb) (by simp) hsrc h1 (by unfold maxLen; omega) (by omega) hbase
    refine ⟨v', w', hr, by rw [List.length_append, List.map_append]; exact ho, hg, ?_⟩
    rcases hown.2 with ⟨rfl, hz⟩ | ⟨g, cap, cur, rfl, _, hgc, hnc, hcm, hcs, htk⟩
    · obtain ⟨v2, w2, hr2, ho2, _, _⟩ := run_append_own (P := Try.prog) w w.heap.size 66 ty 5 i0 (.int .u8 0) 1 1 Try.underlying66 hi hz0 hz1 hz2 rfl (by decide) (.slice none 0 0) xs.length (xs.map vb) ⟨by simp, .inl ⟨rfl, hz⟩⟩ ad l.length c (l.map vb) (by simp) hsrc h1 (by unfold maxLen; omega) (by omega) (Nat.le_refl _)
      rw [hr] at hr2
      injection hr2 with e1 e2
      subst e1 e2
      exact fun k hk => .inr (ho2.lt k hk).1
    · by_cases hroom : xs.length + l.length ≤ cap
      · have hr2 := run_append_room (P := Try.prog) w 66 ty 5 i0 Try.underlying66 hi g xs.length cap cur hgc ad l.length c (l.map vb) (by rw [hz1]; simp) hsrc h1 hroom (by rw [hz1, List.length_map]; omega)
        rw [hr] at hr2
        injection hr2 with e1 e2
        subst e1
        intro k hk
        exact .inl hk
      · have hr2 := run_append_grow (P := Try.prog) w 66 ty 5 i0 (.int .u8 0) Try.underlying66 hi hz0 ⟨g, 0, none⟩ xs.length cap (xs.map vb) (by rw [hz1]; simp) (hown.cells (g := g) rfl) ad l.length c (l.map vb) (by rw [hz1]; simp) hsrc (by omega) (by omega) (growslice_fits (by omega) (by rw [hz2]; omega))
        rw [hr] at hr2
        injection hr2 with e1 e2
        subst e1
        intro k hk
        simp [Value.ownBlock] at hk
        omega
theorem wpList_append_x {w : World} {ops : Array Oper} {rest : List Oper} {o : Oper} {a : Act} {Q : Exit → Act → World → Prop} (hgd : o.guard = none) (s x : Operand)
    (ho : o.op = .call { callee := .builtin .append, args := #[s, x], argTypes := #[66, 66] }) (base : Nat) (v : Value) (xs : List By) (hs : a.eval s = v) (hown : w.ownsRow base 5 1 v xs.length (xs.map vb))
    (A : Option Addr) (c : Nat) (l : List By) (hx : a.eval x = .slice A l.length c) (hN : A = none → c = 0) (hA : SrcIs w A l) (hbd : xs.length + l.length ≤ 1000000) (hbase : base ≤ w.heap.size)
    (h : ∀ v' w', w'.ownsRow base 5 1 v' (xs ++ l).length ((xs ++ l).map vb) → w.grownBy w' v.ownBlock → (∀ k, v'.ownBlock = some k → v.ownBlock = some k ∨ w.heap.size ≤ k) → wpList Try.prog ops Q rest (a.put o.dst v') w') : wpList Try.prog ops Q (o :: rest) a w := by
  refine wpList_plain hgd fun K hK => ?_
  obtain ⟨v', w', hr, h1, h2, h3⟩ := run_append_x (ty := o.type) base v xs hown A c l hN hA hbd hbase
  unfold Oper.wp execOp
  simp only [ho, resolve, invoke, builtin, Sem.run_bind, Sem.run_pure, Result.andThen_ok, List.map_toArray, List.map_cons, List.map_nil, hs, hx, hr]
  exact hK _ _ (h v' w' h1 h2 h3)
theorem new_src (w : World) (l : List By) : SrcIs (w.alloc (.cells (l.map vb).toArray 5)) (some ⟨w.heap.size, 0, none⟩) l :=
  bytes_src (Blk.bytes (l := l) (tl := []) (by have := Blk.new w 5 (l.map vb).toArray; simpa using this))
theorem vb_ofNat (n : Nat) : vb (UInt8.ofNat n) = .int .u8 ((n % 256 : Nat) : Int) := by
  unfold vb; rw [UInt8.toNat_ofNat']
theorem vb_ofInt (n : Int) : vb (UInt8.ofNat (n % 256).toNat) = .int .u8 (n % 256) := by
  rw [vb_ofNat]; congr 1; omega
theorem numB_cells (n : Int) : ((numB n).map vb).toArray = #[.int .u8 (n / 256 % 256), .int .u8 (n % 256)] := by
  unfold numB; rw [List.map_cons, List.map_cons, List.map_nil, vb_ofInt, vb_ofInt]
theorem vb_div (x K : Nat) (k : Int) (h : (K : Int) = k) : vb (UInt8.ofNat (x / K)) = .int .u8 ((x : Int) / k % 256) := by
  subst h; rw [vb_ofNat, Int.natCast_emod, Int.natCast_ediv]; rfl
theorem vb_top (x : Nat) (hx : x ≤ 18446744073709551615) : vb (UInt8.ofNat (x / 72057594037927936)) = .int .u8 ((x : Int) / 72057594037927936) := by
  rw [vb_div x 72057594037927936 72057594037927936 rfl]; congr 1; omega
theorem wideB_cells (x : Nat) (hx : x ≤ 18446744073709551615) : ((wideB x).map vb).toArray = #[.int .u8 ((x : Int) / 72057594037927936), .int .u8 ((x : Int) / 281474976710656 % 256), .int .u8 ((x : Int) / 1099511627776 % 256), .int .u8 ((x : Int) / 4294967296 % 256), .int .u8 ((x : Int) / 16777216 % 256), .int .u8 ((x : Int) / 65536 % 256), .int .u8 ((x : Int) / 256 % 256), .int .u8 ((x : Int) % 256)] := by
  have e : wideB x = [UInt8.ofNat (x / 72057594037927936), UInt8.ofNat (x / 281474976710656), UInt8.ofNat (x / 1099511627776), UInt8.ofNat (x / 4294967296), UInt8.ofNat (x / 16777216), UInt8.ofNat (x / 65536), UInt8.ofNat (x / 256), UInt8.ofNat (x / 1)] := rfl
  have e1 : vb (UInt8.ofNat (x / 1)) = .int .u8 ((x : Int) % 256) := by rw [Nat.div_one, vb_ofNat, Int.natCast_emod]; rfl
  rw [e]
  rw [List.map_cons, List.map_cons, List.map_cons, List.map_cons, List.map_cons, List.map_cons, List.map_cons, List.map_cons, List.map_nil, e1, vb_top x hx, vb_div x 281474976710656 _ rfl, vb_div x 1099511627776 _ rfl, vb_div x 4294967296 _ rfl, vb_div x 16777216 _ rfl, vb_div x 65536 _ rfl, vb_div x 256 _ rfl]
  rfl
/-- a text as bytes -/
theorem str_bytes (s : List By) (w : World) : ∃ c w2, (convert 9 66 (.string ⟨s.toArray⟩)).run Try.prog w = .ok (.slice (some ⟨w.heap.size, 0, none⟩) s.length c) w2 ∧ SrcIs w2 (some ⟨w.heap.size, 0, none⟩) s ∧ Below w.heap.size w w2 := by
  have h := run_bytes_of_string (P := Try.prog) w 9 66 5 ⟨s.toArray⟩ Try.underlying9 Try.underlying66 Try.underlying5
  have hs : (ByteArray.mk s.toArray).size = s.length := by simp [ByteArray.size]
  rw [hs] at h
  refine ⟨_, _, h, ?_, (Below.refl _ _).drew.alloc (Nat.le_refl _) _⟩
  refine bytes_src (fun k hk => ?_)
  rw [Nat.zero_add]
  have hc := World.cell?_alloc_mark w.drew (bytesRow ⟨s.toArray⟩ (grownCap w s.length 0 5)) 5 ((bytesRow ⟨s.toArray⟩ (grownCap w s.length 0 5)).size, (bytesRow ⟨s.toArray⟩ (grownCap w s.length 0 5)).size + 1) k
  refine Eq.trans hc ?_
  rw [bytesRow_at _ _ _ (by simpa using hk)]
  simp
theorem numB_length (n : Int) : (numB n).length = 2 := rfl
end Go.Proofs.Ytkmjknehbaofcaa
