/- Trees that keep out of some blocks; rows of texts and nodes that a call makes. -/
import Derived.Test.YtlehgacbcacokaaK2
import Derived.Test.YtlehgacbcacokaaW10
namespace Go.Proofs.Ytlehgacbcacokaa
open Go.RowKit TreeMath

/-- all of a tree lies in blocks of S -/
inductive InS (S : Nat → Prop) : T → Prop
  | mk (x : Hd) (ks : List T) (hn : 0 < x.names.length → ∀ a, x.na = some a → S a.block) (hd : 0 < x.data.length → ∀ a, x.da = some a → S a.block) (hk : 0 < ks.length → ∀ a, x.ka = some a → S a.block) (hks : ∀ k ∈ ks, InS S k) : InS S (.mk x ks)
theorem InS.mono {S S' : Nat → Prop} {t : T} (h : InS S t) (hs : ∀ c, S c → S' c) : InS S' t := by
  induction h with
  | mk x ks hn hd hk hks ih => exact .mk x ks (fun h a e => hs _ (hn h a e)) (fun h a e => hs _ (hd h a e)) (fun h a e => hs _ (hk h a e)) ih
theorem Ok.inS {w : World} {top : Nat} {t : T} (h : Ok w top t) : InS (· < top) t := by
  induction h with
  | mk x ks hx hl hc hk hks ih => exact .mk x ks hx.nlt hx.dlt (fun h0 a e => by obtain ⟨b, o, e', hb, _⟩ := hk h0; rw [e] at e'; cases e'; exact hb) ih
theorem InS.and {S S' : Nat → Prop} {t : T} (h : InS S t) (h' : InS S' t) : InS (fun c => S c ∧ S' c) t := by
  induction h with
  | mk x ks hn hd hk hks ih =>
    cases h' with
    | mk _ _ hn' hd' hk' hks' => exact .mk x ks (fun h a e => ⟨hn h a e, hn' h a e⟩) (fun h a e => ⟨hd h a e, hd' h a e⟩) (fun h a e => ⟨hk h a e, hk' h a e⟩) (fun k hk => ih k hk (hks' k hk))
theorem Ok.turn {w w' : World} {top top' : Nat} {t : T} {S : Nat → Prop} (h : Ok w top t) (hi : InS S t) (hb : ∀ c, S c → c < top → w'.heap[c]? = w.heap[c]?) (ht : ∀ c, S c → c < top → c < top') : Ok w' top' t := by
  induction h with
  | mk x ks hx hl hc hk hks ih =>
    cases hi with
    | mk _ _ hn hd hkk hik =>
      refine .mk x ks ⟨fun h0 => ?_, fun h0 a e => ht _ (hn h0 a e) (hx.nlt h0 a e), hx.nnil, hx.ncap, hx.nlen, hx.neach, fun h0 => ?_, fun h0 a e => ht _ (hd h0 a e) (hx.dlt h0 a e), hx.dnil, hx.dcap, hx.dlen, hx.stamp, hx.tlen, hx.knil⟩ hl hc (fun h0 => ?_) (fun k hk' => ih k hk' (hik k hk'))
      · obtain ⟨b, o, e, hc'⟩ := hx.nsrc h0
        exact ⟨b, o, e, fun k hk' => by rw [World.cell?_of_block (w := w) (a := ⟨b, o + k, none⟩) (hb b (hn h0 _ e) (hx.nlt h0 _ e))]; exact hc' k hk'⟩
      · obtain ⟨b, o, e, hc'⟩ := hx.dsrc h0
        exact ⟨b, o, e, fun k hk' => by rw [World.cell?_of_block (w := w) (a := ⟨b, o + k, none⟩) (hb b (hd h0 _ e) (hx.dlt h0 _ e))]; exact hc' k hk'⟩
      · obtain ⟨b, o, e, hlt, hc'⟩ := hk h0
        exact ⟨b, o, e, ht _ (hkk h0 _ e) hlt, fun i hi' => (hc' i hi').same (hb b (hkk h0 _ e) hlt)⟩
theorem inS_file (S : Nat → Prop) (da : Option Addr) (dc : Nat) (data : List By) (run : Bool) (stamp : Nat) (h : 0 < data.length → ∀ a, da = some a → S a.block) : InS S (.mk (fileHd da dc data run stamp) []) :=
  .mk _ _ (fun h => absurd h (by simp [fileHd])) h (fun h => absurd h (by simp)) (fun k hk => by cases hk)
theorem inS_link (S : Nat → Prop) (t : List By) : InS S (.mk (linkHd t) []) := .mk _ _ (fun h => absurd h (by simp [linkHd])) (fun h => absurd h (by simp [linkHd])) (fun h => absurd h (by simp)) (fun k hk => by cases hk)
theorem inS_dir (S : Nat → Prop) (na : Option Addr) (nc : Nat) (names : List (List By)) (ka : Option Addr) (kc : Nat) (ks : List T) (h1 : 0 < names.length → ∀ a, na = some a → S a.block) (h2 : 0 < ks.length → ∀ a, ka = some a → S a.block) (h3 : ∀ k ∈ ks, InS S k) :
    InS S (.mk (dirHd na nc names ka kc) ks) := .mk _ _ h1 (fun h => absurd h (by simp [dirHd])) h2 h3
/-- a row of texts of the call's own -/
def Strs (w : World) (base : Nat) (v : Value) (ls : List (List By)) : Prop := w.ownsRow base 9 1 v ls.length (ls.map vs)
theorem Strs.src {w : World} {base : Nat} {v : Value} {ls : List (List By)} (h : Strs w base v ls) :
    ∃ A c, v = .slice A ls.length c ∧ StrsIs w A ls ∧ (A = none → c = 0) ∧ ls.length ≤ c ∧ ∀ a, A = some a → base ≤ a.block ∧ a.block < w.heap.size := by
  have hlt := h.lt
  rcases h.2 with ⟨hv, h0⟩ | ⟨g, cap, cur, hv, hg, hc, hn, _, hs, ht⟩
  · have : ls = [] := List.eq_nil_of_length_eq_zero h0
    subst this
    exact ⟨none, 0, hv, fun h => absurd h (by simp), fun _ => rfl, by simp, fun a ha => by cases ha⟩
  · subst hv
    rw [Nat.mul_one] at ht
    have hb : Blk w g 9 (ls.map vs ++ cur.toList.drop ls.length) := by rw [← ht, List.take_append_drop]; exact hc
    exact ⟨some ⟨g, 0, none⟩, cap, rfl, Blk.strs hb, (fun h => by cases h), hn, fun a ha => by cases ha; exact hlt g rfl⟩
theorem Nodes.src {w : World} {base : Nat} {v : Value} {ts : List T} (h : Nodes w base v ts) :
    ∃ A c, v = .slice A ts.length c ∧ KidsAt w w.heap.size A ts ∧ (A = none → c = 0) ∧ ts.length ≤ c ∧ ∀ a, A = some a → base ≤ a.block ∧ a.block < w.heap.size := by
  by_cases h0 : 0 < ts.length
  · obtain ⟨g, c, hv, hb, hl, hc, hcl, -⟩ := h.at h0
    exact ⟨some ⟨g, 0, none⟩, c, hv, fun _ => ⟨g, 0, rfl, hl, fun i hi => by rw [Nat.zero_add]; exact hcl i hi⟩, (fun h => by cases h), hc, fun a ha => by cases ha; exact ⟨hb, hl⟩⟩
  · have hlt := h.lt
    have e : ts = [] := List.eq_nil_of_length_eq_zero (by omega)
    subst e
    rcases h.2 with ⟨hv, _⟩ | ⟨g, cap, cur, hv, hg, _, _, _, _, _⟩
    · exact ⟨none, 0, hv, fun h => absurd h (by simp), fun _ => rfl, by simp, fun a ha => by cases ha⟩
    · subst hv
      exact ⟨some ⟨g, 0, none⟩, cap, rfl, fun h => absurd h (by simp), (fun h => by cases h), by simp, fun a ha => by cases ha; exact hlt g rfl⟩
theorem strs_nil (w : World) (base : Nat) : Strs w base (.slice none 0 0) [] := World.ownsRow_nil _ _ _ _
theorem nodes_nil (w : World) (base : Nat) : Nodes w base (.slice none 0 0) [] := World.ownsRow_nil _ _ _ _
/-- rows of different types are apart -/
theorem rows_apart {w : World} {base b2 : Nat} {v u : Value} {ls : List (List By)} {ts : List T} (h : Strs w base v ls) (k : Nodes w b2 u ts) (c : Nat) (hv : v.ownBlock = some c) (hu : u.ownBlock = some c) : False := by
  rcases h.2 with ⟨rfl, _⟩ | ⟨g, cap, cur, rfl, hg, hc, _⟩
  · cases hv
  rcases k.2 with ⟨rfl, _⟩ | ⟨g2, cap2, cur2, rfl, hg2, hc2, _⟩
  · cases hu
  obtain rfl : g = c := by simpa [Value.ownBlock] using hv
  obtain rfl : g2 = g := by simpa [Value.ownBlock] using hu
  rw [hc] at hc2; simp at hc2
theorem Strs.kept {w w' : World} {base b2 : Nat} {v u : Value} {ls : List (List By)} {ts : List T} (h : Strs w base v ls) (k : Nodes w b2 u ts) (hg : w.grownBy w' u.ownBlock) : Strs w' base v ls :=
  World.ownsRow.kept h hg (by
    cases e : v.ownBlock with
    | none => exact .inl rfl
    | some c => exact .inr (fun e' => rows_apart h k c e e'.symm))
theorem Nodes.kept {w w' : World} {base b2 : Nat} {v u : Value} {ls : List (List By)} {ts : List T} (h : Nodes w base u ts) (k : Strs w b2 v ls) (hg : w.grownBy w' v.ownBlock) : Nodes w' base u ts :=
  World.ownsRow.kept h hg (by
    cases e : u.ownBlock with
    | none => exact .inl rfl
    | some c => exact .inr (fun e' => rows_apart k h c e'.symm e))
theorem own_same {w w' : World} {base : Nat} {e : TypeId} {size : Nat} {v : Value} {n : Nat} {xs : List Value} (h : w.ownsRow base e size v n xs) (hb : ∀ c, base ≤ c → c < w.heap.size → w'.heap[c]? = w.heap[c]?) : w'.ownsRow base e size v n xs := by
  refine ⟨h.1, h.2.imp id ?_⟩
  have hlt := h.lt
  rintro ⟨g, cap, cur, rfl, h2, h3, h4⟩
  exact ⟨g, cap, cur, rfl, h2, by rw [hb g h2 (hlt g rfl).2]; exact h3, h4⟩
theorem own_below {w w' : World} {base : Nat} {e : TypeId} {size : Nat} {v : Value} {n : Nat} {xs : List Value} (h : w.ownsRow base e size v n xs) (hb : Below w.heap.size w w') : w'.ownsRow base e size v n xs :=
  own_same h fun c _ hc => hb.block c hc
/-- TEXTS APPENDED TO A ROW OF THE CALL's OWN -/
theorem wpList_append_strs {w : World} {ops : Array Oper} {rest : List Oper} {o : Oper} {a : Act} {Q : Exit → Act → World → Prop} (hgd : o.guard = none) (s x : Operand)
    (ho : o.op = .call { callee := .builtin .append, args := #[s, x], argTypes := #[22, 22] }) (base : Nat)
    (v : Value) (ls : List (List By)) (hs : a.eval s = v) (hown : Strs w base v ls)
    (ad : Addr) (c m : Nat) (ms : List (List By)) (hm : ms.length = m) (hx : a.eval x = .slice (some ad) m c) (hA : ∀ j u, (ms.map vs)[j]? = some u → w.cell? (ad.add j) = some u) (hbd : ls.length + m ≤ 1000000) (hbase : base ≤ w.heap.size)
    (h : ∀ v' w', Strs w' base v' (ls ++ ms) → w.grownBy w' v.ownBlock → wpList Try.prog ops Q rest (a.put o.dst v') w') : wpList Try.prog ops Q (o :: rest) a w := by
  obtain ⟨i0, hi, hz0, hz1, hz2⟩ := info_parts info9
  subst hm
  refine wpList_append_own w hgd s x 22 ho base 9 i0 (.string ⟨#[]⟩) 1 16 Try.underlying22 hi hz0 hz1 hz2 rfl (by decide) v ls.length (ls.map vs) hs hown ad ms.length c (ms.map vs) hx (by simp) hA (fun y hy => by obtain ⟨z, _, rfl⟩ := List.mem_map.1 hy; rfl) (by unfold maxLen; omega) (by omega) hbase ?_
  intro v' w' h1 h2 _
  refine h v' w' ?_ h2
  unfold Strs; rw [List.length_append, List.map_append]; exact h1
/-- a node written over, field by field -/
abbrev set7 (w : World) (g : Nat) (v0 v1 v2 v3 v4 v5 v6 : Value) : World := ((((((w.setCell ⟨g, 0, none⟩ v0).setCell ⟨g, 1, none⟩ v1).setCell ⟨g, 2, none⟩ v2).setCell ⟨g, 3, none⟩ v3).setCell ⟨g, 4, none⟩ v4).setCell ⟨g, 5, none⟩ v5).setCell ⟨g, 6, none⟩ v6
theorem set7_blk {w : World} {g : Nat} {t : TypeId} {cs : List Value} (h : Blk w g t cs) (hl : cs.length = 7) (v0 v1 v2 v3 v4 v5 v6 : Value) : Blk (set7 w g v0 v1 v2 v3 v4 v5 v6) g t [v0, v1, v2, v3, v4, v5, v6] := by
  match cs, hl with
  | [c0, c1, c2, c3, c4, c5, c6], _ => exact ((((((h.set 0 v0).set 1 v1).set 2 v2).set 3 v3).set 4 v4).set 5 v5).set 6 v6
theorem set7_size (w : World) (g : Nat) (v0 v1 v2 v3 v4 v5 v6 : Value) : (set7 w g v0 v1 v2 v3 v4 v5 v6).heap.size = w.heap.size := by
  unfold set7; simp only [World.size_setCell]
theorem set7_other (w : World) (g : Nat) (v0 v1 v2 v3 v4 v5 v6 : Value) (c : Nat) (hc : c ≠ g) : (set7 w g v0 v1 v2 v3 v4 v5 v6).heap[c]? = w.heap[c]? := by
  unfold set7
  iterate 7 rw [Below.heap_setCell _ _ _ c (fun e => hc (by simpa using e))]
theorem set7_below {B : Nat} {a w : World} (h : Below B a w) (g : Nat) (hg : B ≤ g) (v0 v1 v2 v3 v4 v5 v6 : Value) : Below B a (set7 w g v0 v1 v2 v3 v4 v5 v6) :=
  ((((((h.setCell (by exact hg) _).setCell (by exact hg) _).setCell (by exact hg) _).setCell (by exact hg) _).setCell (by exact hg) _).setCell (by exact hg) _).setCell (by exact hg) _
end Go.Proofs.Ytlehgacbcacokaa
