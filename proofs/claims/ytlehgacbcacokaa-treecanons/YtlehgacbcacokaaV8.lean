/- What Canon makes, against what it was made of; rows that are written over. -/
import Derived.Test.YtlehgacbcacokaaV7
import Derived.Test.YtlehgacbcacokaaV4
import Derived.Test.YtlehgacbcacokaaK7
namespace Go.Proofs.Ytlehgacbcacokaa
open Go.RowKit TreeMath RealMath

theorem Alike.same {t c : T} (h : Alike canonB t c) : same c t = true ∧ same t c = true := by
  induction h with
  | mk x z ks lz h1 h2 h3 h4 h5 h6 hl hk ih =>
    rw [TreeMath.same, TreeMath.same, sameL_get hl (fun i a b => (ih i b a).1), sameL_get hl.symm (fun i a b => (ih i a b).2)]
    simp [hdSame, h1, h2, h3, h4, h5, h6, canonB_canonB]
theorem stampsL_append (a b : List T) : stampsL (a ++ b) = stampsL a ++ stampsL b := by unfold stampsL; rw [List.filter_append, List.map_append]
theorem stampsL_one (t : T) (l : List T) : stampsL (t :: l) = (if t.hd.kind = 2 then [t.hd.stamp] else []) ++ stampsL l := by
  unfold stampsL
  by_cases h : t.hd.kind = 2 <;> simp [h]
theorem alikeL : ∀ (a b : List T), a.length = b.length → (∀ i (_ : i < b.length) (_ : i < a.length), (all a[i]).length = (all b[i]).length ∧ stampsL (all a[i]) = (stampsL (all b[i])).map canonB) → (allL a).length = (allL b).length ∧ stampsL (allL a) = (stampsL (allL b)).map canonB
  | [], [], _, _ => ⟨rfl, rfl⟩
  | y :: a, u :: b, h, hi => by
    obtain ⟨h1, h2⟩ := alikeL a b (by simpa using h) (fun i p q => hi (i + 1) (by simpa using p) (by simpa using q))
    obtain ⟨h3, h4⟩ := hi 0 (by simp) (by simp)
    simp only [List.getElem_cons_zero] at h3 h4
    rw [allL, allL, List.length_append, List.length_append, stampsL_append, stampsL_append, List.map_append, h1, h2, h3, h4]
    exact ⟨rfl, rfl⟩
  | [], _ :: _, h, _ => by simp at h
  | _ :: _, [], h, _ => by simp at h
theorem Alike.both {t c : T} (h : Alike canonB t c) : (all c).length = (all t).length ∧ stampsL (all c) = (stampsL (all t)).map canonB := by
  induction h with
  | mk x z ks lz h1 h2 h3 h4 h5 h6 hl hk ih =>
    obtain ⟨q1, q2⟩ := alikeL lz ks hl ih
    rw [all, all, List.length_cons, List.length_cons, stampsL_one, stampsL_one, List.map_append, q1, q2]
    refine ⟨rfl, ?_⟩
    show (if z.kind = 2 then [z.stamp] else []) ++ _ = _
    rw [h1, h6]
    show _ = (if x.kind = 2 then [x.stamp] else []).map canonB ++ _
    by_cases hk2 : x.kind = 2 <;> simp [hk2]
theorem Alike.count {t c : T} (h : Alike canonB t c) : count c = count t := h.both.1
theorem Alike.stamps {t c : T} (h : Alike canonB t c) : stampsT c = (stampsT t).map canonB := h.both.2
theorem fits_data {k : T} (h : fitsB k = true) : k.hd.data.length ≤ 1024 := by
  obtain ⟨x, ks⟩ := k
  rw [fitsB] at h
  show x.data.length ≤ 1024
  split at h
  · simp only [Bool.and_eq_true, decide_eq_true_eq, noFile] at h; simp [h]
  · split at h
    · simp only [Bool.and_eq_true, decide_eq_true_eq] at h; omega
    · split at h
      · simp only [Bool.and_eq_true, decide_eq_true_eq, noFile] at h; simp [h]
      · cases h
theorem right_size {t : T} (h : rightB t = true) : size t ≤ 90000 := by
  unfold rightB at h
  simp only [Bool.and_eq_true, decide_eq_true_eq] at h
  have hc : count t ≤ 64 := by first | exact h.1.1 | exact h.1.2 | exact h.2
  have hf : (all t).all fitsB = true := by first | exact h.2 | exact h.1.1
  unfold count at hc
  have : size t ≤ (all t).length * 1024 := by
    unfold size
    generalize all t = l at *
    clear hc h
    induction l with
    | nil => simp
    | cons a r ih =>
      rw [List.all_cons, Bool.and_eq_true] at hf
      have h1 := fits_data hf.1
      have h2 := ih hf.2
      simp only [List.map_cons, List.sum_cons, List.length_cons]
      omega
  omega
theorem right_fits {t : T} (h : rightB t = true) : ∀ k ∈ all t, fitsB k = true := by
  unfold rightB at h
  simp only [Bool.and_eq_true, decide_eq_true_eq] at h
  have hf : (all t).all fitsB = true := by first | exact h.2 | exact h.1.1
  exact List.all_eq_true.1 hf
theorem right_count {t : T} (h : rightB t = true) : count t ≤ 64 := by
  unfold rightB at h
  simp only [Bool.and_eq_true, decide_eq_true_eq] at h
  exact h.1.1
theorem ok_stamp1 {w : World} {top : Nat} {y : Hd} {ly : List T} (h : Ok w top (.mk y ly)) (b : Nat) (hb : b < 18446744073709551616) : Ok w top (.mk { y with stamp := b } ly) := by
  cases h with
  | mk _ _ hx hl hc hk hks => exact .mk _ _ ⟨hx.nsrc, hx.nlt, hx.nnil, hx.ncap, hx.nlen, hx.neach, hx.dsrc, hx.dlt, hx.dnil, hx.dcap, hx.dlen, hb, hx.tlen, hx.knil⟩ hl hc hk hks
theorem right_stamp1 {y : Hd} {ly : List T} (h : rightB (.mk y ly) = true) (hk : y.kind = 2) (b : Nat) : rightB (.mk { y with stamp := b } ly) = true := by
  unfold rightB at h ⊢
  rw [count_mk, TreeMath.depth, all, List.all_cons] at h ⊢
  have : fitsB (.mk { y with stamp := b } ly) = fitsB (.mk y ly) := by
    simp [fitsB, hk]
  rw [this]; exact h
theorem right_names {x : Hd} {ks : List T} (h : rightB (.mk x ks) = true) : x.names.length ≤ ks.length := by
  unfold rightB at h
  simp only [Bool.and_eq_true, decide_eq_true_eq] at h
  have hf : (all (.mk x ks)).all fitsB = true := by first | exact h.2 | exact h.1.1
  exact fits_names (List.all_eq_true.1 hf _ (all_self _))
theorem vb_inc (b : By) : Value.int .u8 (((b.toNat : Int) + 1) % 256) = vb (b + 1) := by
  show _ = Value.int .u8 ((b + 1).toNat : Int)
  rw [UInt8.toNat_add]; rfl
/-- while a made node's own rows are written over -/
structure Cin (lo hi : Nat) (w : World) (z : Hd) (n : Nat) (wr : World) : Prop where
  below : Below lo w wr
  high : ∀ k, hi ≤ k → wr.heap[k]? = w.heap[k]?
  size : wr.heap.size = w.heap.size
  ds : 0 < z.data.length → ∃ g cs, z.da = some ⟨g, 0, none⟩ ∧ lo ≤ g ∧ g < hi ∧ Blk wr g 5 cs ∧ z.data.length ≤ cs.length ∧ ∀ k, k < z.data.length → ∃ b : By, cs[k]? = some (vb b)
  ns : 0 < z.names.length → ∃ g cs, z.na = some ⟨g, 0, none⟩ ∧ lo ≤ g ∧ g < hi ∧ Blk wr g 9 cs ∧ z.names.length ≤ cs.length
  ks : 0 < n → ∃ g cs, z.ka = some ⟨g, 0, none⟩ ∧ lo ≤ g ∧ g < hi ∧ Blk wr g 27 cs ∧ n * 7 ≤ cs.length
theorem blk_type {w : World} {g : Nat} {s t : TypeId} {cs ds : List Value} (h1 : Blk w g s cs) (h2 : Blk w g t ds) : s = t := by
  unfold Blk at h1 h2
  rw [h1] at h2
  simp only [Option.some.injEq, Obj.cells.injEq] at h2
  exact h2.2.1
theorem blk_setAny {w : World} {g : Nat} {t : TypeId} {cs : List Value} (h : Blk w g t cs) (g' i : Nat) (v : Value) : ∃ ds, Blk (w.setCell ⟨g', i, none⟩ v) g t ds ∧ ds.length = cs.length ∧ (∀ k, ds[k]? = cs[k]? ∨ (g = g' ∧ k < cs.length ∧ ds[k]? = some v)) := by
  by_cases e : g = g'
  · subst e
    refine ⟨cs.set i v, h.set i v, by simp, fun k => ?_⟩
    by_cases e2 : i = k
    · subst e2
      by_cases e3 : i < cs.length
      · right; exact ⟨rfl, e3, by simp [e3]⟩
      · left; simp [e3]
    · left; simp [e2]
  · exact ⟨cs, h.other e v, rfl, fun k => .inl rfl⟩
theorem Cin.set {lo hi : Nat} {w : World} {z : Hd} {n : Nat} {wr : World} (h : Cin lo hi w z n wr) (g i : Nat) (v : Value) (h1 : lo ≤ g) (h2 : g < hi) (hv : ∀ cs, Blk wr g 5 cs → ∃ b : By, v = vb b) : Cin lo hi w z n (wr.setCell ⟨g, i, none⟩ v) := by
  refine ⟨h.below.setCell h1 _, fun k hk => ?_, by rw [World.size_setCell]; exact h.size, fun h0 => ?_, fun h0 => ?_, fun h0 => ?_⟩
  · rw [Below.heap_setCell wr ⟨g, i, none⟩ v k (fun e => by simp only at e; omega)]; exact h.high k hk
  · obtain ⟨g2, cs, a1, a2, a3, a4, a5, a6⟩ := h.ds h0
    obtain ⟨ds, b1, b2, b3⟩ := blk_setAny a4 g i v
    refine ⟨g2, ds, a1, a2, a3, b1, by omega, fun k hk => ?_⟩
    rcases b3 k with e | ⟨e1, e2, e3⟩
    · rw [e]; exact a6 k hk
    · subst e1
      obtain ⟨b, rfl⟩ := hv cs a4
      exact ⟨b, e3⟩
  · obtain ⟨g2, cs, a1, a2, a3, a4, a5⟩ := h.ns h0
    obtain ⟨ds, b1, b2, b3⟩ := blk_setAny a4 g i v
    exact ⟨g2, ds, a1, a2, a3, b1, by omega⟩
  · obtain ⟨g2, cs, a1, a2, a3, a4, a5⟩ := h.ks h0
    obtain ⟨ds, b1, b2, b3⟩ := blk_setAny a4 g i v
    exact ⟨g2, ds, a1, a2, a3, b1, by omega⟩
theorem Cin.setK {lo hi : Nat} {w : World} {z : Hd} {n : Nat} {wr : World} (h : Cin lo hi w z n wr) (h0 : 0 < n) {g : Nat} (e : z.ka = some ⟨g, 0, none⟩) (i : Nat) (v : Value) : Cin lo hi w z n (wr.setCell ⟨g, i, none⟩ v) := by
  obtain ⟨g2, cs, a1, a2, a3, a4, a5⟩ := h.ks h0
  rw [e] at a1
  have : g = g2 := by injection a1 with a1; injection a1
  subst this
  exact h.set g i v a2 a3 (fun ds hd => by have := blk_type a4 hd; cases this)
theorem own_open {W : World} {base : Nat} {e : TypeId} {size : Nat} {A : Option Addr} {n c : Nat} {xs : List Value} (h : W.ownsRow base e size (.slice A n c) n xs) (h0 : 0 < n) : ∃ g tl, A = some ⟨g, 0, none⟩ ∧ base ≤ g ∧ Blk W g e (xs ++ tl) := by
  rcases h.2 with ⟨_, h1⟩ | ⟨g, cap, cur, hv, hg, hc, hn, _, hs, ht⟩
  · omega
  · have e1 : A = some ⟨g, 0, none⟩ := by injection hv
    refine ⟨g, cur.toList.drop (n * size), e1, hg, ?_⟩
    rw [← ht, List.take_append_drop]; exact hc
theorem Cin.start {lo hi : Nat} {w6 w : World} {z : Hd} {lz : List T} (h : Own3 lo z lz w6) (hb : Below hi w6 w) (hh : hi = w6.heap.size) : Cin lo hi w z lz.length w := by
  subst hh
  refine ⟨Below.refl _ _, fun _ _ => rfl, rfl, fun h0 => ?_, fun h0 => ?_, fun h0 => ?_⟩
  · obtain ⟨g, tl, a1, a2, a3⟩ := own_open h.ds h0
    refine ⟨g, _, a1, a2, a3.lt, a3.below hb a3.lt, by simp, fun k hk => ⟨z.data[k], ?_⟩⟩
    rw [List.getElem?_append_left (by simpa using hk)]; simp [hk]
  · obtain ⟨g, tl, a1, a2, a3⟩ := own_open h.ns h0
    exact ⟨g, _, a1, a2, a3.lt, a3.below hb a3.lt, by simp⟩
  · obtain ⟨g, tl, a1, a2, a3⟩ := own_open h.ks h0
    refine ⟨g, _, a1, a2, a3.lt, a3.below hb a3.lt, ?_⟩
    rw [List.length_append, flat_length]; omega
end Go.Proofs.Ytlehgacbcacokaa
