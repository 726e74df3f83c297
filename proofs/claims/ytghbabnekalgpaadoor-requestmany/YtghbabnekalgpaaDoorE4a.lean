/- The contract of the reference's Decode: several outputs, what holds between its rounds. -/
import Derived.Test.YtghbabnekalgpaaDoorQ9
namespace Go.Proofs.YtghbabnekalgpaaDoor
open Go.RowKit BaseMath WireMath ReqMath

theorem str_bytes2 (s : List By) (w : World) : ∃ c w2, (convert 9 37 (.string ⟨s.toArray⟩)).run Tryd.prog w = .ok (.slice (some ⟨w.heap.size, 0, none⟩) s.length c) w2 ∧ SrcIs w2 (some ⟨w.heap.size, 0, none⟩) s ∧ Below w.heap.size w w2 ∧ w.heap.size < w2.heap.size := by
  have h := run_bytes_of_string (P := Tryd.prog) w 9 37 5 ⟨s.toArray⟩ Tryd.underlying9 Tryd.underlying37 Tryd.underlying5
  have hs : (ByteArray.mk s.toArray).size = s.length := by simp [ByteArray.size]
  rw [hs] at h
  refine ⟨_, _, h, ?_, (Below.refl _ _).drew.alloc (Nat.le_refl _) _, by simp⟩
  refine bytes_src (fun k hk => ?_)
  rw [Nat.zero_add]
  have hc := World.cell?_alloc_mark w.drew (bytesRow ⟨s.toArray⟩ (grownCap w s.length 0 5)) 5 ((bytesRow ⟨s.toArray⟩ (grownCap w s.length 0 5)).size, (bytesRow ⟨s.toArray⟩ (grownCap w s.length 0 5)).size + 1) k
  refine Eq.trans hc ?_
  rw [bytesRow_at _ _ _ (by simpa using hk)]
  simp
theorem own_ints {w : World} {base n : Nat} {v : Value} {l : List Int} (h : w.ownsRow base 3 1 v n (l.map vi)) (hl : l.length = n) :
    ∃ A c, v = .slice A l.length c ∧ NeedsAt w A l ∧ ∀ a, A = some a → base ≤ a.block ∧ a.block < w.heap.size := by
  rcases h.2 with ⟨hv, h0⟩ | ⟨g, cap, cur, hv, hg, hc, hn, _, hs, ht⟩
  · have : l = [] := List.eq_nil_of_length_eq_zero (by omega)
    subst this
    exact ⟨none, 0, hv, NeedsAt.nil _ _, fun a ha => by cases ha⟩
  · rw [Nat.mul_one] at ht
    have hb : Blk w g 3 (l.map vi ++ cur.toList.drop n) := by rw [← ht, List.take_append_drop]; exact hc
    refine ⟨some ⟨g, 0, none⟩, cap, by rw [hv, hl], fun _ => ⟨g, 0, rfl, fun k hk => ?_⟩, fun a ha => by cases ha; exact ⟨hg, hb.lt⟩⟩
    rw [Nat.zero_add, hb.cell, List.getElem?_append_left (by simpa using hk)]; simp [hk]
theorem outs_own {W : World} {q n : Nat} {v : Value} {cells : List Value} {acc : List OutV} (h : W.ownsRow (q + 1) 57 4 v n cells) (hn : acc.length = n) (hD : ∀ i (h : i < acc.length), OutD W q v cells (i * 4) acc[i]) :
    ∃ O co, v = .slice O acc.length co ∧ OutsN W (q + 1) O acc := by
  rcases h.2 with ⟨hv, h0⟩ | ⟨g, cap, cur, hv, hg, hc, hnc, _, hs, ht⟩
  · have : acc = [] := List.eq_nil_of_length_eq_zero (by omega)
    subst this
    exact ⟨none, 0, hv, OutsN.nil _ _ _⟩
  · have hb : Blk W g 57 (cells ++ cur.toList.drop (n * 4)) := by rw [← ht, List.take_append_drop]; exact hc
    refine ⟨some ⟨g, 0, none⟩, cap, by rw [hv, hn], fun _ => ⟨g, 0, rfl, hg, fun i hi => ?_⟩⟩
    obtain ⟨A, ca, R, cr, M, cm, h0, h1, h2, h3, h4, d1, d2, d3⟩ := (hD i hi).app (cur.toList.drop (n * 4))
    rw [Nat.zero_add]
    exact ⟨A, ca, R, cr, M, cm, by rw [hb.cell]; exact h0, by rw [hb.cell]; exact h1, by rw [hb.cell]; exact h2, by rw [hb.cell]; exact h3, h4, fun a ha => (d1 a ha).1, fun a ha => (d2 a ha).1, fun a ha => (d3 a ha).1⟩
theorem But2.below {g o B : Nat} {w w' : World} (h : But2 g o w w') (hg : B ≤ g) (ho : B ≤ o) (hw : B ≤ w.heap.size) : Below B w w' :=
  ⟨h.os, h.tape, h.output, h.size, fun k hk => h.other k (by omega) (by omega) (by omega)⟩
/-- while the Outs are read -/
structure RtRel (w : World) (g q n : Nat) (all : Option (List OutV × Rd)) (L k : Nat) (wr : World) : Prop where
  ex : ∃ (acc : List OutV) (cells : List Value) (v : Value) (r : Rd), acc.length = k ∧ cells.length = k * 4 ∧ wr.ownsRow (q + 1) 57 4 v k cells ∧ Blk wr q 40 [.int .u8 7, .string ⟨#[]⟩, .string ⟨#[]⟩, ns, ns, v] ∧ (∀ i (h : i < acc.length), OutD wr q v cells (i * 4) acc[i]) ∧
    RdIs wr 125 w.heap.size g r ∧ r.ok ∧ r.p.length ≤ L ∧ outsGo (n - k) k acc r = all
  zero : Blk wr w.heap.size 40 [.int .u8 0, .string ⟨#[]⟩, .string ⟨#[]⟩, ns, ns, ns]
  below : Below w.heap.size w wr
/-- while an Out's needs are read -/
structure RnRel (w6 : World) (d g ob n place : Nat) (x y z : Value) (all : Option (List Int × Rd)) (L k : Nat) (wr : World) : Prop where
  ex : ∃ (acc : List Int) (v : Value) (r : Rd), acc.length = k ∧ wr.ownsRow w6.heap.size 3 1 v k (acc.map vi) ∧ Blk wr ob 57 [x, y, z, v] ∧ RdIs wr 125 d g r ∧ r.ok ∧ r.p.length ≤ L ∧ needsGo place (n - k) acc r = all
  but : But2 g ob w6 wr
theorem own_form {w : World} {base e size n : Nat} {v : Value} {xs : List Value} (h : w.ownsRow base e size v n xs) : ∃ A c, v = .slice A n c := by
  rcases h.2 with ⟨rfl, h0⟩ | ⟨k, cap, cur, rfl, _⟩
  · exact ⟨none, 0, by rw [h0]⟩
  · exact ⟨_, _, rfl⟩
theorem ownsRow_keepG {w w' : World} {base e size n : Nat} {v : Value} {xs : List Value} (h : w.ownsRow base e size v n xs) (hk : ∀ c, v.ownBlock = some c → w'.heap[c]? = w.heap[c]?) : w'.ownsRow base e size v n xs := by
  refine ⟨h.1, ?_⟩
  rcases h.2 with h1 | ⟨g, cap, cur, hv, hg, hc, hr⟩
  · exact .inl h1
  · refine .inr ⟨g, cap, cur, hv, hg, ?_, hr⟩
    rw [hk g (by rw [hv]; rfl)]; exact hc
end Go.Proofs.YtghbabnekalgpaaDoor
