/- The contract of another: what stays, what is made anew. -/
import Derived.Test.YtlehgacbcacokaaV1
import Derived.Deep.RegionHeld3
import Derived.Deep.CutBlock
namespace Go.Proofs.Ytlehgacbcacokaa
open Go.RowKit TreeMath RealMath

/-- alike, but for where it lies, and with what st makes of each stamp -/
inductive Alike (st : Nat → Nat) : T → T → Prop
  | mk (x z : Hd) (ks lz : List T) (h1 : z.kind = x.kind) (h2 : z.names = x.names) (h3 : z.data = x.data) (h4 : z.run = x.run) (h5 : z.target = x.target) (h6 : z.stamp = st x.stamp) (hl : lz.length = ks.length)
      (hk : ∀ i (h1 : i < ks.length) (h2 : i < lz.length), Alike st ks[i] lz[i]) : Alike st (.mk x ks) (.mk z lz)
structure An (w : World) (y : Hd) (vn vk vd : Value) (stp : Nat) (W : World) : Prop where
  b2 : Blk W w.heap.size 27 [vb y.kind, vn, vk, vd, .bool y.run, .float .f64 stp, vs y.target]
  b4 : Blk W (w.heap.size + 1) 27 [.int .u8 0, .slice none 0 0, .slice none 0 0, .slice none 0 0, .bool false, .float .f64 0, .string ⟨#[]⟩]
  below : Below w.heap.size w W
theorem An.keep {w W W' : World} {y : Hd} {vn vk vd : Value} {stp : Nat} (h : An w y vn vk vd stp W) (hb : Below W.heap.size W W') : An w y vn vk vd stp W' :=
  ⟨h.b2.below hb h.b2.lt, h.b4.below hb h.b4.lt, h.below.trans (hb.mono h.below.size)⟩
theorem An.keep2 {w W W' : World} {y : Hd} {vn vk vd : Value} {stp : Nat} (h : An w y vn vk vd stp W) (hb : Below (w.heap.size + 2) W W') : An w y vn vk vd stp W' :=
  ⟨h.b2.below hb (by omega), h.b4.below hb (by omega), h.below.trans (hb.mono (by omega))⟩
theorem An.set1 {w W : World} {y : Hd} {vn vk vd : Value} {stp : Nat} (h : An w y vn vk vd stp W) (v : Value) : An w y v vk vd stp (W.setCell ⟨w.heap.size, 1, none⟩ v) :=
  ⟨by have := h.b2.set 1 v; exact this, h.b4.other (by show w.heap.size + 1 ≠ w.heap.size; omega) _, h.below.setCell (by exact Nat.le_refl _) _⟩
theorem An.set2 {w W : World} {y : Hd} {vn vk vd : Value} {stp : Nat} (h : An w y vn vk vd stp W) (v : Value) : An w y vn v vd stp (W.setCell ⟨w.heap.size, 2, none⟩ v) :=
  ⟨by have := h.b2.set 2 v; exact this, h.b4.other (by show w.heap.size + 1 ≠ w.heap.size; omega) _, h.below.setCell (by exact Nat.le_refl _) _⟩
theorem An.set3 {w W : World} {y : Hd} {vn vk vd : Value} {stp : Nat} (h : An w y vn vk vd stp W) (v : Value) : An w y vn vk v stp (W.setCell ⟨w.heap.size, 3, none⟩ v) :=
  ⟨by have := h.b2.set 3 v; exact this, h.b4.other (by show w.heap.size + 1 ≠ w.heap.size; omega) _, h.below.setCell (by exact Nat.le_refl _) _⟩
theorem An.set5 {w W : World} {y : Hd} {vn vk vd : Value} {stp : Nat} (h : An w y vn vk vd stp W) (s : Nat) : An w y vn vk vd s (W.setCell ⟨w.heap.size, 5, none⟩ (.float .f64 s)) :=
  ⟨by have := h.b2.set 5 (.float .f64 s); exact this, h.b4.other (by show w.heap.size + 1 ≠ w.heap.size; omega) _, h.below.setCell (by exact Nat.le_refl _) _⟩
theorem own_set {W : World} {base g o : Nat} {e : TypeId} {size : Nat} {v u : Value} {n : Nat} {xs : List Value} (h : W.ownsRow base e size v n xs) (hg : g < base) : (W.setCell ⟨g, o, none⟩ u).ownsRow base e size v n xs :=
  own_same h fun c h1 _ => Below.heap_setCell W ⟨g, o, none⟩ u c (fun e => by simp only at e; omega)
/-- what is asked of the function that is handed on -/
structure Stamp (fn : Nat) (st : Nat → Nat) : Prop where
  call : ∀ (b : Nat) (w : World), b < 18446744073709551616 → Calls Try.prog fn #[.float .f64 b] w fun e w' => e = .returned (.float .f64 (st b)) ∧ w = w'
  enters : ∀ (args : Array Value) (w : World), (callFunc fn args).run Try.prog w = .ok (.enter fn args) w
  lt : ∀ b, b < 18446744073709551616 → st b < 18446744073709551616
/-- the rows of a node are the call's own -/
structure Own3 (base : Nat) (z : Hd) (lz : List T) (W : World) : Prop where
  ns : Strs W base (.slice z.na z.names.length z.nc) z.names
  ds : W.ownsRow base 5 1 (.slice z.da z.data.length z.dc) z.data.length (z.data.map vb)
  ks : Nodes W base (.slice z.ka lz.length z.kc) lz
def AnPost (st : Nat → Nat) (t : T) (w : World) (e : Ending) (w' : World) : Prop := ∃ z lz, e = .returned (nv z lz.length) ∧ Ok w' w'.heap.size (.mk z lz) ∧ InS (fun c => w.heap.size ≤ c) (.mk z lz) ∧ Alike st t (.mk z lz) ∧ Below w.heap.size w w' ∧ Own3 w.heap.size z lz w'
def AnotherOf (fn : Nat) (st : Nat → Nat) (top : Nat) (t : T) : Prop := ∀ w : World, top ≤ w.heap.size → Ok w top t → count t ≤ 90000 → Few t → size t ≤ 90000 →
  Calls Try.prog 61 #[val t, .func (.func fn) #[] #[]] w (AnPost st t w)
theorem flat_set7 : ∀ (ts : List T) (i : Nat) (z : Hd) (lz : List T), i < ts.length → (ts.set i (.mk z lz)).flatMap cellsT = ((((((((ts.flatMap cellsT).set (i * 7) (vb z.kind)).set (i * 7 + 1) (.slice z.na z.names.length z.nc)).set (i * 7 + 2) (.slice z.ka lz.length z.kc)).set (i * 7 + 3) (.slice z.da z.data.length z.dc)).set (i * 7 + 4) (.bool z.run)).set (i * 7 + 5) (.float .f64 z.stamp)).set (i * 7 + 6) (vs z.target))
  | .mk a la :: l, 0, z, lz, _ => rfl
  | a :: l, i + 1, z, lz, h => by
    rw [List.set_cons_succ, List.flatMap_cons, flat_set7 l i z lz (by simpa using h), List.flatMap_cons]
    have e : ∀ (m : Nat) (r : List Value) (v : Value), (cellsT a ++ r).set ((i + 1) * 7 + m) v = cellsT a ++ r.set (i * 7 + m) v := fun m r v => by
      rw [List.set_append_right _ _ (by rw [cellsT_length]; omega), cellsT_length, show (i + 1) * 7 + m - 7 = i * 7 + m by omega]
    rw [show ∀ r v, (cellsT a ++ r).set ((i + 1) * 7) v = cellsT a ++ r.set (i * 7) v from fun r v => e 0 r v, e 1, e 2, e 3, e 4, e 5, e 6]
theorem nodes_set {W : World} {base g n q : Nat} {ts : List T} (h : Nodes W base (.slice (some ⟨g, 0, none⟩) n q) ts) (hn : ts.length = n) (i : Nat) (hi : i < n) (z : Hd) (lz : List T) :
    Nodes (((((((W.setCell ⟨g, i * 7, none⟩ (vb z.kind)).setCell ⟨g, i * 7 + 1, none⟩ (.slice z.na z.names.length z.nc)).setCell ⟨g, i * 7 + 2, none⟩ (.slice z.ka lz.length z.kc)).setCell ⟨g, i * 7 + 3, none⟩ (.slice z.da z.data.length z.dc)).setCell ⟨g, i * 7 + 4, none⟩ (.bool z.run)).setCell ⟨g, i * 7 + 5, none⟩ (.float .f64 z.stamp)).setCell ⟨g, i * 7 + 6, none⟩ (vs z.target)) base (.slice (some ⟨g, 0, none⟩) n q) (ts.set i (.mk z lz)) := by
  subst hn
  have h0 := World.ownsRow.stored h (i * 7) (vb z.kind)
  have h1 := World.ownsRow.stored h0.1 (i * 7 + 1) (.slice z.na z.names.length z.nc)
  have h2 := World.ownsRow.stored h1.1 (i * 7 + 2) (.slice z.ka lz.length z.kc)
  have h3 := World.ownsRow.stored h2.1 (i * 7 + 3) (.slice z.da z.data.length z.dc)
  have h4 := World.ownsRow.stored h3.1 (i * 7 + 4) (.bool z.run)
  have h5 := World.ownsRow.stored h4.1 (i * 7 + 5) (.float .f64 z.stamp)
  have h6 := World.ownsRow.stored h5.1 (i * 7 + 6) (vs z.target)
  unfold Nodes
  rw [flat_set7 ts i z lz hi, List.length_set]
  exact h6.1
theorem set7_at_other (W : World) (g i : Nat) (z : Hd) (lz : List T) (c : Nat) (hc : c ≠ g) : ((((((((W.setCell ⟨g, i * 7, none⟩ (vb z.kind)).setCell ⟨g, i * 7 + 1, none⟩ (.slice z.na z.names.length z.nc)).setCell ⟨g, i * 7 + 2, none⟩ (.slice z.ka lz.length z.kc)).setCell ⟨g, i * 7 + 3, none⟩ (.slice z.da z.data.length z.dc)).setCell ⟨g, i * 7 + 4, none⟩ (.bool z.run)).setCell ⟨g, i * 7 + 5, none⟩ (.float .f64 z.stamp)).setCell ⟨g, i * 7 + 6, none⟩ (vs z.target))).heap[c]? = W.heap[c]? := by
  iterate 7 rw [Below.heap_setCell _ _ _ c (fun e => hc (by simpa using e))]
theorem set7_at_size (W : World) (g i : Nat) (z : Hd) (lz : List T) : ((((((((W.setCell ⟨g, i * 7, none⟩ (vb z.kind)).setCell ⟨g, i * 7 + 1, none⟩ (.slice z.na z.names.length z.nc)).setCell ⟨g, i * 7 + 2, none⟩ (.slice z.ka lz.length z.kc)).setCell ⟨g, i * 7 + 3, none⟩ (.slice z.da z.data.length z.dc)).setCell ⟨g, i * 7 + 4, none⟩ (.bool z.run)).setCell ⟨g, i * 7 + 5, none⟩ (.float .f64 z.stamp)).setCell ⟨g, i * 7 + 6, none⟩ (vs z.target))).heap.size = W.heap.size := by simp only [World.size_setCell]
theorem set7_at_below {B : Nat} {a W : World} (h : Below B a W) (g i : Nat) (hg : B ≤ g) (z : Hd) (lz : List T) : Below B a (((((((W.setCell ⟨g, i * 7, none⟩ (vb z.kind)).setCell ⟨g, i * 7 + 1, none⟩ (.slice z.na z.names.length z.nc)).setCell ⟨g, i * 7 + 2, none⟩ (.slice z.ka lz.length z.kc)).setCell ⟨g, i * 7 + 3, none⟩ (.slice z.da z.data.length z.dc)).setCell ⟨g, i * 7 + 4, none⟩ (.bool z.run)).setCell ⟨g, i * 7 + 5, none⟩ (.float .f64 z.stamp)).setCell ⟨g, i * 7 + 6, none⟩ (vs z.target)) :=
  ((((((h.setCell (by exact hg) _).setCell (by exact hg) _).setCell (by exact hg) _).setCell (by exact hg) _).setCell (by exact hg) _).setCell (by exact hg) _).setCell (by exact hg) _
structure LoopRel (w : World) (st : Nat → Nat) (x : Hd) (ks : List T) (vn vd : Value) (A : Option Addr) (q i : Nat) (done : List T) (wr : World) : Prop where
  an : An w x vn (.slice A ks.length q) vd (st x.stamp) wr
  ns : Strs wr (w.heap.size + 2) vn x.names
  ds : wr.ownsRow (w.heap.size + 2) 5 1 vd x.data.length (x.data.map vb)
  row : Nodes wr (w.heap.size + 2) (.slice A ks.length q) (done ++ ks.drop i)
  len : done.length = i
  oks : ∀ k ∈ done, Ok wr wr.heap.size k ∧ InS (fun c => w.heap.size + 2 ≤ c ∧ ∀ a, A = some a → a.block < c) k
  alike : ∀ j (h1 : j < ks.length) (h2 : j < done.length), Alike st ks[j] done[j]
  apart : ∀ a, A = some a → vn.ownBlock ≠ some a.block ∧ vd.ownBlock ≠ some a.block
theorem loop_keep {w W W' : World} {st : Nat → Nat} {x : Hd} {ks : List T} {vn vd : Value} {A : Option Addr} {q i : Nat} {done : List T} (h : LoopRel w st x ks vn vd A q i done W) (hb : Below W.heap.size W W') : LoopRel w st x ks vn vd A q i done W' :=
  ⟨h.an.keep hb, own_below h.ns hb, own_below h.ds hb, own_below h.row hb, h.len, fun k hk => ⟨((h.oks k hk).1.keep hb).up hb.size, (h.oks k hk).2⟩, h.alike, h.apart⟩
theorem row_cell {W : World} {base g n q : Nat} {ts : List T} (h : Nodes W base (.slice (some ⟨g, 0, none⟩) n q) ts) (hn : ts.length = n) (j : Nat) (hj : j < n * 7) : (∃ u, W.cell? ⟨g, j, none⟩ = some u) ∧ W.frozen? ⟨g, j, none⟩ = false := by
  subst hn
  have h1 := World.ownsRow.cellAt h j hj
  have h2 := World.ownsRow.frozenAt h j
  exact ⟨⟨_, by rw [h1, List.getElem?_eq_getElem (by rw [flat_length]; exact hj)]⟩, h2⟩
theorem loop_step {w W W1 : World} {st : Nat → Nat} {x z : Hd} {ks lz : List T} {vn vd : Value} {g q i : Nat} {done : List T} (h : LoopRel w st x ks vn vd (some ⟨g, 0, none⟩) q i done W1) (hi : i < ks.length) (hb : Below W1.heap.size W1 W)
    (hz : Ok W W.heap.size (.mk z lz)) (hin : InS (fun c => W1.heap.size ≤ c) (.mk z lz)) (hal : Alike st ks[i] (.mk z lz)) : LoopRel w st x ks vn vd (some ⟨g, 0, none⟩) q (i + 1) (done ++ [.mk z lz]) (((((((W.setCell ⟨g, i * 7, none⟩ (vb z.kind)).setCell ⟨g, i * 7 + 1, none⟩ (.slice z.na z.names.length z.nc)).setCell ⟨g, i * 7 + 2, none⟩ (.slice z.ka lz.length z.kc)).setCell ⟨g, i * 7 + 3, none⟩ (.slice z.da z.data.length z.dc)).setCell ⟨g, i * 7 + 4, none⟩ (.bool z.run)).setCell ⟨g, i * 7 + 5, none⟩ (.float .f64 z.stamp)).setCell ⟨g, i * 7 + 6, none⟩ (vs z.target)) := by
  have hlen := h.len
  have hgb := h.row.lt g rfl
  have hgw : g < W.heap.size := Nat.lt_of_lt_of_le hgb.2 hb.size
  have hoth := set7_at_other W g i z lz
  have hsz := set7_at_size W g i z lz
  have hrow : Nodes W (w.heap.size + 2) (.slice (some ⟨g, 0, none⟩) ks.length q) (done ++ ks.drop i) := own_below h.row hb
  have hl : (done ++ ks.drop i).length = ks.length := by simp; omega
  have hset := nodes_set hrow hl i hi z lz
  have hls : (done ++ ks.drop i).set i (.mk z lz) = done ++ [.mk z lz] ++ ks.drop (i + 1) := by
    rw [List.set_append_right _ _ (by omega), hlen, Nat.sub_self, List.drop_eq_getElem_cons hi, List.set_cons_zero]; simp
  rw [hls] at hset
  have han := h.an.keep hb
  have hap := h.apart ⟨g, 0, none⟩ rfl
  have hbel : Below (w.heap.size + 2) W (((((((W.setCell ⟨g, i * 7, none⟩ (vb z.kind)).setCell ⟨g, i * 7 + 1, none⟩ (.slice z.na z.names.length z.nc)).setCell ⟨g, i * 7 + 2, none⟩ (.slice z.ka lz.length z.kc)).setCell ⟨g, i * 7 + 3, none⟩ (.slice z.da z.data.length z.dc)).setCell ⟨g, i * 7 + 4, none⟩ (.bool z.run)).setCell ⟨g, i * 7 + 5, none⟩ (.float .f64 z.stamp)).setCell ⟨g, i * 7 + 6, none⟩ (vs z.target)) := set7_at_below (Below.refl _ _) g i hgb.1 z lz
  generalize (((((((W.setCell ⟨g, i * 7, none⟩ (vb z.kind)).setCell ⟨g, i * 7 + 1, none⟩ (.slice z.na z.names.length z.nc)).setCell ⟨g, i * 7 + 2, none⟩ (.slice z.ka lz.length z.kc)).setCell ⟨g, i * 7 + 3, none⟩ (.slice z.da z.data.length z.dc)).setCell ⟨g, i * 7 + 4, none⟩ (.bool z.run)).setCell ⟨g, i * 7 + 5, none⟩ (.float .f64 z.stamp)).setCell ⟨g, i * 7 + 6, none⟩ (vs z.target)) = W7 at *
  refine ⟨han.keep2 hbel, ?_, ?_, hset, by simp; omega, ?_, ?_, fun a ha => h.apart a ha⟩
  · refine World.ownsRow.kept (own_below h.ns hb) (row := some g) ⟨hbel.os, hbel.tape, hbel.output, hbel.size, fun c _ hc => hoth c (fun e => hc (by rw [e]))⟩ (.inr (fun e => hap.1 e))
  · refine World.ownsRow.kept (own_below h.ds hb) (row := some g) ⟨hbel.os, hbel.tape, hbel.output, hbel.size, fun c _ hc => hoth c (fun e => hc (by rw [e]))⟩ (.inr (fun e => hap.2 e))
  · intro k hk
    rcases List.mem_append.1 hk with e | e
    · obtain ⟨h1, h2⟩ := h.oks k e
      exact ⟨((h1.keep hb).up hb.size).turn h2 (fun c hc _ => hoth c (by have := hc.2 _ rfl; simp only at this; omega)) (fun c _ hl' => by rw [hsz]; exact hl'), h2⟩
    · obtain rfl : k = .mk z lz := by simpa using e
      exact ⟨hz.turn hin (fun c hc _ => hoth c (by omega)) (fun c _ hl' => by rw [hsz]; exact hl'), hin.mono fun c hc => ⟨by omega, fun a ha => by cases ha; show g < c; omega⟩⟩
  · intro j h1 h2
    by_cases e : j < done.length
    · rw [List.getElem_append_left e]; exact h.alike j h1 e
    · have : j = done.length := by simp at h2; omega
      subst this
      rw [List.getElem_concat_length rfl]
      have : ks[done.length] = ks[i] := by congr 1
      rw [this]; exact hal
end Go.Proofs.Ytlehgacbcacokaa
