/- Lists of Made in memory; appends within a statement that draws its order. -/
import Derived.Test.YtlehgacbcacokaaK3
import Derived.Test.YtlehgacbcacokaaMMath
import Derived.Test.YtlehgacbcacokaaW2
namespace Go.Proofs.Ytlehgacbcacokaa
open Go.RowKit TreeMath

def mdCells (m : Md) : List Value := [vb m.up, vb m.kind, vb m.name, .slice m.da m.data.length m.dc, .bool m.run, .float .f64 m.stamp]
structure MdOk (w : World) (m : Md) : Prop where
  dsrc : SrcIs w m.da m.data
  dnil : m.da = none → m.dc = 0
  dcap : m.data.length ≤ m.dc
  dlen : m.data.length ≤ maxLen
  stamp : m.stamp < 18446744073709551616
def MadesAt (w : World) (A : Option Addr) (l : List Md) : Prop := 0 < l.length → ∃ b o, A = some ⟨b, o, none⟩ ∧ b < w.heap.size ∧ ∀ i (h : i < l.length), CellsAt w b (o + i * 6) (mdCells l[i])
/-- a list of Made that came in, all of it below B -/
structure Mades (w : World) (B : Nat) (A : Option Addr) (l : List Md) : Prop where
  at_ : 0 < l.length → ∃ b o, A = some ⟨b, o, none⟩ ∧ b < B ∧ ∀ i (h : i < l.length), CellsAt w b (o + i * 6) (mdCells l[i])
  each : ∀ m ∈ l, MdOk w m
  low : ∀ m ∈ l, 0 < m.data.length → ∀ a, m.da = some a → a.block < B
  le : B ≤ w.heap.size
theorem Mades.keep {w w' : World} {B : Nat} {A : Option Addr} {l : List Md} (h : Mades w B A l) (hb : Below B w w') : Mades w' B A l := by
  refine ⟨fun h0 => ?_, fun m hm => ?_, h.low, Nat.le_trans h.le hb.size⟩
  · obtain ⟨b, o, e, hl, hc⟩ := h.at_ h0
    exact ⟨b, o, e, hl, fun i hi => (hc i hi).same (hb.block b hl)⟩
  · have := h.each m hm
    exact ⟨this.dsrc.belowB hb (h.low m hm), this.dnil, this.dcap, this.dlen, this.stamp⟩
theorem CellsAt.six {w : World} {b o : Nat} {m : Md} (h : CellsAt w b o (mdCells m)) :
    w.cell? ⟨b, o, none⟩ = some (vb m.up) ∧ w.cell? ⟨b, o + 1, none⟩ = some (vb m.kind) ∧ w.cell? ⟨b, o + 2, none⟩ = some (vb m.name) ∧ w.cell? ⟨b, o + 3, none⟩ = some (.slice m.da m.data.length m.dc) ∧
    w.cell? ⟨b, o + 4, none⟩ = some (.bool m.run) ∧ w.cell? ⟨b, o + 5, none⟩ = some (.float .f64 m.stamp) :=
  ⟨h 0 _ rfl, h 1 _ rfl, h 2 _ rfl, h 3 _ rfl, h 4 _ rfl, h 5 _ rfl⟩
theorem own_weak {w : World} {base base' : Nat} {e : TypeId} {size : Nat} {v : Value} {n : Nat} {xs : List Value} (h : w.ownsRow base' e size v n xs) (hb : base ≤ base') : w.ownsRow base e size v n xs := by
  refine ⟨h.1, h.2.imp id ?_⟩
  rintro ⟨g, cap, cur, h1, h2, h3⟩
  exact ⟨g, cap, cur, h1, by omega, h3⟩
theorem run_append_strs {W : World} {ty : TypeId} (base : Nat) (v : Value) (ls : List (List By)) (hown : Strs W base v ls) (ad : Addr) (c m : Nat) (ms : List (List By)) (hm : ms.length = m)
    (hA : ∀ j u, (ms.map vs)[j]? = some u → W.cell? (ad.add j) = some u) (hbd : ls.length + m ≤ 1000000) (hbase : base ≤ W.heap.size) :
    ∃ v' w', (Builtin.append_ #[22, 22] ty #[v, .slice (some ad) m c]).run Try.prog W = .ok v' w' ∧ Strs w' base v' (ls ++ ms) ∧ W.grownBy w' v.ownBlock := by
  obtain ⟨i0, hi, hz0, hz1, hz2⟩ := info_parts info9
  subst hm
  obtain ⟨v', w', hr, h1, h2, _⟩ := run_append_own (P := Try.prog) W base 22 ty 9 i0 (.string ⟨#[]⟩) 1 16 Try.underlying22 hi hz0 hz1 hz2 rfl (by decide) v ls.length (ls.map vs) hown ad ms.length c (ms.map vs) (by simp) hA (fun y hy => by obtain ⟨z, _, rfl⟩ := List.mem_map.1 hy; rfl) (by unfold maxLen; omega) (by omega) hbase
  exact ⟨v', w', hr, by unfold Strs; rw [List.length_append, List.map_append]; exact h1, h2⟩
theorem run_append_nodes {W : World} {ty : TypeId} (base : Nat) (v : Value) (ts : List T) (hown : Nodes W base v ts) (ad : Addr) (c m : Nat) (ls : List T) (hm : ls.length = m)
    (hA : ∀ j u, (ls.flatMap cellsT)[j]? = some u → W.cell? (ad.add j) = some u) (hbd : ts.length + m ≤ 1000000) (hbase : base ≤ W.heap.size) :
    ∃ v' w', (Builtin.append_ #[23, 23] ty #[v, .slice (some ad) m c]).run Try.prog W = .ok v' w' ∧ Nodes w' base v' (ts ++ ls) ∧ W.grownBy w' v.ownBlock := by
  obtain ⟨i0, hi, hz0, hz1, hz2⟩ := info_parts info27
  subst hm
  obtain ⟨v', w', hr, h1, h2, _⟩ := run_append_own (P := Try.prog) W base 23 ty 27 i0 (nv zero 0) 7 112 Try.underlying23 hi hz0 hz1 hz2 rfl (by decide) v ts.length (ts.flatMap cellsT) hown ad ls.length c (ls.flatMap cellsT) (flat_length ls) hA (flat_one ls) (by unfold maxLen; omega) (by omega) hbase
  exact ⟨v', w', hr, by unfold Nodes; rw [List.length_append, List.flatMap_append]; exact h1, h2⟩
theorem step_strs {W : World} {ops : Array Oper} {o : Oper} {a : Act} {K : Act → World → Prop} {Q : Exit → Act → World → Prop} {E : Prop} (hgd : o.guard = none) (s x : Operand)
    (ho : o.op = .call { callee := .builtin .append, args := #[s, x], argTypes := #[22, 22] }) (base : Nat) (v : Value) (ls : List (List By)) (hs : a.eval s = v) (hown : Strs W base v ls)
    (ad : Addr) (c m : Nat) (ms : List (List By)) (hm : ms.length = m) (hx : a.eval x = .slice (some ad) m c) (hA : ∀ j u, (ms.map vs)[j]? = some u → W.cell? (ad.add j) = some u) (hbd : ls.length + m ≤ 1000000) (hbase : base ≤ W.heap.size)
    (h : ∀ v' w', Strs w' base v' (ls ++ ms) → W.grownBy w' v.ownBlock → K (a.put o.dst v') w') : if Region.wanted o (yielded ops a.tmps) = true then Oper.wp Try.prog o a W K Q else E := by
  have hw : Region.wanted o (yielded ops a.tmps) = true := by simp [Region.wanted, hgd]
  rw [if_pos hw]
  obtain ⟨v', w', hr, h2, h3⟩ := run_append_strs (ty := o.type) base v ls hown ad c m ms hm hA hbd hbase
  unfold Oper.wp execOp
  simp only [ho, resolve, invoke, builtin, Sem.run_bind, Sem.run_pure, Result.andThen_ok, List.map_toArray, List.map_cons, List.map_nil, hs, hx, hr]
  exact h v' w' h2 h3
theorem step_nodes {W : World} {ops : Array Oper} {o : Oper} {a : Act} {K : Act → World → Prop} {Q : Exit → Act → World → Prop} {E : Prop} (hgd : o.guard = none) (s x : Operand)
    (ho : o.op = .call { callee := .builtin .append, args := #[s, x], argTypes := #[23, 23] }) (base : Nat) (v : Value) (ts : List T) (hs : a.eval s = v) (hown : Nodes W base v ts)
    (ad : Addr) (c m : Nat) (ls : List T) (hm : ls.length = m) (hx : a.eval x = .slice (some ad) m c) (hA : ∀ j u, (ls.flatMap cellsT)[j]? = some u → W.cell? (ad.add j) = some u) (hbd : ts.length + m ≤ 1000000) (hbase : base ≤ W.heap.size)
    (h : ∀ v' w', Nodes w' base v' (ts ++ ls) → W.grownBy w' v.ownBlock → K (a.put o.dst v') w') : if Region.wanted o (yielded ops a.tmps) = true then Oper.wp Try.prog o a W K Q else E := by
  have hw : Region.wanted o (yielded ops a.tmps) = true := by simp [Region.wanted, hgd]
  rw [if_pos hw]
  obtain ⟨v', w', hr, h2, h3⟩ := run_append_nodes (ty := o.type) base v ts hown ad c m ls hm hA hbd hbase
  unfold Oper.wp execOp
  simp only [ho, resolve, invoke, builtin, Sem.run_bind, Sem.run_pure, Result.andThen_ok, List.map_toArray, List.map_cons, List.map_nil, hs, hx, hr]
  exact h v' w' h2 h3
/-- what two appends come to -/
structure TwoRows (W0 : World) (base : Nat) (vn vk : Value) (names : List (List By)) (ts : List T) (w : World) : Prop where
  names : Strs w base vn names
  kids : Nodes w base vk ts
  below : Below base W0 w
theorem TwoRows.push0 {Wb w1 w2 : World} {base : Nat} {v1 vk v2 : Value} {ns : List (List By)} {ts ts' : List T} (h : TwoRows Wb base v1 vk ns ts w1) (hb : base ≤ w1.heap.size) (h2 : Nodes w2 base v2 ts') (g2 : w1.grownBy w2 vk.ownBlock) :
    TwoRows Wb base v1 v2 ns ts' w2 := ⟨h.names.kept h.kids g2, h2, h.below.grown g2 hb (fun c hc => (h.kids.lt c hc).1)⟩
theorem TwoRows.alloc {Wb w1 : World} {base : Nat} {v1 vk : Value} {ns : List (List By)} {ts : List T} (h : TwoRows Wb base v1 vk ns ts w1) (hb : base ≤ w1.heap.size) (o : Obj) : TwoRows Wb base v1 vk ns ts (w1.alloc o) :=
  ⟨h.names.alloc o, h.kids.alloc o, h.below.alloc hb o⟩
theorem TwoRows.push {Wb w1 w2 : World} {base : Nat} {v1 vk v2 : Value} {ns : List (List By)} {ts ts' : List T} (o : Obj) (h : TwoRows Wb base v1 vk ns ts w1) (hb : base ≤ w1.heap.size) (h2 : Nodes w2 base v2 ts') (g2 : (w1.alloc o).grownBy w2 vk.ownBlock) :
    TwoRows Wb base v1 v2 ns ts' w2 := (h.alloc hb o).push0 (by simp; omega) h2 g2
theorem TwoRows.below_of {Wb w1 w2 : World} {base : Nat} {v1 vk : Value} {ns : List (List By)} {ts : List T} (o : Obj) (h : TwoRows Wb base v1 vk ns ts w1) (hb : base ≤ w1.heap.size) (g2 : (w1.alloc o).grownBy w2 vk.ownBlock) : Below base w1 w2 :=
  ((Below.refl base w1).alloc hb o).grown g2 (by simp; omega) (fun c hc => (h.kids.lt c hc).1)
end Go.Proofs.Ytlehgacbcacokaa
