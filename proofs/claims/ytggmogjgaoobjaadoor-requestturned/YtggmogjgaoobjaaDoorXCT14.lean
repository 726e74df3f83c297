/- Trees by numbers: titles, where a node hangs, a kid put in its place, how many there are. No program is named. -/
import Derived.Test.YtggmogjgaoobjaaDoorXCT13
import Derived.Test.YtggmogjgaoobjaaDoorXCT9
import Derived.Test.YtggmogjgaoobjaaDoorXCT10
import Derived.Deep.RegionHeld3
import Derived.Deep.CutBlock
namespace TreeMath
open Go RealMath

def titleN (n : By) : List By := [UInt8.ofNat (97 + n.toNat % 26), UInt8.ofNat (97 + n.toNat / 26)]
set_option maxRecDepth 100000 in
theorem title_all : ∀ n, n < 256 → nameOk [UInt8.ofNat (97 + n % 26), UInt8.ofNat (97 + n / 26)] = true := by decide +kernel
set_option maxRecDepth 100000 in
theorem title_ok (n : By) : nameOk (titleN n) = true := title_all n.toNat n.toNat_lt
/-- an entry of a list -/
structure Md where
  up : By
  kind : By
  name : By
  da : Option Addr
  dc : Nat
  data : List By
  run : Bool
  stamp : Nat
set_option maxRecDepth 100000 in
theorem bl_trans : ∀ {a b c : List By}, Op.bytesLess a b = true → Op.bytesLess b c = true → Op.bytesLess a c = true
  | _, [], _, h, _ => by simp [Op.bytesLess] at h
  | _, _ :: _, [], _, h => by simp [Op.bytesLess] at h
  | [], _ :: _, _ :: _, _, _ => by simp [Op.bytesLess]
  | x :: a, y :: b, z :: c, h1, h2 => by
    simp only [Op.bytesLess, Bool.or_eq_true, Bool.and_eq_true, decide_eq_true_eq, beq_iff_eq, UInt8.lt_iff_toNat_lt] at h1 h2 ⊢
    rcases h1 with h1 | ⟨rfl, h1⟩
    · rcases h2 with h2 | ⟨rfl, h2⟩
      · left; omega
      · left; exact h1
    · rcases h2 with h2 | ⟨rfl, h2⟩
      · left; exact h2
      · right; exact ⟨rfl, bl_trans h1 h2⟩
set_option maxRecDepth 100000 in
theorem bl_total : ∀ a b : List By, (Op.bytesLess a b || a == b) = false → Op.bytesLess b a = true
  | [], [], h => by simp at h
  | [], _ :: _, h => by simp [Op.bytesLess] at h
  | _ :: _, [], _ => by simp [Op.bytesLess]
  | x :: a, y :: b, h => by
    have ih := bl_total a b
    simp only [Bool.or_eq_false_iff, Op.bytesLess, Bool.and_eq_false_iff, decide_eq_false_iff_not, beq_eq_false_iff_ne, ne_eq, List.cons.injEq, not_and] at h
    obtain ⟨⟨h1, h2⟩, h3⟩ := h
    simp only [Op.bytesLess, Bool.or_eq_true, Bool.and_eq_true, decide_eq_true_eq, beq_iff_eq]
    by_cases e : x = y
    · subst e
      right
      refine ⟨rfl, ih ?_⟩
      rcases h2 with h2 | h2
      · exact absurd rfl h2
      · rw [h2, Bool.false_or, beq_eq_false_iff_ne]; exact h3 rfl
    · left
      rw [UInt8.lt_iff_toNat_lt] at h1 ⊢
      have : x.toNat ≠ y.toNat := fun h => e (UInt8.toNat_inj.1 h)
      omega
abbrev Ent := List By × T
def leB (s q : List By) : Bool := Op.bytesLess s q || s == q
/-- a kid in its place, or in that of its name -/
def insR (s : List By) (k : T) : List Ent → List Ent
  | [] => [(s, k)]
  | p :: r => if leB s p.1 = true then (if (s == p.1) = true then (s, k) :: r else (s, k) :: p :: r) else p :: insR s k r
def Sorted (ps : List Ent) : Prop := ps.Pairwise fun p q => Op.bytesLess p.1 q.1 = true
set_option maxRecDepth 100000 in
theorem insR_mem {s : List By} {k : T} : ∀ {ps : List Ent} {q : Ent}, q ∈ insR s k ps → q = (s, k) ∨ q ∈ ps
  | [], q, h => by simp [insR] at h; exact .inl h
  | p :: r, q, h => by
    rw [insR] at h
    split at h
    · split at h
      · rcases List.mem_cons.1 h with e | e
        · exact .inl e
        · exact .inr (List.mem_cons_of_mem _ e)
      · rcases List.mem_cons.1 h with e | e
        · exact .inl e
        · exact .inr e
    · rcases List.mem_cons.1 h with e | e
      · exact .inr (by rw [e]; simp)
      · exact (insR_mem e).imp id (List.mem_cons_of_mem _)
set_option maxRecDepth 100000 in
theorem insR_sorted {s : List By} {k : T} : ∀ {ps : List Ent}, Sorted ps → Sorted (insR s k ps)
  | [], _ => by simp [insR, Sorted]
  | p :: r, h => by
    have h' := h
    unfold Sorted at h'
    rw [List.pairwise_cons] at h'
    obtain ⟨h1, h2⟩ := h'
    rw [insR]
    split
    · rename_i hle
      split
      · rename_i heq
        have e : s = p.1 := by simpa using heq
        unfold Sorted; rw [List.pairwise_cons]
        exact ⟨fun q hq => by simp only; rw [e]; exact h1 q hq, h2⟩
      · rename_i hne
        have hl : Op.bytesLess s p.1 = true := by
          unfold leB at hle
          rw [Bool.or_eq_true] at hle
          exact hle.resolve_right hne
        unfold Sorted; rw [List.pairwise_cons]
        refine ⟨fun q hq => ?_, h⟩
        rcases List.mem_cons.1 hq with e | e
        · rw [e]; exact hl
        · exact bl_trans hl (h1 q e)
    · rename_i hle
      have hl : Op.bytesLess p.1 s = true := bl_total s p.1 (by unfold leB at hle; simpa using hle)
      unfold Sorted; rw [List.pairwise_cons]
      refine ⟨fun q hq => ?_, insR_sorted h2⟩
      rcases insR_mem hq with e | e
      · rw [e]; exact hl
      · exact h1 q e
set_option maxRecDepth 100000 in
theorem insR_length (s : List By) (k : T) : ∀ ps : List Ent, (insR s k ps).length ≤ ps.length + 1
  | [] => by simp [insR]
  | p :: r => by
    rw [insR]
    split
    · split <;> simp
    · have := insR_length s k r; simp; omega
set_option maxRecDepth 100000 in
theorem insR_count (s : List By) (k : T) : ∀ ps : List Ent, (allL ((insR s k ps).map Prod.snd)).length ≤ (allL (ps.map Prod.snd)).length + count k
  | [] => by simp [insR, allL, count]
  | p :: r => by
    have ih := insR_count s k r
    rw [insR]
    unfold count at ih ⊢
    split
    · split
      · simp only [List.map_cons, allL, List.length_append]; omega
      · simp only [List.map_cons, allL, List.length_append]; omega
    · simp only [List.map_cons, allL, List.length_append]; omega
set_option maxRecDepth 100000 in
theorem namesOk_sorted {ps : List Ent} (h : Sorted ps) (hn : ∀ p ∈ ps, nameOk p.1 = true) : namesOk (ps.map Prod.fst) = true := by
  refine namesOk_true fun k hk => ?_
  have hk' : k < ps.length := by simpa using hk
  by_cases h0 : 0 < k
  · rw [goodAt_pos _ k h0 hk, List.getElem_map, List.getElem_map, hn _ (List.getElem_mem _), Bool.true_and]
    exact List.pairwise_iff_getElem.1 h (k - 1) k (by omega) hk' (by omega)
  · have e : k = 0 := by omega
    subst e
    rw [goodAt_zero _ hk, List.getElem_map]
    exact hn _ (List.getElem_mem _)
/-- what is above -/
inductive Under (par : Nat → Nat) (a : Nat) : Nat → Prop
  | self : Under par a a
  | up (j : Nat) (h : a < j) (hu : Under par a (par j)) : Under par a j
set_option maxRecDepth 100000 in
theorem Under.le {par : Nat → Nat} {a j : Nat} (h : Under par a j) : a ≤ j := by
  cases h with
  | self => exact Nat.le_refl _
  | up _ h _ => omega
set_option maxRecDepth 100000 in
theorem Under.lin {par : Nat → Nat} {a b j : Nat} (h : Under par a j) (k : Under par b j) : Under par a b ∨ Under par b a := by
  induction h with
  | self => exact .inr k
  | up j hj hu ih =>
    cases k with
    | self => exact .inl (.up _ hj hu)
    | up _ hb hk => exact ih hk
set_option maxRecDepth 100000 in
theorem Under.trans {par : Nat → Nat} {a c j : Nat} (h : Under par c j) (k : Under par a c) : Under par a j := by
  induction h with
  | self => exact k
  | up j hj hu ih => exact .up j (by have := k.le; omega) ih
set_option maxRecDepth 100000 in
theorem Under.apart {par : Nat → Nat} {a c d j : Nat} (hc : Under par c j) (hd : Under par d j) (h1 : par c = a) (h2 : par d = a) (g1 : a < c) (g2 : a < d) : c = d := by
  have key : ∀ {c d : Nat}, par c = a → par d = a → a < c → a < d → Under par c d → c = d := fun h1 h2 g1 g2 h => by
    cases h with
    | self => rfl
    | up _ _ hu => rw [h2] at hu; have := hu.le; omega
  rcases hc.lin hd with h | h
  · exact key h1 h2 g1 g2 h
  · exact (key h2 h1 g2 g1 h).symm
set_option maxRecDepth 100000 in
theorem countP_two {p q r : Nat → Bool} (l : List Nat) (h1 : ∀ j ∈ l, p j = true → q j = false) (h2 : ∀ j ∈ l, p j = true ∨ q j = true → r j = true) : l.countP p + l.countP q ≤ l.countP r := by
  induction l with
  | nil => simp
  | cons a l ih =>
    have ih := ih (fun j hj => h1 j (by simp [hj])) (fun j hj => h2 j (by simp [hj]))
    have a1 := h1 a (by simp); have a2 := h2 a (by simp)
    rw [List.countP_cons, List.countP_cons, List.countP_cons]
    cases hp : p a <;> cases hq : q a <;> cases hr : r a <;> simp_all <;> omega
open Classical in
noncomputable def cnt (par : Nat → Nat) (n a : Nat) : Nat := (List.range n).countP fun j => decide (Under par a j)
open Classical in
noncomputable def below (par : Nat → Nat) (n a i : Nat) : Nat := (List.range n).countP fun j => decide (∃ c, a < c ∧ c < i ∧ par c = a ∧ Under par c j)
set_option maxRecDepth 100000 in
open Classical in
theorem cnt_le (par : Nat → Nat) (n a : Nat) : cnt par n a ≤ n := by
  unfold cnt; have := List.countP_le_length (p := fun j => decide (Under par a j)) (l := List.range n); simpa using this
set_option maxRecDepth 100000 in
open Classical in
theorem below_step (par : Nat → Nat) (n a i : Nat) (h : par i = a) (hi : a < i) : below par n a i + cnt par n i ≤ below par n a (i + 1) := by
  unfold below cnt
  refine countP_two _ ?_ ?_
  · intro j _ hp
    obtain ⟨c, h1, h2, h3, h4⟩ := of_decide_eq_true hp
    refine decide_eq_false fun hu => ?_
    have := Under.apart h4 hu h3 h h1 hi
    omega
  · intro j _ hp
    rcases hp with hp | hp
    · obtain ⟨c, h1, h2, h3, h4⟩ := of_decide_eq_true hp
      exact decide_eq_true ⟨c, h1, by omega, h3, h4⟩
    · exact decide_eq_true ⟨i, hi, by omega, h, of_decide_eq_true hp⟩
set_option maxRecDepth 100000 in
open Classical in
theorem below_mono (par : Nat → Nat) (n a i : Nat) : below par n a i ≤ below par n a (i + 1) := by
  unfold below
  refine List.countP_mono_left fun j _ hp => ?_
  obtain ⟨c, h1, h2, h3, h4⟩ := of_decide_eq_true hp
  exact decide_eq_true ⟨c, h1, by omega, h3, h4⟩
set_option maxRecDepth 100000 in
open Classical in
theorem below_cnt (par : Nat → Nat) (n a i : Nat) (ha : a < n) : below par n a i + 1 ≤ cnt par n a := by
  have h1 : 1 ≤ (List.range n).countP fun j => decide (j = a) := List.countP_pos_iff.2 ⟨a, List.mem_range.2 ha, by simp⟩
  have h2 := countP_two (p := fun j => decide (∃ c, a < c ∧ c < i ∧ par c = a ∧ Under par c j)) (q := fun j => decide (j = a)) (r := fun j => decide (Under par a j)) (List.range n) ?_ ?_
  · unfold below cnt; omega
  · intro j _ hp
    obtain ⟨c, g1, g2, g3, g4⟩ := of_decide_eq_true hp
    refine decide_eq_false fun e => ?_
    subst e
    have := g4.le; omega
  · intro j _ hp
    rcases hp with hp | hp
    · obtain ⟨c, g1, g2, g3, g4⟩ := of_decide_eq_true hp
      refine decide_eq_true (g4.trans (.up c g1 ?_))
      rw [g3]; exact .self
    · have := of_decide_eq_true hp
      subst this
      exact decide_eq_true .self
/-- where the node at a place hangs -/
def parOf (l : List Md) (i : Nat) : Nat := ((l[i]?.map fun m => m.up.toNat).getD 0) % i
def eraseP (p : Ent) : Ent := (p.1, erase p.2)
set_option maxRecDepth 100000 in
theorem insR_erase (s : List By) (k : T) : ∀ ps : List Ent, (insR s k ps).map eraseP = insR s (erase k) (ps.map eraseP)
  | [] => rfl
  | p :: r => by
    rw [insR, List.map_cons, insR]
    by_cases h1 : leB s p.1 = true
    · rw [if_pos h1, if_pos (show leB s (eraseP p).1 = true from h1)]
      by_cases h2 : (s == p.1) = true
      · rw [if_pos h2, if_pos (show (s == (eraseP p).1) = true from h2)]; rfl
      · rw [if_neg h2, if_neg (show ¬ (s == (eraseP p).1) = true from h2)]; rfl
    · rw [if_neg h1, if_neg (show ¬ leB s (eraseP p).1 = true from h1), List.map_cons, insR_erase s k r]
/-- the entries of the directory at a place, of those ahead of i -/
def entT (l : List Md) (node : Nat → T) (at_ : Nat) : Nat → List Ent
  | 0 => []
  | i + 1 => if at_ < i ∧ parOf l i = at_ then insR (titleN ((l[i]?.map fun m => m.name).getD 0)) (node i) (entT l node at_ i) else entT l node at_ i
set_option maxRecDepth 100000 in
theorem entT_start (l : List Md) (node : Nat → T) (at_ : Nat) : ∀ i, i ≤ at_ + 1 → entT l node at_ i = []
  | 0, _ => rfl
  | i + 1, h => by rw [entT, if_neg (by omega), entT_start l node at_ i (by omega)]
/-- a file, or a link, of an entry -/
def leafE (x : Md) : T := if x.kind.toNat % 4 = 3 then .mk (linkE (116 :: x.data)) [] else .mk (fileE x.data x.run x.stamp) []
/-- the tree at a place, with so many levels left -/
def kidsT (l : List Md) : Nat → Nat → T
  | 0, at_ => match l[at_]? with
    | none => zeroT
    | some x => leafE x
  | m + 1, at_ => match l[at_]? with
    | none => zeroT
    | some x => if 0 < x.kind.toNat % 4 then leafE x else .mk (dirE ((entT l (kidsT l m) at_ l.length).map Prod.fst)) ((entT l (kidsT l m) at_ l.length).map Prod.snd)
set_option maxRecDepth 100000 in
theorem kidsT_leaf {l : List Md} {at_ m : Nat} (h : at_ < l.length) (hk : 0 < l[at_].kind.toNat % 4 ∨ m = 0) : kidsT l m at_ = leafE l[at_] := by
  cases m with
  | zero => rw [kidsT, List.getElem?_eq_getElem h]
  | succ m =>
    rw [kidsT, List.getElem?_eq_getElem h]
    simp only
    rw [if_pos (by rcases hk with e | e; exact e; cases e)]
set_option maxRecDepth 100000 in
theorem kidsT_dir {l : List Md} {at_ m : Nat} (h : at_ < l.length) (hk : l[at_].kind.toNat % 4 = 0) : kidsT l (m + 1) at_ = .mk (dirE ((entT l (kidsT l m) at_ l.length).map Prod.fst)) ((entT l (kidsT l m) at_ l.length).map Prod.snd) := by
  rw [kidsT, List.getElem?_eq_getElem h]
  simp only
  rw [if_neg (by omega)]
/-- the tree of a list -/
def makeT (l : List Md) : T := if l.length = 0 then .mk (fileE [] false 0) [] else kidsT (l.take 40) 7 0
/-- a tree that was made so -/
structure MadeT (l : List Md) (at_ deep : Nat) (t : T) : Prop where
  fits : (all t).all fitsB = true
  depth : depth t + deep ≤ 9
  count : count t ≤ cnt (parOf l) l.length at_
  eq : erase t = kidsT l (8 - deep) at_
end TreeMath

/- Lists of Made in memory; appends within a statement that draws its order. -/
namespace Go.Proofs.YtggmogjgaoobjaaDoor
open Go.RowKit TreeMath

def mdCells (m : Md) : List Value := [vb m.up, vb m.kind, vb m.name, .slice m.da m.data.length m.dc, .bool m.run, .float .f64 m.stamp]
structure MdOk (w : World) (m : Md) : Prop where
  dsrc : SrcIs w m.da m.data
  dnil : m.da = none → m.dc = 0
  dcap : m.data.length ≤ m.dc
  dlen : m.data.length ≤ maxLen
  stamp : m.stamp < 18446744073709551616
def MadesAt (w : World) (A : Option Addr) (l : List Md) : Prop := 0 < l.length → ∃ b o, A = some ⟨b, o, none⟩ ∧ b < w.heap.size ∧ ∀ i (h : i < l.length), CellsAt w b (o + i * 6) (mdCells l[i])
/-- a list of Made that came in, all of it below B -/
structure Mades (w : World) (B : Nat) (A : Option Addr) (l : List Md) : Prop where
  at_ : 0 < l.length → ∃ b o, A = some ⟨b, o, none⟩ ∧ b < B ∧ ∀ i (h : i < l.length), CellsAt w b (o + i * 6) (mdCells l[i])
  each : ∀ m ∈ l, MdOk w m
  low : ∀ m ∈ l, 0 < m.data.length → ∀ a, m.da = some a → a.block < B
  le : B ≤ w.heap.size
set_option maxRecDepth 100000 in
theorem Mades.keep {w w' : World} {B : Nat} {A : Option Addr} {l : List Md} (h : Mades w B A l) (hb : Below B w w') : Mades w' B A l := by
  refine ⟨fun h0 => ?_, fun m hm => ?_, h.low, Nat.le_trans h.le hb.size⟩
  · obtain ⟨b, o, e, hl, hc⟩ := h.at_ h0
    exact ⟨b, o, e, hl, fun i hi => (hc i hi).same (hb.block b hl)⟩
  · have := h.each m hm
    exact ⟨this.dsrc.belowB hb (h.low m hm), this.dnil, this.dcap, this.dlen, this.stamp⟩
set_option maxRecDepth 100000 in
theorem CellsAt.six {w : World} {b o : Nat} {m : Md} (h : CellsAt w b o (mdCells m)) :
    w.cell? ⟨b, o, none⟩ = some (vb m.up) ∧ w.cell? ⟨b, o + 1, none⟩ = some (vb m.kind) ∧ w.cell? ⟨b, o + 2, none⟩ = some (vb m.name) ∧ w.cell? ⟨b, o + 3, none⟩ = some (.slice m.da m.data.length m.dc) ∧
    w.cell? ⟨b, o + 4, none⟩ = some (.bool m.run) ∧ w.cell? ⟨b, o + 5, none⟩ = some (.float .f64 m.stamp) :=
  ⟨h 0 _ rfl, h 1 _ rfl, h 2 _ rfl, h 3 _ rfl, h 4 _ rfl, h 5 _ rfl⟩
set_option maxRecDepth 100000 in
theorem own_weak {w : World} {base base' : Nat} {e : TypeId} {size : Nat} {v : Value} {n : Nat} {xs : List Value} (h : w.ownsRow base' e size v n xs) (hb : base ≤ base') : w.ownsRow base e size v n xs := by
  refine ⟨h.1, h.2.imp id ?_⟩
  rintro ⟨g, cap, cur, h1, h2, h3⟩
  exact ⟨g, cap, cur, h1, by omega, h3⟩
set_option maxRecDepth 100000 in
theorem run_append_strs {W : World} {ty : TypeId} (base : Nat) (v : Value) (ls : List (List By)) (hown : Strs W base v ls) (ad : Addr) (c m : Nat) (ms : List (List By)) (hm : ms.length = m)
    (hA : ∀ j u, (ms.map vs)[j]? = some u → W.cell? (ad.add j) = some u) (hbd : ls.length + m ≤ 1000000) (hbase : base ≤ W.heap.size) :
    ∃ v' w', (Builtin.append_ #[32, 32] ty #[v, .slice (some ad) m c]).run Tryd.prog W = .ok v' w' ∧ Strs w' base v' (ls ++ ms) ∧ W.grownBy w' v.ownBlock := by
  obtain ⟨i0, hi, hz0, hz1, hz2⟩ := info_parts info9
  subst hm
  obtain ⟨v', w', hr, h1, h2, _⟩ := run_append_own (P := Tryd.prog) W base 32 ty 9 i0 (.string ⟨#[]⟩) 1 16 Tryd.underlying32 hi hz0 hz1 hz2 rfl (by decide) v ls.length (ls.map vs) hown ad ms.length c (ms.map vs) (by simp) hA (fun y hy => by obtain ⟨z, _, rfl⟩ := List.mem_map.1 hy; rfl) (by unfold maxLen; omega) (by omega) hbase
  exact ⟨v', w', hr, by unfold Strs; rw [List.length_append, List.map_append]; exact h1, h2⟩
set_option maxRecDepth 100000 in
theorem run_append_nodes {W : World} {ty : TypeId} (base : Nat) (v : Value) (ts : List T) (hown : Nodes W base v ts) (ad : Addr) (c m : Nat) (ls : List T) (hm : ls.length = m)
    (hA : ∀ j u, (ls.flatMap cellsT)[j]? = some u → W.cell? (ad.add j) = some u) (hbd : ts.length + m ≤ 1000000) (hbase : base ≤ W.heap.size) :
    ∃ v' w', (Builtin.append_ #[78, 78] ty #[v, .slice (some ad) m c]).run Tryd.prog W = .ok v' w' ∧ Nodes w' base v' (ts ++ ls) ∧ W.grownBy w' v.ownBlock := by
  obtain ⟨i0, hi, hz0, hz1, hz2⟩ := info_parts info27
  subst hm
  obtain ⟨v', w', hr, h1, h2, _⟩ := run_append_own (P := Tryd.prog) W base 78 ty 80 i0 (nv zero 0) 7 112 Tryd.underlying78 hi hz0 hz1 hz2 rfl (by decide) v ts.length (ts.flatMap cellsT) hown ad ls.length c (ls.flatMap cellsT) (flat_length ls) hA (flat_one ls) (by unfold maxLen; omega) (by omega) hbase
  exact ⟨v', w', hr, by unfold Nodes; rw [List.length_append, List.flatMap_append]; exact h1, h2⟩
set_option maxRecDepth 100000 in
theorem step_strs {W : World} {ops : Array Oper} {o : Oper} {a : Act} {K : Act → World → Prop} {Q : Exit → Act → World → Prop} {E : Prop} (hgd : o.guard = none) (s x : Operand)
    (ho : o.op = .call { callee := .builtin .append, args := #[s, x], argTypes := #[32, 32] }) (base : Nat) (v : Value) (ls : List (List By)) (hs : a.eval s = v) (hown : Strs W base v ls)
    (ad : Addr) (c m : Nat) (ms : List (List By)) (hm : ms.length = m) (hx : a.eval x = .slice (some ad) m c) (hA : ∀ j u, (ms.map vs)[j]? = some u → W.cell? (ad.add j) = some u) (hbd : ls.length + m ≤ 1000000) (hbase : base ≤ W.heap.size)
    (h : ∀ v' w', Strs w' base v' (ls ++ ms) → W.grownBy w' v.ownBlock → K (a.put o.dst v') w') : if Region.wanted o (yielded ops a.tmps) = true then Oper.wp Tryd.prog o a W K Q else E := by
  have hw : Region.wanted o (yielded ops a.tmps) = true := by simp [Region.wanted, hgd]
  rw [if_pos hw]
  obtain ⟨v', w', hr, h2, h3⟩ := run_append_strs (ty := o.type) base v ls hown ad c m ms hm hA hbd hbase
  unfold Oper.wp execOp
  simp only [ho, resolve, invoke, builtin, Sem.run_bind, Sem.run_pure, Result.andThen_ok, List.map_toArray, List.map_cons, List.map_nil, hs, hx, hr]
  exact h v' w' h2 h3
set_option maxRecDepth 100000 in
theorem step_nodes {W : World} {ops : Array Oper} {o : Oper} {a : Act} {K : Act → World → Prop} {Q : Exit → Act → World → Prop} {E : Prop} (hgd : o.guard = none) (s x : Operand)
    (ho : o.op = .call { callee := .builtin .append, args := #[s, x], argTypes := #[78, 78] }) (base : Nat) (v : Value) (ts : List T) (hs : a.eval s = v) (hown : Nodes W base v ts)
    (ad : Addr) (c m : Nat) (ls : List T) (hm : ls.length = m) (hx : a.eval x = .slice (some ad) m c) (hA : ∀ j u, (ls.flatMap cellsT)[j]? = some u → W.cell? (ad.add j) = some u) (hbd : ts.length + m ≤ 1000000) (hbase : base ≤ W.heap.size)
    (h : ∀ v' w', Nodes w' base v' (ts ++ ls) → W.grownBy w' v.ownBlock → K (a.put o.dst v') w') : if Region.wanted o (yielded ops a.tmps) = true then Oper.wp Tryd.prog o a W K Q else E := by
  have hw : Region.wanted o (yielded ops a.tmps) = true := by simp [Region.wanted, hgd]
  rw [if_pos hw]
  obtain ⟨v', w', hr, h2, h3⟩ := run_append_nodes (ty := o.type) base v ts hown ad c m ls hm hA hbd hbase
  unfold Oper.wp execOp
  simp only [ho, resolve, invoke, builtin, Sem.run_bind, Sem.run_pure, Result.andThen_ok, List.map_toArray, List.map_cons, List.map_nil, hs, hx, hr]
  exact h v' w' h2 h3
/-- what two appends come to -/
structure TwoRows (W0 : World) (base : Nat) (vn vk : Value) (names : List (List By)) (ts : List T) (w : World) : Prop where
  names : Strs w base vn names
  kids : Nodes w base vk ts
  below : Below base W0 w
set_option maxRecDepth 100000 in
theorem TwoRows.push0 {Wb w1 w2 : World} {base : Nat} {v1 vk v2 : Value} {ns : List (List By)} {ts ts' : List T} (h : TwoRows Wb base v1 vk ns ts w1) (hb : base ≤ w1.heap.size) (h2 : Nodes w2 base v2 ts') (g2 : w1.grownBy w2 vk.ownBlock) :
    TwoRows Wb base v1 v2 ns ts' w2 := ⟨h.names.kept h.kids g2, h2, h.below.grown g2 hb (fun c hc => (h.kids.lt c hc).1)⟩
set_option maxRecDepth 100000 in
theorem TwoRows.alloc {Wb w1 : World} {base : Nat} {v1 vk : Value} {ns : List (List By)} {ts : List T} (h : TwoRows Wb base v1 vk ns ts w1) (hb : base ≤ w1.heap.size) (o : Obj) : TwoRows Wb base v1 vk ns ts (w1.alloc o) :=
  ⟨h.names.alloc o, h.kids.alloc o, h.below.alloc hb o⟩
set_option maxRecDepth 100000 in
theorem TwoRows.push {Wb w1 w2 : World} {base : Nat} {v1 vk v2 : Value} {ns : List (List By)} {ts ts' : List T} (o : Obj) (h : TwoRows Wb base v1 vk ns ts w1) (hb : base ≤ w1.heap.size) (h2 : Nodes w2 base v2 ts') (g2 : (w1.alloc o).grownBy w2 vk.ownBlock) :
    TwoRows Wb base v1 v2 ns ts' w2 := (h.alloc hb o).push0 (by simp; omega) h2 g2
set_option maxRecDepth 100000 in
theorem TwoRows.below_of {Wb w1 w2 : World} {base : Nat} {v1 vk : Value} {ns : List (List By)} {ts : List T} (o : Obj) (h : TwoRows Wb base v1 vk ns ts w1) (hb : base ≤ w1.heap.size) (g2 : (w1.alloc o).grownBy w2 vk.ownBlock) : Below base w1 w2 :=
  ((Below.refl base w1).alloc hb o).grown g2 (by simp; omega) (fun c hc => (h.kids.lt c hc).1)
end Go.Proofs.YtggmogjgaoobjaaDoor

/- The reference's kids: a new entry, put ahead of a greater one. -/
namespace Go.Proofs.YtggmogjgaoobjaaDoor
open Go.RowKit TreeMath RealMath

set_option maxHeartbeats 8000000 in
set_option maxRecDepth 100000 in
theorem reg19 {x0 x1 x2 x3 x4 x5 x6 x7 x8 x9 x14 x15 x16 x17 x18 x19 x20 x21 x22 x23 x24 x25 x26 x27 x28 x29 x30 x31 x32 x33 x34 x35 x36 x37 x38 x39 x40 x41 x42 x43 x44 x45 x46 x47 x48 x49 x50 x51 x52 x53 x54 x55 x56 x57 x58 x59 x60 x61 x62 x63 x64 x65 x66 x67 x68 x69 x70 x71 x72 x73 x74 x75 x76 x77 x78 x79 x80 x81 x82 x83 x84 x85 x86 x87 x88 x89 x90 x91 x92 x93 x94 x95 x96 x97 x98 x99 x100 x101 x102 x103 x104 x105 x106 x107 x108 x109 x110 x111 x112 x113 x114 x115 x116 x117 x118 x119 x120 x121 x122 x123 x124 x125 x126 x127 x128 x129 x130 x131 x132 x133 x134 x135 x136 x137 : Value} (gk base : Nat) (s : List By) (y : Hd) (ly : List T) (vn vk : Value) (names : List (List By)) (ts : List T) (Wb W0 : World) (Q : Exit → Act → World → Prop)
    (hbox : Blk W0 gk 80 (cellsT (.mk y ly))) (hgk : gk < base) (h : TwoRows Wb base vn vk names ts W0) (hb0 : base ≤ W0.heap.size) (hn1 : names.length ≤ 1000) (hn2 : ts.length ≤ 1000)
    (hQ : ∀ {y92 y93 y94 y95 y96 y97 y98 y99 : Value} (v1 v2 : Value) (w' : World), TwoRows Wb base v1 v2 (names ++ [s]) (ts ++ [.mk y ly]) w' → Q .normal { tmps := List.toArray (x0 :: x1 :: x2 :: x3 :: x4 :: x5 :: x6 :: x7 :: x8 :: x9 :: (vs s) :: (.pointer (some ⟨gk, 0, none⟩)) :: v1 :: v2 :: x14 :: x15 :: x16 :: x17 :: x18 :: x19 :: x20 :: x21 :: x22 :: x23 :: x24 :: x25 :: x26 :: x27 :: x28 :: x29 :: x30 :: x31 :: x32 :: x33 :: x34 :: x35 :: x36 :: x37 :: x38 :: x39 :: x40 :: x41 :: x42 :: x43 :: x44 :: x45 :: x46 :: x47 :: x48 :: x49 :: x50 :: x51 :: x52 :: x53 :: x54 :: x55 :: x56 :: x57 :: x58 :: x59 :: x60 :: x61 :: x62 :: x63 :: x64 :: x65 :: x66 :: x67 :: x68 :: x69 :: x70 :: x71 :: x72 :: x73 :: x74 :: x75 :: x76 :: x77 :: x78 :: x79 :: x80 :: x81 :: x82 :: x83 :: x84 :: x85 :: x86 :: x87 :: x88 :: x89 :: x90 :: x91 :: y92 :: y93 :: y94 :: y95 :: y96 :: y97 :: y98 :: y99 :: x100 :: x101 :: x102 :: x103 :: x104 :: x105 :: x106 :: x107 :: x108 :: x109 :: x110 :: x111 :: x112 :: x113 :: x114 :: x115 :: x116 :: x117 :: x118 :: x119 :: x120 :: x121 :: x122 :: x123 :: x124 :: x125 :: x126 :: x127 :: x128 :: x129 :: x130 :: x131 :: x132 :: x133 :: x134 :: x135 :: x136 :: x137 :: []), defers := [] } w') :
    Code.wp Tryd.prog (cLeft (cThen (cRight (cLeft (cIn (cLeft (cRight (cIn (cIn (cRight (cLeft (cRight (cRight (cRight (cRight (cRight (cIn (cLeft (cRight (cIn (cIn (cRight (cLeft (cRight (cRight (cRight (cRight (cRight (Tryd.f98.body.getD .skip))))))))))))))))))))))))))))) Q { tmps := List.toArray (x0 :: x1 :: x2 :: x3 :: x4 :: x5 :: x6 :: x7 :: x8 :: x9 :: (vs s) :: (.pointer (some ⟨gk, 0, none⟩)) :: vn :: vk :: x14 :: x15 :: x16 :: x17 :: x18 :: x19 :: x20 :: x21 :: x22 :: x23 :: x24 :: x25 :: x26 :: x27 :: x28 :: x29 :: x30 :: x31 :: x32 :: x33 :: x34 :: x35 :: x36 :: x37 :: x38 :: x39 :: x40 :: x41 :: x42 :: x43 :: x44 :: x45 :: x46 :: x47 :: x48 :: x49 :: x50 :: x51 :: x52 :: x53 :: x54 :: x55 :: x56 :: x57 :: x58 :: x59 :: x60 :: x61 :: x62 :: x63 :: x64 :: x65 :: x66 :: x67 :: x68 :: x69 :: x70 :: x71 :: x72 :: x73 :: x74 :: x75 :: x76 :: x77 :: x78 :: x79 :: x80 :: x81 :: x82 :: x83 :: x84 :: x85 :: x86 :: x87 :: x88 :: x89 :: x90 :: x91 :: x92 :: x93 :: x94 :: x95 :: x96 :: x97 :: x98 :: x99 :: x100 :: x101 :: x102 :: x103 :: x104 :: x105 :: x106 :: x107 :: x108 :: x109 :: x110 :: x111 :: x112 :: x113 :: x114 :: x115 :: x116 :: x117 :: x118 :: x119 :: x120 :: x121 :: x122 :: x123 :: x124 :: x125 :: x126 :: x127 :: x128 :: x129 :: x130 :: x131 :: x132 :: x133 :: x134 :: x135 :: x136 :: x137 :: []), defers := [] } W0 := by
  have HBOX := Lib.hid hbox; have H := Lib.hid h
  clear hbox h
  have HCELL : Hid (∀ W, Below base W0 W → W.cell? ⟨gk, 0, none⟩ = some (vb y.kind) ∧ W.cell? ⟨gk, 1, none⟩ = some (.slice y.na y.names.length y.nc) ∧ W.cell? ⟨gk, 2, none⟩ = some (.slice y.ka ly.length y.kc) ∧ W.cell? ⟨gk, 3, none⟩ = some (.slice y.da y.data.length y.dc) ∧ W.cell? ⟨gk, 4, none⟩ = some (.bool y.run) ∧ W.cell? ⟨gk, 5, none⟩ = some (.float .f64 y.stamp) ∧ W.cell? ⟨gk, 6, none⟩ = some (vs y.target)) := fun W hW => by
    have hk := HBOX.out.below hW hgk
    exact ⟨hk.cell 0, hk.cell 1, hk.cell 2, hk.cell 3, hk.cell 4, hk.cell 5, hk.cell 6⟩
  have HS0 : Hid (Strs W0 base vn names) := H.out.names
  have HN0 : Hid (Nodes W0 base vk ts) := H.out.kids
  have HB0 : Hid (Below base W0 W0) := Below.refl _ _
  have k0 := HCELL.out _ HB0.out.drew
  have ka := HCELL.out _ (HB0.out.alloc hb0 (.cells #[vs s] 9)).drew
  have kb := HCELL.out _ (HB0.out.alloc hb0 (.cells #[vb y.kind, .slice y.na y.names.length y.nc, .slice y.ka ly.length y.kc, .slice y.da y.data.length y.dc, .bool y.run, .float .f64 y.stamp, vs y.target] 80)).drew
  have kc := HCELL.out _ ((HB0.out.alloc hb0 (.cells #[vs s] 9)).alloc (by simp; omega) (.cells #[vb y.kind, .slice y.na y.names.length y.nc, .slice y.ka ly.length y.kc, .slice y.da y.data.length y.dc, .bool y.run, .float .f64 y.stamp, vs y.target] 80)).drew
  have kd := HCELL.out _ ((HB0.out.alloc hb0 (.cells #[vb y.kind, .slice y.na y.names.length y.nc, .slice y.ka ly.length y.kc, .slice y.da y.data.length y.dc, .bool y.run, .float .f64 y.stamp, vs y.target] 80)).alloc (by simp; omega) (.cells #[vs s] 9)).drew
  have HBB := Lib.hid H.out.below
  clear H
  have HCA : Hid (∀ (W : World) j u, ([s].map vs)[j]? = some u → (W.alloc (.cells #[vs s] 9)).cell? ((⟨W.heap.size, 0, none⟩ : Addr).add j) = some u) := fun W j u hj => by
    rw [Addr.add_mid, Nat.zero_add, (Blk.new W 9 #[vs s]).cell]; exact hj
  have HCB : Hid (∀ (W : World) j u, ([T.mk y ly].flatMap cellsT)[j]? = some u → (W.alloc (.cells #[vb y.kind, .slice y.na y.names.length y.nc, .slice y.ka ly.length y.kc, .slice y.da y.data.length y.dc, .bool y.run, .float .f64 y.stamp, vs y.target] 80)).cell? ((⟨W.heap.size, 0, none⟩ : Addr).add j) = some u) := fun W j u hj => by
    rw [Addr.add_mid, Nat.zero_add, (Blk.new W 80 #[vb y.kind, .slice y.na y.names.length y.nc, .slice y.ka ly.length y.kc, .slice y.da y.data.length y.dc, .bool y.run, .float .f64 y.stamp, vs y.target]).cell]; exact hj
  dsimp only [Tryd.f98, cRight, cLeft, cIn, cThen, Option.getD]
  have A1 : Hid (Strs (W0.alloc (.cells #[vs s] 9)).drew base vn names) := HS0.out.alloc (.cells #[vs s] 9)
  have A2 : Hid (∀ j u, ([s].map vs)[j]? = some u → (W0.alloc (.cells #[vs s] 9)).drew.cell? ((⟨W0.heap.size, 0, none⟩ : Addr).add j) = some u) := HCA.out W0
  have B1 : Hid (Strs ((W0.alloc (.cells #[vs s] 9)).alloc (.cells #[vb y.kind, .slice y.na y.names.length y.nc, .slice y.ka ly.length y.kc, .slice y.da y.data.length y.dc, .bool y.run, .float .f64 y.stamp, vs y.target] 80)).drew base vn names) := (HS0.out.alloc (.cells #[vs s] 9)).alloc (.cells #[vb y.kind, .slice y.na y.names.length y.nc, .slice y.ka ly.length y.kc, .slice y.da y.data.length y.dc, .bool y.run, .float .f64 y.stamp, vs y.target] 80)
  have B2 : Hid (∀ j u, ([s].map vs)[j]? = some u → ((W0.alloc (.cells #[vs s] 9)).alloc (.cells #[vb y.kind, .slice y.na y.names.length y.nc, .slice y.ka ly.length y.kc, .slice y.da y.data.length y.dc, .bool y.run, .float .f64 y.stamp, vs y.target] 80)).drew.cell? ((⟨W0.heap.size, 0, none⟩ : Addr).add j) = some u) := fun j u hj => by
    have := ((Blk.new W0 9 #[vs s]).alloc (.cells #[vb y.kind, .slice y.na y.names.length y.nc, .slice y.ka ly.length y.kc, .slice y.da y.data.length y.dc, .bool y.run, .float .f64 y.stamp, vs y.target] 80)).drew
    rw [Addr.add_mid, Nat.zero_add, this.cell]; exact hj
  have C1 : Hid (Strs ((W0.alloc (.cells #[vb y.kind, .slice y.na y.names.length y.nc, .slice y.ka ly.length y.kc, .slice y.da y.data.length y.dc, .bool y.run, .float .f64 y.stamp, vs y.target] 80)).alloc (.cells #[vs s] 9)).drew base vn names) := (HS0.out.alloc (.cells #[vb y.kind, .slice y.na y.names.length y.nc, .slice y.ka ly.length y.kc, .slice y.da y.data.length y.dc, .bool y.run, .float .f64 y.stamp, vs y.target] 80)).alloc (.cells #[vs s] 9)
  have C2 : Hid (∀ j u, ([s].map vs)[j]? = some u → ((W0.alloc (.cells #[vb y.kind, .slice y.na y.names.length y.nc, .slice y.ka ly.length y.kc, .slice y.da y.data.length y.dc, .bool y.run, .float .f64 y.stamp, vs y.target] 80)).alloc (.cells #[vs s] 9)).drew.cell? ((⟨W0.heap.size + 1, 0, none⟩ : Addr).add j) = some u) := fun j u hj => by
    have := HCA.out (W0.alloc (.cells #[vb y.kind, .slice y.na y.names.length y.nc, .slice y.ka ly.length y.kc, .slice y.da y.data.length y.dc, .bool y.run, .float .f64 y.stamp, vs y.target] 80)) j u hj
    rw [World.size_alloc] at this; exact this
  go_region_held3 (fun W => W.cell? ⟨gk, 0, none⟩ = some (vb y.kind) ∧ W.cell? ⟨gk, 1, none⟩ = some (.slice y.na y.names.length y.nc) ∧ W.cell? ⟨gk, 2, none⟩ = some (.slice y.ka ly.length y.kc) ∧ W.cell? ⟨gk, 3, none⟩ = some (.slice y.da y.data.length y.dc) ∧ W.cell? ⟨gk, 4, none⟩ = some (.bool y.run) ∧ W.cell? ⟨gk, 5, none⟩ = some (.float .f64 y.stamp) ∧ W.cell? ⟨gk, 6, none⟩ = some (vs y.target))
    (first | exact k0 | exact ka | exact kb | exact kc | exact kd | exact k1 | exact k2 | go_keep)
    (first
      | (refine step_strs (by rfl) (.tmp 92) (.tmp 94) (by rfl) base vn names (by rfl) A1.out ⟨W0.heap.size, 0, none⟩ 1 1 [s] rfl (by rfl) A2.out (by omega) (by simp; omega) ?_
         intro v1 w1 h1 g1
         have HW1 : Hid (Below base W0 w1) := (HB0.out.alloc hb0 (.cells #[vs s] 9)).drew.grown g1 (by simp; omega) (fun c hc => (A1.out.lt c hc).1)
         have D0 : Nodes (W0.alloc (.cells #[vs s] 9)).drew base vk ts := HN0.out.alloc (.cells #[vs s] 9)
         have D1 : Hid (Nodes w1 base vk ts) := D0.kept A1.out g1
         have E1 : Hid (Nodes (w1.alloc (.cells #[vb y.kind, .slice y.na y.names.length y.nc, .slice y.ka ly.length y.kc, .slice y.da y.data.length y.dc, .bool y.run, .float .f64 y.stamp, vs y.target] 80)) base vk ts) := D1.out.alloc _
         have E2 := Lib.hid (HCB.out w1)
         have R1 := Lib.hid h1
         have hw1 : base ≤ w1.heap.size := Nat.le_trans hb0 HW1.out.size
         have k1 := HCELL.out _ HW1.out
         clear h1 g1 D0)
      | (refine step_strs (by rfl) (.tmp 92) (.tmp 94) (by rfl) base vn names (by rfl) B1.out ⟨W0.heap.size, 0, none⟩ 1 1 [s] rfl (by rfl) B2.out (by omega) (by simp; omega) ?_
         intro v1 w1 h1 g1
         have HW1 : Hid (Below base W0 w1) := ((HB0.out.alloc hb0 (.cells #[vs s] 9)).alloc (by simp; omega) (.cells #[vb y.kind, .slice y.na y.names.length y.nc, .slice y.ka ly.length y.kc, .slice y.da y.data.length y.dc, .bool y.run, .float .f64 y.stamp, vs y.target] 80)).drew.grown g1 (by simp; omega) (fun c hc => (B1.out.lt c hc).1)
         have D0 : Nodes ((W0.alloc (.cells #[vs s] 9)).alloc (.cells #[vb y.kind, .slice y.na y.names.length y.nc, .slice y.ka ly.length y.kc, .slice y.da y.data.length y.dc, .bool y.run, .float .f64 y.stamp, vs y.target] 80)).drew base vk ts := (HN0.out.alloc (.cells #[vs s] 9)).alloc (.cells #[vb y.kind, .slice y.na y.names.length y.nc, .slice y.ka ly.length y.kc, .slice y.da y.data.length y.dc, .bool y.run, .float .f64 y.stamp, vs y.target] 80)
         have D1 : Hid (Nodes w1 base vk ts) := D0.kept B1.out g1
         have F1 := Lib.hid D1.out
         have F2 : Hid (∀ j u, ([T.mk y ly].flatMap cellsT)[j]? = some u → w1.cell? ((⟨W0.heap.size + 1, 0, none⟩ : Addr).add j) = some u) := fun j u hj => by
           have h0 : ((W0.alloc (.cells #[vs s] 9)).alloc (.cells #[vb y.kind, .slice y.na y.names.length y.nc, .slice y.ka ly.length y.kc, .slice y.da y.data.length y.dc, .bool y.run, .float .f64 y.stamp, vs y.target] 80)).drew.cell? ((⟨W0.heap.size + 1, 0, none⟩ : Addr).add j) = some u := by
             have := HCB.out (W0.alloc (.cells #[vs s] 9)) j u hj
             rw [World.size_alloc] at this; exact this
           rw [Addr.add_mid] at h0 ⊢
           rw [World.cell?_of_block (a := ⟨W0.heap.size + 1, 0 + j, none⟩) (g1.block (W0.heap.size + 1) (by simp) (fun e => by have := (HS0.out.lt _ e.symm).2; omega))]; exact h0
         have R1 := Lib.hid h1
         have hw1 : base ≤ w1.heap.size := Nat.le_trans hb0 HW1.out.size
         have k1 := HCELL.out _ HW1.out
         clear h1 g1 D0)
      | (refine step_strs (by rfl) (.tmp 92) (.tmp 94) (by rfl) base vn names (by rfl) C1.out ⟨W0.heap.size + 1, 0, none⟩ 1 1 [s] rfl (by rfl) C2.out (by omega) (by simp; omega) ?_
         intro v1 w1 h1 g1
         have HW1 : Hid (Below base W0 w1) := ((HB0.out.alloc hb0 (.cells #[vb y.kind, .slice y.na y.names.length y.nc, .slice y.ka ly.length y.kc, .slice y.da y.data.length y.dc, .bool y.run, .float .f64 y.stamp, vs y.target] 80)).alloc (by simp; omega) (.cells #[vs s] 9)).drew.grown g1 (by simp; omega) (fun c hc => (C1.out.lt c hc).1)
         have D0 : Nodes ((W0.alloc (.cells #[vb y.kind, .slice y.na y.names.length y.nc, .slice y.ka ly.length y.kc, .slice y.da y.data.length y.dc, .bool y.run, .float .f64 y.stamp, vs y.target] 80)).alloc (.cells #[vs s] 9)).drew base vk ts := (HN0.out.alloc (.cells #[vb y.kind, .slice y.na y.names.length y.nc, .slice y.ka ly.length y.kc, .slice y.da y.data.length y.dc, .bool y.run, .float .f64 y.stamp, vs y.target] 80)).alloc (.cells #[vs s] 9)
         have D1 : Hid (Nodes w1 base vk ts) := D0.kept C1.out g1
         have G1 := Lib.hid D1.out
         have G2 : Hid (∀ j u, ([T.mk y ly].flatMap cellsT)[j]? = some u → w1.cell? ((⟨W0.heap.size, 0, none⟩ : Addr).add j) = some u) := fun j u hj => by
           have h0 : ((W0.alloc (.cells #[vb y.kind, .slice y.na y.names.length y.nc, .slice y.ka ly.length y.kc, .slice y.da y.data.length y.dc, .bool y.run, .float .f64 y.stamp, vs y.target] 80)).alloc (.cells #[vs s] 9)).drew.cell? ((⟨W0.heap.size, 0, none⟩ : Addr).add j) = some u := by
             have := ((Blk.new W0 80 #[vb y.kind, .slice y.na y.names.length y.nc, .slice y.ka ly.length y.kc, .slice y.da y.data.length y.dc, .bool y.run, .float .f64 y.stamp, vs y.target]).alloc (.cells #[vs s] 9)).drew
             rw [Addr.add_mid, Nat.zero_add, this.cell]; exact hj
           rw [Addr.add_mid] at h0 ⊢
           rw [World.cell?_of_block (a := ⟨W0.heap.size, 0 + j, none⟩) (g1.block W0.heap.size (by simp; omega) (fun e => by have := (HS0.out.lt _ e.symm).2; omega))]; exact h0
         have R1 := Lib.hid h1
         have hw1 : base ≤ w1.heap.size := Nat.le_trans hb0 HW1.out.size
         have k1 := HCELL.out _ HW1.out
         clear h1 g1 D0)
      | (refine step_nodes (by rfl) (.tmp 96) (.tmp 98) (by rfl) base vk ts (by rfl) E1.out ⟨w1.heap.size, 0, none⟩ 1 1 [T.mk y ly] rfl (by rfl) E2.out (by omega) (by simp; omega) ?_
         intro v2 w2 h2 g2
         have TR : TwoRows Wb base v1 vk (names ++ [s]) ts w1 := ⟨R1.out, D1.out, HBB.out.trans HW1.out⟩
         have HF : Hid (TwoRows Wb base v1 v2 (names ++ [s]) (ts ++ [T.mk y ly]) w2) := TR.push (.cells #[vb y.kind, .slice y.na y.names.length y.nc, .slice y.ka ly.length y.kc, .slice y.da y.data.length y.dc, .bool y.run, .float .f64 y.stamp, vs y.target] 80) hw1 h2 g2
         have k2 := HCELL.out w2 (HW1.out.trans (TR.below_of (.cells #[vb y.kind, .slice y.na y.names.length y.nc, .slice y.ka ly.length y.kc, .slice y.da y.data.length y.dc, .bool y.run, .float .f64 y.stamp, vs y.target] 80) hw1 g2))
         clear h2 g2 TR)
      | (refine step_nodes (by rfl) (.tmp 96) (.tmp 98) (by rfl) base vk ts (by rfl) F1.out ⟨W0.heap.size + 1, 0, none⟩ 1 1 [T.mk y ly] rfl (by rfl) F2.out (by omega) hw1 ?_
         intro v2 w2 h2 g2
         have TR : TwoRows Wb base v1 vk (names ++ [s]) ts w1 := ⟨R1.out, D1.out, HBB.out.trans HW1.out⟩
         have HF : Hid (TwoRows Wb base v1 v2 (names ++ [s]) (ts ++ [T.mk y ly]) w2) := TR.push0 hw1 h2 g2
         have k2 := HCELL.out w2 (HW1.out.trans ((Below.refl base w1).grown g2 hw1 (fun c hc => (D1.out.lt c hc).1)))
         clear h2 g2 TR)
      | (refine step_nodes (by rfl) (.tmp 96) (.tmp 98) (by rfl) base vk ts (by rfl) G1.out ⟨W0.heap.size, 0, none⟩ 1 1 [T.mk y ly] rfl (by rfl) G2.out (by omega) hw1 ?_
         intro v2 w2 h2 g2
         have TR : TwoRows Wb base v1 vk (names ++ [s]) ts w1 := ⟨R1.out, D1.out, HBB.out.trans HW1.out⟩
         have HF : Hid (TwoRows Wb base v1 v2 (names ++ [s]) (ts ++ [T.mk y ly]) w2) := TR.push0 hw1 h2 g2
         have k2 := HCELL.out w2 (HW1.out.trans ((Below.refl base w1).grown g2 hw1 (fun c hc => (D1.out.lt c hc).1)))
         clear h2 g2 TR)
      | fail)
  all_goals (first | exact hQ _ _ _ HF.out | (go_wp2_with fail; first | exact hQ _ _ _ HF.out | exact HF.out))
end Go.Proofs.YtggmogjgaoobjaaDoor
