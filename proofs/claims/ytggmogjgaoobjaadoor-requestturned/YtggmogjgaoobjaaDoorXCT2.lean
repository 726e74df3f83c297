/- Rows of bytes as lists, rows of a call's own, what is appended to them; the contracts of the reference's Bytes and Join. -/
import Derived.Test.YtggmogjgaoobjaaDoorChecked
import Derived.Test.YtggmogjgaoobjaaDoorXCT1
import Derived.WalkKit
import Derived.WalkSpells
import Derived.WalkLawsBesides
import Derived.Lib.Hide
import Derived.Laws.AppendOwnNone
import Derived.Maps.AppendAt
import Derived.Laws.MakeOwn
import Derived.Laws.IdiomStrings
import Derived.Laws.ShiftsVar
import Derived.Laws.ShiftsVarLaws
import Derived.Deep.QuietTactic
import Derived.BigQuiet
import Derived.IntWalk
namespace Go.Proofs.YtggmogjgaoobjaaDoor
open Go.RowKit BaseMath

set_option maxRecDepth 100000 in
theorem ret_int {k : IntKind} {a b : Int} (h : a = b) : Ending.returned (.int k a) = .returned (.int k b) := by rw [h]
abbrev vb (x : By) : Value := .int .u8 (x.toNat : Int)
/-- bytes at a place -/
def BytesAt (w : World) (b o : Nat) (p : List By) : Prop := ∀ k (h : k < p.length), w.cell? ⟨b, o + k, none⟩ = some (vb p[k])
set_option maxRecDepth 100000 in
theorem BytesAt.getD {w : World} {b o : Nat} {p : List By} (h : BytesAt w b o p) (k : Nat) (hk : k < p.length) : w.cell? ⟨b, o + k, none⟩ = some (vb (p.getD k 0)) := by
  rw [h k hk, List.getD_eq_getElem?_getD, List.getElem?_eq_getElem hk]; rfl
set_option maxRecDepth 100000 in
theorem block_of_cell {W : World} {p : Addr} {v : Value} (h : W.cell? p = some v) : p.block < W.heap.size := World.block_lt_of_cell? W _ h
set_option maxRecDepth 100000 in
theorem BytesAt.lt {w : World} {b o : Nat} {p : List By} (h : BytesAt w b o p) (hk : 0 < p.length) : b < w.heap.size := block_of_cell (h 0 hk)
set_option maxRecDepth 100000 in
theorem BytesAt.below {B : Nat} {w w' : World} {b o : Nat} {p : List By} (h : BytesAt w b o p) (hb : Below B w w') (hB : b < B) : BytesAt w' b o p :=
  fun k hk => by rw [hb.cell (p := ⟨b, o + k, none⟩) hB]; exact h k hk
/-- a slice that reads as these bytes: nil, empty or not -/
def SrcIs (w : World) (A : Option Addr) (p : List By) : Prop := 0 < p.length → ∃ b o, A = some ⟨b, o, none⟩ ∧ BytesAt w b o p
set_option maxRecDepth 100000 in
theorem SrcIs.below {w w' : World} {A : Option Addr} {p : List By} (h : SrcIs w A p) (hb : Below w.heap.size w w') : SrcIs w' A p := fun h0 => by
  obtain ⟨b, o, rfl, hc⟩ := h h0
  exact ⟨b, o, rfl, hc.below hb (hc.lt h0)⟩
set_option maxRecDepth 100000 in
theorem BytesAt.drop {w : World} {b o : Nat} {p : List By} (h : BytesAt w b o p) (k : Nat) : BytesAt w b (o + k) (p.drop k) := fun j hj => by
  have := h (k + j) (by simp at hj; omega)
  rw [show o + k + j = o + (k + j) by omega, this]; simp
set_option maxRecDepth 100000 in
theorem BytesAt.take {w : World} {b o : Nat} {p : List By} (h : BytesAt w b o p) (k : Nat) : BytesAt w b o (p.take k) := fun j hj => by
  rw [h j (by simp at hj; omega)]; simp
set_option maxRecDepth 100000 in
theorem Blk.bytes {w : World} {g : Nat} {l : List By} {tl : List Value} (h : Blk w g 5 (l.map vb ++ tl)) : BytesAt w g 0 l := fun k hk => by
  rw [Nat.zero_add, h.cell, List.getElem?_append_left (by simpa using hk)]; simp [hk]
set_option maxRecDepth 100000 in
theorem bytes_src {w : World} {l : List By} {b o : Nat} (h : BytesAt w b o l) : SrcIs w (some ⟨b, o, none⟩) l := fun _ => ⟨b, o, rfl, h⟩
set_option maxRecDepth 100000 in
theorem BytesAt.src {w : World} {b o : Nat} {p : List By} (h : BytesAt w b o p) : ∀ j y, (p.map vb)[j]? = some y → w.cell? ((⟨b, o, none⟩ : Addr).add j) = some y := fun j y hj => by
  have hl : j < p.length := by have := (List.getElem?_eq_some_iff.1 hj).1; simpa using this
  rw [Addr.add_mid, h j hl, ← hj]; simp [hl]
set_option maxRecDepth 100000 in
theorem info5 : (Tryd.prog.info? 5).map (fun i => (i.zero, i.size, i.bytes)) = some (some (.int .u8 0), 1, 1) := by kernel_rfl
set_option maxRecDepth 100000 in
theorem info3 : (Tryd.prog.info? 3).map (fun i => (i.zero, i.size, i.bytes)) = some (some (.int .i64 0), 1, 8) := by kernel_rfl
set_option maxRecDepth 100000 in
theorem info9 : (Tryd.prog.info? 9).map (fun i => (i.zero, i.size, i.bytes)) = some (some (.string ⟨#[]⟩), 1, 16) := by kernel_rfl
set_option maxRecDepth 100000 in
theorem info_parts {P : Program} {e : TypeId} {z : Value} {s k : Nat} (h : (P.info? e).map (fun i => (i.zero, i.size, i.bytes)) = some (some z, s, k)) :
    ∃ i, P.info? e = some i ∧ i.zero = some z ∧ i.size = s ∧ i.bytes = k := by
  cases hi : P.info? e with
  | none => rw [hi] at h; cases h
  | some i => rw [hi] at h; simp at h; exact ⟨i, rfl, h.1, h.2.1, h.2.2⟩

/-- a row of the call's own, behind w -/
structure RowRel (w : World) (e : TypeId) (l : List Value) (v : Value) (wr : World) : Prop where
  below : Below w.heap.size w wr
  own : wr.ownsRow w.heap.size e 1 v l.length l
set_option maxRecDepth 100000 in
theorem RowRel.none (w : World) (e : TypeId) : RowRel w e [] (.slice none 0 0) w := ⟨Below.refl _ _, World.ownsRow_nil _ _ _ _⟩
set_option maxRecDepth 100000 in
theorem RowRel.drewN {w : World} {e : TypeId} {l : List Value} {v : Value} {wr : World} (r : RowRel w e l v wr) (n : Nat) : RowRel w e l v (wr.drewN n) := ⟨below_drewN r.below n, r.own⟩
set_option maxRecDepth 100000 in
theorem RowRel.drew {w : World} {e : TypeId} {l : List Value} {v : Value} {wr : World} (r : RowRel w e l v wr) : RowRel w e l v wr.drew := ⟨r.below.drew, r.own⟩
set_option maxRecDepth 100000 in
/-- where it lies -/
theorem RowRel.at {w : World} {e : TypeId} {l : List Value} {v : Value} {wr : World} (r : RowRel w e l v wr) (h0 : 0 < l.length) :
    ∃ g c, v = .slice (some ⟨g, 0, .none⟩) l.length c ∧ w.heap.size ≤ g ∧ g < wr.heap.size ∧ wr.rangeAt g 0 l ∧ l.length ≤ c := by
  rcases r.own.2 with ⟨_, h2⟩ | ⟨g, cap, cur, hv, hg, hc, hn, _, hs, ht⟩
  · omega
  · subst hv
    rw [Nat.mul_one] at ht
    have hb : Blk wr g e (l ++ cur.toList.drop l.length) := by
      unfold Blk
      have e1 : cur.toList.take l.length ++ cur.toList.drop l.length = cur.toList := List.take_append_drop _ _
      rw [ht] at e1
      rw [e1]
      exact hc
    refine ⟨g, cap, rfl, hg, hb.lt, fun j y hj => ?_, hn⟩
    rw [Nat.zero_add, hb.cell, List.getElem?_append_left (List.getElem?_eq_some_iff.1 hj).1]; exact hj
set_option maxRecDepth 100000 in
/-- WHAT IS APPENDED TO IT, out of a block that the statement has just laid -/
theorem wpList_push {w W0 : World} {t e : TypeId} {z : Value} {k : Nat} {l : List Value} {v : Value} {ops : Array Oper} {rest : List Oper} {o : Oper} {a : Act} {Q : Exit → Act → World → Prop}
    (ht : Tryd.prog.underlying t = some (.slice e)) (hinf : (Tryd.prog.info? e).map (fun i => (i.zero, i.size, i.bytes)) = some (some z, 1, k)) (hzs : z.cells.size = 1) (hk : k ≤ 16)
    (hgd : o.guard = .none) (s x : Operand) (ho : o.op = .call { callee := .builtin .append, args := #[s, x], argTypes := #[t, t] }) (r : RowRel w e l v W0) (hs : a.eval s = v)
    (ns : List Value) (m : Nat) (hm : ns.length = m) (hx : a.eval x = .slice (some ⟨W0.heap.size, 0, .none⟩) m m) (h1 : ns.all (·.oneCell') = true) (hl : l.length + m ≤ 1000000)
    (h : ∀ v' w', RowRel w e (l ++ ns) v' w' → wpList Tryd.prog ops Q rest (a.put o.dst v') w') : wpList Tryd.prog ops Q (o :: rest) a (W0.alloc (.cells ns.toArray e)) := by
  obtain ⟨i0, hi, hz0, hz1, hz2⟩ := info_parts hinf
  have hsz := r.below.size
  have hb : (l.length + m) * k ≤ 140737488355328 := Nat.le_trans (Nat.mul_le_mul hl hk) (by decide)
  refine wpList_append_own _ hgd s x t ho w.heap.size e i0 z 1 k ht hi hz0 hz1 hz2 hzs (by decide) v l.length l hs (r.own.alloc _) ⟨W0.heap.size, 0, .none⟩ m m ns hx (by omega) ?_ ?_ (by unfold maxLen; omega) hb (by simp; omega) ?_
  · intro j y hj
    rw [Addr.add_mid, Nat.zero_add, (Blk.new W0 e ns.toArray).cell]; exact hj
  · exact fun y hy => List.all_eq_true.1 h1 y hy
  · intro v' w' h2 h3 _
    refine h v' w' ⟨(r.below.alloc hsz _).grown h3 (by simp; omega) (fun g hg' => (r.own.lt g hg').1), ?_⟩
    rw [List.length_append, hm]; exact h2
set_option maxRecDepth 100000 in
theorem RowRel.alloc {w : World} {e : TypeId} {l : List Value} {v : Value} {wr : World} (r : RowRel w e l v wr) (o : Obj) : RowRel w e l v (wr.alloc o) := ⟨r.below.alloc r.below.size o, r.own.alloc o⟩
set_option maxRecDepth 100000 in
/-- a slice of bytes that a call has made, as a source -/
theorem own_src {w : World} {base : Nat} {v : Value} {n : Nat} {l : List By} (h : w.ownsRow base 5 1 v n (l.map vb)) (hl : l.length = n) :
    ∃ A c, v = .slice A l.length c ∧ SrcIs w A l ∧ (A = none → c = 0) ∧ l.length ≤ c ∧ ∀ a, A = some a → base ≤ a.block ∧ a.block < w.heap.size := by
  rcases h.2 with ⟨hv, h0⟩ | ⟨g, cap, cur, hv, hg, hc, hn, _, hs, ht⟩
  · have : l = [] := List.eq_nil_of_length_eq_zero (by omega)
    subst this
    exact ⟨none, 0, hv, fun h => absurd h (by simp), fun _ => rfl, by simp, fun a ha => by cases ha⟩
  · rw [Nat.mul_one] at ht
    have hb : Blk w g 5 (l.map vb ++ cur.toList.drop n) := by rw [← ht, List.take_append_drop]; exact hc
    refine ⟨some ⟨g, 0, none⟩, cap, by rw [hv, hl], fun _ => ⟨g, 0, rfl, Blk.bytes hb⟩, (fun h => by cases h), by omega, fun a ha => ?_⟩
    cases ha
    exact ⟨hg, hb.lt⟩
set_option maxRecDepth 100000 in
theorem RowRel.src {w wr : World} {v : Value} {l : List By} (h : RowRel w 5 (l.map vb) v wr) :
    ∃ A c, v = .slice A l.length c ∧ SrcIs wr A l ∧ (A = .none → c = 0) ∧ l.length ≤ c ∧ ∀ a, A = some a → w.heap.size ≤ a.block ∧ a.block < wr.heap.size :=
  own_src (n := l.length) (by simpa using h.own) rfl
set_option maxRecDepth 100000 in
/-- BYTES APPENDED TO A ROW OF THE CALL's OWN, wherever they come from: nil, empty or not -/
theorem wpList_append_src {w : World} {ops : Array Oper} {rest : List Oper} {o : Oper} {a : Act} {Q : Exit → Act → World → Prop} (hgd : o.guard = none) (s x : Operand)
    (ho : o.op = .call { callee := .builtin .append, args := #[s, x], argTypes := #[37, 37] }) (base : Nat)
    (v : Value) (n : Nat) (xs : List By) (hs : a.eval s = v) (hown : w.ownsRow base 5 1 v n (xs.map vb))
    (A : Option Addr) (c : Nat) (l : List By) (hx : a.eval x = .slice A l.length c) (hN : A = none → c = 0) (hA : SrcIs w A l) (hbd : n + l.length ≤ 1000000) (hbase : base ≤ w.heap.size)
    (h : ∀ v' w', w'.ownsRow base 5 1 v' (n + l.length) ((xs ++ l).map vb) → w.grownBy w' v.ownBlock → wpList Tryd.prog ops Q rest (a.put o.dst v') w') : wpList Tryd.prog ops Q (o :: rest) a w := by
  obtain ⟨i0, hi, hz0, hz1, hz2⟩ := info_parts info5
  cases A with
  | none =>
    have hl : l = [] := by
      cases l with
      | nil => rfl
      | cons y r => obtain ⟨b, o, he, _⟩ := hA (by simp); cases he
    subst hl
    obtain rfl := hN rfl
    exact wpList_append_own_none hgd s x 37 ho base 5 i0 1 Tryd.underlying37 hi v n (xs.map vb) hs hown hx (h v w (by simpa using hown) ⟨rfl, rfl, rfl, Nat.le_refl _, fun _ _ _ => rfl⟩)
  | some ad =>
    refine wpList_append_own w hgd s x 37 ho base 5 i0 (.int .u8 0) 1 1 Tryd.underlying37 hi hz0 hz1 hz2 rfl (by decide) v n (xs.map vb) hs hown ad l.length c (l.map vb) hx (by simp) ?_ ?_ (by unfold maxLen; omega) (by omega) hbase ?_
    · intro j y hj
      have h0 : 0 < l.length := by have := (List.getElem?_eq_some_iff.1 hj).1; simp at this; omega
      obtain ⟨b, o, he, hc⟩ := hA h0
      cases he
      exact hc.src j y hj
    · intro y hy; obtain ⟨z, _, rfl⟩ := List.mem_map.1 hy; rfl
    · intro v' w' h1 h2 _
      refine h v' w' ?_ h2
      rwa [List.map_append]
set_option maxRecDepth 100000 in
set_option maxHeartbeats 1000000 in
theorem join_any (A B : Option Addr) (ca cb : Nat) (a b : List By) (hl : a.length + b.length ≤ 1000000) (hNA : A = none → ca = 0) (hNB : B = none → cb = 0) (w : World) (hA : SrcIs w A a) (hB : SrcIs w B b) :
    Calls Tryd.prog 21 #[.slice A a.length ca, .slice B b.length cb] w fun e w' => ∃ v, e = .returned v ∧ RowRel w 5 ((a ++ b).map vb) v w' := by
  have HA := Lib.hid hA; have HB := Lib.hid hB; have HNA := Lib.hid hNA; have HNB := Lib.hid hNB
  clear hA hB hNA hNB
  go_enter Tryd.func21, Tryd.ntmps21
  go_wp2_with (refine wpList_append_src rfl (.tmp 6) (.tmp 7) rfl w.heap.size (.slice none 0 0) 0 [] rfl (World.ownsRow_nil _ _ _ _) A ca a rfl HNA.out HA.out (by omega) (Nat.le_refl _) ?_)
  intro v1 w1 ho1 hg1
  have HO1 : Hid (w1.ownsRow w.heap.size 5 1 v1 a.length (a.map vb)) := by show World.ownsRow _ _ _ _ _ _ _; simpa using ho1
  have HB1 : Hid (Below w.heap.size w w1) := (Below.refl _ _).grown hg1 (Nat.le_refl _) (by simp [Value.ownBlock])
  clear ho1 hg1
  go_wp2_with (refine wpList_append_src rfl (.tmp 9) (.tmp 10) rfl w.heap.size v1 a.length a rfl HO1.out B cb b rfl HNB.out (HB.out.below HB1.out) hl HB1.out.size ?_)
  intro v2 w2 ho2 hg2
  have HO2 := Lib.hid ho2
  have HB2 : Hid (Below w.heap.size w w2) := HB1.out.grown hg2 HB1.out.size (fun k hk => (HO1.out.lt k hk).1)
  clear ho2 hg2
  go_wp2
  go_ret
  exact ⟨_, rfl, HB2.out, by rw [List.length_map, List.length_append, List.map_append]; exact HO2.out⟩
set_option maxRecDepth 100000 in
set_option maxHeartbeats 1000000 in
theorem bytes_same (A B : Option Addr) (ca cb : Nat) (l : List By) (hl : l.length ≤ 100000) (w : World) (hA : SrcIs w A l) (hB : SrcIs w B l) :
    Calls Tryd.prog 16 #[.slice A l.length ca, .slice B l.length cb] w fun e w' => e = .returned (.bool true) ∧ ∃ q, w' = w.drewN q := by
  have HA := Lib.hid hA; have HB := Lib.hid hB
  clear hA hB
  go_enter Tryd.func16, Tryd.ntmps16
  go_wp2_with fail
  go_loopw [5] (fun vi wr => ∃ k : Nat, k ≤ l.length ∧ vi = .int .i64 k ∧ Hid (∃ q, wr = w.drewN q)) (fun vi _ => l.length - (intOf vi).toNat)
  case atStart => exact ⟨0, Nat.zero_le _, rfl, 0, rfl⟩
  case round =>
    obtain ⟨k, hk, rfl, HR⟩ := hrel
    rename World => W0
    by_cases hlt : k < l.length
    · obtain ⟨a, oa, rfl, ha⟩ := HA.out (by omega)
      obtain ⟨b, ob, rfl, hb⟩ := HB.out (by omega)
      obtain ⟨q, rfl⟩ := HR.out
      have c1 : w.cell? ⟨a, oa + k, none⟩ = some (vb (l.getD k 0)) := ha.getD k hlt
      have c2 : w.cell? ⟨b, ob + k, none⟩ = some (vb (l.getD k 0)) := hb.getD k hlt
      generalize l.getD k 0 = x at *
      clear ha hb HA HB HR
      go_wp2_with fail
      go_quiet (fail)
      go_wp2_with fail
      go_roundw
      case rel => exact ⟨k + 1, by omega, by go_num, _, rfl⟩
      case measure => simp [intOf]; omega
    · obtain rfl : k = l.length := by omega
      go_wp2
      go_ret
      exact ⟨rfl, HR.out⟩
end Go.Proofs.YtggmogjgaoobjaaDoor

/- The contracts of base.Len, base.five and base.Text. -/
namespace Go.Proofs.YtggmogjgaoobjaaDoor
open Go.RowKit BaseMath

set_option maxRecDepth 100000 in
theorem i64_or_nat (a b : Nat) (ha : a < 4611686018427387904) (hb : b < 4611686018427387904) : bits .or .i64 (a : Int) (b : Int) = ((a ||| b : Nat) : Int) := by
  show IntKind.i64.wrap ((BitVec.ofInt 64 a ||| BitVec.ofInt 64 b).toNat : Int) = _
  rw [BitVec.toNat_or, ofInt_u64 a (by omega), ofInt_u64 b (by omega)]
  have h := Nat.or_lt_two_pow (n := 62) ha hb
  exact IntWalk.i64_in _ (by omega)
set_option maxRecDepth 100000 in
theorem i64_and_nat (a b : Nat) (ha : a < 4611686018427387904) (hb : b < 4611686018427387904) : bits .and .i64 (a : Int) (b : Int) = ((a &&& b : Nat) : Int) := by
  show IntKind.i64.wrap ((BitVec.ofInt 64 a &&& BitVec.ofInt 64 b).toNat : Int) = _
  rw [BitVec.toNat_and, ofInt_u64 a (by omega), ofInt_u64 b (by omega)]
  have h := Nat.and_lt_two_pow (n := 62) a hb
  exact IntWalk.i64_in _ (by omega)
set_option maxRecDepth 100000 in
theorem or_low (x y : Nat) (hx : x < 256) (hy : y < 256) : bits .or .i64 ((x : Int) * 256) (y : Int) = ((x * 256 + y : Nat) : Int) := by
  rw [show (x : Int) * 256 = ((x * 256 : Nat) : Int) by omega, i64_or_nat _ _ (by omega) (by omega), nat_join 8 (x * 256) y (by omega) hy]
set_option maxRecDepth 100000 in
theorem and31 (z : Nat) (hz : z < 65536) : bits .and .i64 (z : Int) 31 = ((z % 32 : Nat) : Int) := by
  rw [show (31 : Int) = ((31 : Nat) : Int) by rfl, i64_and_nat _ _ (by omega) (by omega), nat_mask5]
set_option maxRecDepth 100000 in
theorem made_zero (n : Nat) : madeCells #[Value.int .u8 0] n = (List.replicate n (Value.int .u8 0)).toArray := by
  apply Array.ext
  · simp [madeCells]
  · intro i h1 h2
    simp [madeCells, Nat.mod_one]
set_option maxRecDepth 100000 in
theorem run_mk (l c : Nat) (h : l ≤ c) (hc : c ≤ 1000000) (w : World) : (Instr.makeSlice 37 (.int .i64 l) (.int .i64 c)).run Tryd.prog w = .ok (.slice (some ⟨w.heap.size, 0, none⟩) l c) (w.alloc (.cells (List.replicate c (.int .u8 0)).toArray 5)) := by
  obtain ⟨i, hi, hz, hs, hb⟩ := info_parts info5
  have := run_make (P := Tryd.prog) w 37 5 i (.int .u8 0) Tryd.underlying37 hi hz .i64 .i64 l c (by omega) (by omega) (by rw [hb]; omega) (by omega)
  rw [this, hs]
  simp only [Int.toNat_natCast, Nat.mul_one]
  rw [show (Value.int .u8 0).cells = #[Value.int .u8 0] from rfl, made_zero]
set_option maxRecDepth 100000 in
/-- a source of bytes as a text: nil, empty or not -/
theorem run_text_src {w : World} {A : Option Addr} {cap : Nat} {l : List By} (h : SrcIs w A l) : (convert 37 9 (.slice A l.length cap)).run Tryd.prog w = .ok (.string ⟨l.toArray⟩) w := by
  cases A with
  | some a =>
    refine run_convert_bytes_back w 37 9 5 a cap l Tryd.underlying37 Tryd.underlying5 Tryd.underlying9 (fun j hj => ?_)
    obtain ⟨b, o, he, hb⟩ := h (by omega)
    cases he
    rw [Addr.add_mid]; exact hb j hj
  | none =>
    have hl : l = [] := by
      cases l with
      | nil => rfl
      | cons y r => obtain ⟨b, o, he, _⟩ := h (by simp); cases he
    subst hl
    rw [run_convert_bytes_string w 37 9 5 none _ cap Tryd.underlying37 Tryd.underlying5 Tryd.underlying9]
    rfl
end Go.Proofs.YtggmogjgaoobjaaDoor

/- Plain facts on numbers and texts laid as bytes, and on their reading. No program is named. -/
namespace WireMath
open BaseMath

def numB (n : Int) : List By := [UInt8.ofNat (n / 256 % 256).toNat, UInt8.ofNat (n % 256).toNat]
def wideB (x : Nat) : List By := (List.range 8).map fun i => UInt8.ofNat (x / 2 ^ (56 - 8 * i))
def textB (s : List By) : List By := numB s.length ++ s
def textsB (l : List (List By)) : List By := [UInt8.ofNat l.length] ++ l.flatMap textB

/-- what a reader has: the rest, and has it failed -/
structure Rd where
  p : List By
  f : Bool
def Rd.ok (r : Rd) : Prop := r.f = true → r.p = []
def taken (n : Nat) (r : Rd) : List By := if r.p.length < n then [] else r.p.take n
def after (n : Nat) (r : Rd) : Rd := if r.p.length < n then ⟨[], true⟩ else ⟨r.p.drop n, r.f⟩
def fails : Rd := ⟨[], true⟩
def numR (n : Nat) (r : Rd) : Nat := val 256 (nat (taken n r))
def textR (r : Rd) : List By := taken (numR 2 r) (after 2 r)
def textA (r : Rd) : Rd := after (numR 2 r) (after 2 r)
/-- k texts, as long as none fails -/
def textsGo : Nat → List (List By) → Rd → List (List By) × Rd
  | 0, acc, r => (acc, r)
  | k + 1, acc, r => if r.f then (acc, r) else textsGo k (acc ++ [textR r]) (textA r)
def texts0 (most : Int) (r : Rd) : Rd := if most < (numR 1 r : Int) then fails else after 1 r
def textsAll (most : Int) (r : Rd) : List (List By) × Rd := textsGo (numR 1 r) [] (texts0 most r)
def textsR (most : Int) (r : Rd) : List (List By) := if (textsAll most r).2.f then [] else (textsAll most r).1
def textsA (most : Int) (r : Rd) : Rd := (textsAll most r).2

set_option maxRecDepth 100000 in
theorem taken_length (n : Nat) (r : Rd) : (taken n r).length ≤ n := by unfold taken; split <;> simp; omega
set_option maxRecDepth 100000 in
theorem taken_few (n : Nat) (r : Rd) (h : r.p.length < n) : taken n r = [] ∧ after n r = fails := by simp [taken, after, fails, h]
set_option maxRecDepth 100000 in
theorem taken_all (n : Nat) (r : Rd) (h : n ≤ r.p.length) : taken n r = r.p.take n ∧ after n r = ⟨r.p.drop n, r.f⟩ := by
  simp [taken, after, show ¬ r.p.length < n by omega]
set_option maxRecDepth 100000 in
theorem ok_after {r : Rd} (h : r.ok) (n : Nat) : (after n r).ok := by
  unfold after; split
  · intro _; rfl
  · intro hf; simp at hf; simp [h hf]
set_option maxRecDepth 100000 in
theorem ok_fails : fails.ok := fun _ => rfl
set_option maxRecDepth 100000 in
theorem ok_textA {r : Rd} (h : r.ok) : (textA r).ok := ok_after (ok_after h 2) _
set_option maxRecDepth 100000 in
theorem ok_textsGo : ∀ (k : Nat) (acc : List (List By)) (r : Rd), r.ok → (textsGo k acc r).2.ok
  | 0, _, _, h => h
  | k + 1, acc, r, h => by
    unfold textsGo; split
    · exact h
    · exact ok_textsGo k _ _ (ok_textA h)
set_option maxRecDepth 100000 in
theorem ok_textsA {r : Rd} (h : r.ok) (most : Int) : (textsA most r).ok := by
  unfold textsA textsAll
  refine ok_textsGo _ _ _ ?_
  unfold texts0; split
  · exact ok_fails
  · exact ok_after h 1
set_option maxRecDepth 100000 in
theorem numR_lt (n : Nat) (r : Rd) : numR n r < 256 ^ n := by
  unfold numR
  refine Nat.lt_of_lt_of_le (val_lt 256 _ (nat_lt _)) (Nat.pow_le_pow_right (by decide) ?_)
  rw [nat_length]; exact taken_length n r
set_option maxRecDepth 100000 in
theorem textsGo_failed (k : Nat) (acc : List (List By)) (r : Rd) (h : r.f = true) : textsGo k acc r = (acc, r) := by
  cases k with
  | zero => rfl
  | succ k => unfold textsGo; rw [if_pos h]
set_option maxRecDepth 100000 in
/-- one round of the loop -/
theorem textsGo_step (n k : Nat) (acc : List (List By)) (r : Rd) (hk : k < n) (h : r.f = false) : textsGo (n - k) acc r = textsGo (n - (k + 1)) (acc ++ [textR r]) (textA r) := by
  rw [show n - k = (n - (k + 1)) + 1 by omega]
  conv => lhs; unfold textsGo
  simp [h]
end WireMath

/- A reader in memory; the contracts of its leaves: fail, Left, OK, End, take. -/
namespace Go.Proofs.YtggmogjgaoobjaaDoor
open Go.RowKit BaseMath WireMath

/-- of what was there, only that block may have turned -/
structure OnlyAt (g : Nat) (w w' : World) : Prop where
  os : w'.os = w.os
  tape : w'.tape = w.tape
  output : w'.output = w.output
  size : w.heap.size ≤ w'.heap.size
  other : ∀ c, c < w.heap.size → c ≠ g → w'.heap[c]? = w.heap[c]?
set_option maxRecDepth 100000 in
theorem OnlyAt.refl (g : Nat) (w : World) : OnlyAt g w w := ⟨rfl, rfl, rfl, Nat.le_refl _, fun _ _ _ => rfl⟩
set_option maxRecDepth 100000 in
theorem OnlyAt.trans {g : Nat} {a b c : World} (h : OnlyAt g a b) (k : OnlyAt g b c) : OnlyAt g a c :=
  ⟨k.os.trans h.os, k.tape.trans h.tape, k.output.trans h.output, Nat.le_trans h.size k.size, fun i hi hn => (k.other i (Nat.lt_of_lt_of_le hi h.size) hn).trans (h.other i hi hn)⟩
set_option maxRecDepth 100000 in
theorem OnlyAt.setCell {g : Nat} {a w : World} (h : OnlyAt g a w) (o : Nat) (v : Value) : OnlyAt g a (w.setCell ⟨g, o, none⟩ v) :=
  ⟨h.os, h.tape, h.output, by rw [World.size_setCell]; exact h.size, fun c hc hn => by rw [Below.heap_setCell w ⟨g, o, none⟩ v c hn]; exact h.other c hc hn⟩
set_option maxRecDepth 100000 in
theorem OnlyAt.below {g B : Nat} {w w' : World} (h : OnlyAt g w w') (hB : B ≤ g) (hw : B ≤ w.heap.size) : Below B w w' :=
  ⟨h.os, h.tape, h.output, h.size, fun k hk => h.other k (by omega) (by omega)⟩
set_option maxRecDepth 100000 in
theorem OnlyAt.of_below {g : Nat} {w w' : World} (h : Below w.heap.size w w') : OnlyAt g w w' := ⟨h.os, h.tape, h.output, h.size, fun c hc _ => h.block c hc⟩
set_option maxRecDepth 100000 in
theorem BytesAt.same {w w' : World} {b o : Nat} {p : List By} (h : BytesAt w b o p) (hb : w'.heap[b]? = w.heap[b]?) : BytesAt w' b o p := fun k hk => by
  rw [World.cell?_of_block (w := w) (a := ⟨b, o + k, none⟩) hb]; exact h k hk
set_option maxRecDepth 100000 in
theorem SrcIs.only {w w' : World} {A : Option Addr} {p : List By} {g : Nat} (h : SrcIs w A p) (ho : OnlyAt g w w') (hne : 0 < p.length → ∀ a, A = some a → a.block ≠ g) : SrcIs w' A p := fun h0 => by
  obtain ⟨b, o, rfl, hc⟩ := h h0
  exact ⟨b, o, rfl, hc.same (ho.other b (hc.lt h0) (hne h0 _ rfl))⟩
set_option maxRecDepth 100000 in
theorem Blk.only {w w' : World} {b g : Nat} {t : TypeId} {cs : List Value} (h : Blk w b t cs) (ho : OnlyAt g w w') (hne : b ≠ g) : Blk w' b t cs := by
  unfold Blk; rw [ho.other b h.lt hne]; exact h

/-- a reader at block g (of type T), whose bytes lie below top -/
structure RdIs (w : World) (T : TypeId) (top g : Nat) (r : Rd) : Prop where
  ex : ∃ A c, Blk w g T [.slice A r.p.length c, .bool r.f] ∧ (A = none → c = 0) ∧ r.p.length ≤ c ∧ SrcIs w A r.p ∧ (0 < r.p.length → ∀ a, A = some a → a.block < top)
  le : top ≤ g
set_option maxRecDepth 100000 in
theorem RdIs.only {w w' : World} {T : TypeId} {top g g' : Nat} {r : Rd} (h : RdIs w T top g r) (ho : OnlyAt g' w w') (hne : g ≠ g') (ht : top ≤ g') : RdIs w' T top g r := by
  obtain ⟨A, c, h1, h2, h3, h4, h5⟩ := h.ex
  exact ⟨⟨A, c, Blk.only h1 ho hne, h2, h3, h4.only ho (fun h0 a ha => by have := h5 h0 a ha; omega), h5⟩, h.le⟩
set_option maxRecDepth 100000 in
theorem RdIs.below {w w' : World} {T : TypeId} {top g B : Nat} {r : Rd} (h : RdIs w T top g r) (hb : Below B w w') (hB : g < B) : RdIs w' T top g r := by
  obtain ⟨A, c, h1, h2, h3, h4, h5⟩ := h.ex
  refine ⟨⟨A, c, h1.below hb hB, h2, h3, fun h0 => ?_, h5⟩, h.le⟩
  obtain ⟨b, o, rfl, hc⟩ := h4 h0
  have := h5 h0 _ rfl
  have hle := h.le
  exact ⟨b, o, rfl, hc.same (hb.block b (by simp at this; omega))⟩
set_option maxRecDepth 100000 in
theorem RdIs.drewN {w : World} {T : TypeId} {top g : Nat} {r : Rd} (h : RdIs w T top g r) (q : Nat) : RdIs (w.drewN q) T top g r := ⟨h.ex, h.le⟩
set_option maxRecDepth 100000 in
theorem Blk.set2 {w : World} {b : Nat} {t : TypeId} {x y : Value} (h : Blk w b t [x, y]) (x' y' : Value) : Blk ((w.setCell ⟨b, 0, none⟩ x').setCell ⟨b, 1, none⟩ y') b t [x', y'] := by
  have h1 := (h.set 0 x').set 1 y'
  simpa using h1
set_option maxRecDepth 100000 in
set_option maxHeartbeats 1000000 in
theorem fail_any (top g : Nat) (r : Rd) (w : World) (h : RdIs w 141 top g r) :
    Calls Tryd.prog 94 #[.pointer (some ⟨g, 0, none⟩)] w fun e w' => e = .returned (.tuple #[]) ∧ RdIs w' 141 top g fails ∧ OnlyAt g w w' := by
  obtain ⟨A, c, hblk, -, -, -, -⟩ := h.ex
  have c0 := hblk.cell 0; have c1 := hblk.cell 1
  have f0 := hblk.frozen 0; have f1 := hblk.frozen 1
  simp only [List.getElem?_cons_zero, List.getElem?_cons_succ] at c0 c1
  have HN : Hid (RdIs ((w.setCell ⟨g, 0, none⟩ (.slice none 0 0)).setCell ⟨g, 1, none⟩ (.bool true)) 141 top g fails) :=
    ⟨⟨none, 0, Blk.set2 hblk _ _, fun _ => rfl, Nat.le_refl _, fun h => absurd h (by simp [fails]), fun _ a ha => by cases ha⟩, h.le⟩
  have HO : Hid (OnlyAt g w ((w.setCell ⟨g, 0, none⟩ (.slice none 0 0)).setCell ⟨g, 1, none⟩ (.bool true))) := ((OnlyAt.refl g w).setCell 0 _).setCell 1 _
  clear h hblk
  go_enter Tryd.func94, Tryd.ntmps94
  go_wp2_with fail
  exact bodyPost_end (v := .tuple #[]) (by simp [results, Tryd.results94]) rfl ⟨rfl, HN.out, HO.out⟩
set_option maxRecDepth 100000 in
theorem fail_nil (w : World) : Calls Tryd.prog 94 #[.pointer none] w fun e w' => e = .returned (.tuple #[]) ∧ w = w' := by
  go_enter Tryd.func94, Tryd.ntmps94
  go_wp2_with fail
  exact bodyPost_end (v := .tuple #[]) (by simp [results, Tryd.results94]) rfl ⟨rfl, rfl⟩
set_option maxRecDepth 100000 in
theorem left_any (top g : Nat) (r : Rd) (w : World) (h : RdIs w 141 top g r) :
    Calls Tryd.prog 91 #[.pointer (some ⟨g, 0, none⟩)] w fun e w' => e = .returned (.int .i64 (r.p.length : Nat)) ∧ w = w' := by
  obtain ⟨A, c, hblk, -, -, -, -⟩ := h.ex
  have c0 := hblk.cell 0
  simp only [List.getElem?_cons_zero] at c0
  clear h hblk
  go_enter Tryd.func91, Tryd.ntmps91
  go_wp2_with fail
  go_ret
  exact ⟨rfl, rfl⟩
set_option maxRecDepth 100000 in
theorem left_nil (w : World) : Calls Tryd.prog 91 #[.pointer none] w fun e w' => e = .returned (.int .i64 0) ∧ w = w' := by
  go_enter Tryd.func91, Tryd.ntmps91
  go_wp2_with fail
  go_ret
  exact ⟨rfl, rfl⟩
set_option maxRecDepth 100000 in
theorem ok_any (top g : Nat) (r : Rd) (w : World) (h : RdIs w 141 top g r) :
    Calls Tryd.prog 90 #[.pointer (some ⟨g, 0, none⟩)] w fun e w' => e = .returned (.bool !r.f) ∧ w = w' := by
  obtain ⟨A, c, hblk, -, -, -, -⟩ := h.ex
  have c1 := hblk.cell 1
  simp only [List.getElem?_cons_zero, List.getElem?_cons_succ] at c1
  clear h hblk
  go_enter Tryd.func90, Tryd.ntmps90
  go_wp2_with fail
  go_ret
  exact ⟨rfl, rfl⟩
set_option maxRecDepth 100000 in
theorem ok_nil (w : World) : Calls Tryd.prog 90 #[.pointer none] w fun e w' => e = .returned (.bool false) ∧ w = w' := by
  go_enter Tryd.func90, Tryd.ntmps90
  go_wp2_with fail
  go_ret
  exact ⟨rfl, rfl⟩
/-- what End answers -/
def endR (r : Rd) : Int := if r.f || decide (0 < r.p.length) then 2 else 0
set_option maxRecDepth 100000 in
set_option maxHeartbeats 1000000 in
theorem end_any (top g : Nat) (r : Rd) (w : World) (h : RdIs w 141 top g r) :
    Calls Tryd.prog 52 #[.pointer (some ⟨g, 0, none⟩)] w fun e w' => e = .returned (.int .i64 (endR r)) ∧ w = w' := by
  have H := Lib.hid h; clear h
  cases hf : r.f with
  | true =>
    have HE : Hid (endR r = 2) := by show _ = _; simp [endR, hf]
    go_enter Tryd.func52, Tryd.ntmps52
    go_wp2_with fail
    refine (ok_any top g r w H.out).mono ?_
    rintro e w1 ⟨rfl, rfl⟩
    go_wp2_with fail
    go_ret
    exact ⟨ret_int HE.out.symm, rfl⟩
  | false =>
    by_cases hl : 0 < r.p.length
    · have HE : Hid (endR r = 2) := by show _ = _; simp [endR, hf, hl]
      have hl' : (0 : Int) < r.p.length := by omega
      go_enter Tryd.func52, Tryd.ntmps52
      go_wp2_with fail
      refine (ok_any top g r w H.out).mono ?_
      rintro e w1 ⟨rfl, rfl⟩
      go_wp2_with fail
      refine (left_any top g r w H.out).mono ?_
      rintro e w1 ⟨rfl, rfl⟩
      go_wp2_with fail
      go_ret
      exact ⟨ret_int HE.out.symm, rfl⟩
    · have HE : Hid (endR r = 0) := by show _ = _; simp [endR, hf, hl]
      have hl' : ¬ (0 : Int) < r.p.length := by omega
      go_enter Tryd.func52, Tryd.ntmps52
      go_wp2_with fail
      refine (ok_any top g r w H.out).mono ?_
      rintro e w1 ⟨rfl, rfl⟩
      go_wp2_with fail
      refine (left_any top g r w H.out).mono ?_
      rintro e w1 ⟨rfl, rfl⟩
      go_wp2_with fail
      go_ret
      exact ⟨ret_int HE.out.symm, rfl⟩
set_option maxRecDepth 100000 in
theorem end_nil (w : World) : Calls Tryd.prog 52 #[.pointer none] w fun e w' => e = .returned (.int .i64 2) ∧ w = w' := by
  go_enter Tryd.func52, Tryd.ntmps52
  go_wp2_with fail
  refine (ok_nil w).mono ?_
  rintro e w1 ⟨rfl, rfl⟩
  go_wp2_with fail
  go_ret
  exact ⟨rfl, rfl⟩
/-- what take comes to -/
def TakePost (w : World) (T : TypeId) (top g n : Nat) (r : Rd) (e : Ending) (w' : World) : Prop :=
  ∃ A c, e = .returned (.slice A (taken n r).length c) ∧ SrcIs w' A (taken n r) ∧ RdIs w' T top g (after n r) ∧ OnlyAt g w w'
set_option maxRecDepth 100000 in
theorem take_close {w : World} {T : TypeId} {top g n b o c k c' : Nat} {r : Rd} {A' : Option Addr} (hblk : Blk w g T [.slice (some ⟨b, o, none⟩) r.p.length c, .bool r.f]) (hB : BytesAt w b o r.p) (hb : b < top) (hle : top ≤ g)
    (hn : n ≤ r.p.length) (h1 : ∀ a, A' = some a → a.block = b) (h2 : 0 < r.p.length - n → A' = some ⟨b, o + n, none⟩) (h3 : A' = none → c' = 0) (h4 : r.p.length - n ≤ c') :
    TakePost w T top g n r (.returned (.slice (some ⟨b, o, none⟩) n k)) (w.setCell ⟨g, 0, none⟩ (.slice A' (r.p.length - n) c')) := by
  obtain ⟨e1, e2⟩ := taken_all n r hn
  have ho : OnlyAt g w (w.setCell ⟨g, 0, none⟩ (.slice A' (r.p.length - n) c')) := (OnlyAt.refl g w).setCell 0 _
  have hB' : BytesAt (w.setCell ⟨g, 0, none⟩ (.slice A' (r.p.length - n) c')) b o r.p := hB.same (Below.heap_setCell w ⟨g, 0, none⟩ _ b (by simp; omega))
  refine ⟨some ⟨b, o, none⟩, k, by rw [e1]; simp; omega, ?_, ?_, ho⟩
  · rw [e1]; exact bytes_src (hB'.take n)
  · refine ⟨⟨A', c', ?_, h3, by rw [e2]; simpa using h4, ?_, fun _ a ha => by rw [h1 a ha]; exact hb⟩, hle⟩
    · have := hblk.set 0 (.slice A' (r.p.length - n) c')
      rw [e2]; simpa using this
    · rw [e2]; intro h0
      simp only [List.length_drop] at h0
      exact ⟨b, o + n, h2 h0, hB'.drop n⟩
set_option maxRecDepth 100000 in
set_option maxHeartbeats 1000000 in
theorem take_any (top g n : Nat) (hn : n ≤ 1000000) (r : Rd) (hr : r.p.length ≤ 1000000) (w : World) (h : RdIs w 141 top g r) :
    Calls Tryd.prog 88 #[.pointer (some ⟨g, 0, none⟩), .int .i64 n] w (TakePost w 141 top g n r) := by
  have H := Lib.hid h; clear h
  by_cases hlt : r.p.length < n
  · obtain ⟨e1, e2⟩ := taken_few n r hlt
    have HE1 := Lib.hid e1; have HE2 := Lib.hid e2
    have hlt' : (r.p.length : Int) < n := by omega
    clear e1 e2
    go_enter Tryd.func88, Tryd.ntmps88
    go_wp2_with fail
    refine (left_any top g r w H.out).mono ?_
    rintro e w1 ⟨rfl, rfl⟩
    go_wp2_with fail
    refine (fail_any top g r w H.out).mono ?_
    rintro e w1 ⟨rfl, h1, h2⟩
    have HR := Lib.hid h1; have HO := Lib.hid h2
    clear h1 h2
    go_wp2_with fail
    go_ret
    exact ⟨none, 0, by rw [HE1.out]; rfl, (fun h => by rw [HE1.out] at h; exact absurd h (by simp)), by rw [HE2.out]; exact HR.out, HO.out⟩
  · obtain ⟨e1, e2⟩ := taken_all n r (by omega)
    have HE1 := Lib.hid e1; have HE2 := Lib.hid e2
    have hlt' : ¬ ((r.p.length : Int) < n) := by omega
    clear e1 e2
    by_cases h0 : n = 0
    · subst h0
      have HE3 : Hid (after 0 r = r) := by show _ = _; rw [HE2.out]; simp
      go_enter Tryd.func88, Tryd.ntmps88
      go_wp2_with fail
      refine (left_any top g r w H.out).mono ?_
      rintro e w1 ⟨rfl, rfl⟩
      go_wp2_with fail
      go_ret
      exact ⟨none, 0, by rw [HE1.out]; rfl, (fun h => by rw [HE1.out] at h; exact absurd h (by simp)), by rw [HE3.out]; exact H.out, OnlyAt.refl g w⟩
    · have h0' : ((n : Int) == 0) = false := by rw [beq_eq_false_iff_ne]; omega
      obtain ⟨A, c, hblk, hN, hc, hS, hA⟩ := H.out.ex
      obtain ⟨b, o, rfl, hB⟩ := hS (by omega)
      have hbt := hA (by omega) _ rfl
      simp only at hbt
      have hle := H.out.le
      have c0 := hblk.cell 0
      have f0 := hblk.frozen 0
      simp only [List.getElem?_cons_zero] at c0
      have HBy := Lib.hid hB; have HBlk := Lib.hid hblk
      have hnc : n ≤ c := by omega
      have hnl : n ≤ r.p.length := by omega
      have HTL : Hid ((taken n r).length = n) := by show _ = _; rw [HE1.out]; simp; omega
      have HDL : Hid ((after n r).p.length = r.p.length - n) := by show _ = _; rw [HE2.out]; simp
      clear hB hblk hS hA hN
      by_cases hcap : c = n
      · subst hcap
        go_enter Tryd.func88, Tryd.ntmps88
        go_wp2_with fail
        refine (left_any top g r w H.out).mono ?_
        rintro e w1 ⟨rfl, rfl⟩
        go_wp2_with fail
        go_ret
        have := take_close (n := c) (k := c) (c' := 0) (A' := some ⟨b, o, none⟩) HBlk.out HBy.out hbt hle hnl (fun a ha => by cases ha; rfl) (fun h => by omega) (fun h => by cases h) (by omega)
        rw [show r.p.length - c = 0 by omega] at this
        exact this
      · have hcap' : n < c := by omega
        go_enter Tryd.func88, Tryd.ntmps88
        go_wp2_with fail
        refine (left_any top g r w H.out).mono ?_
        rintro e w1 ⟨rfl, rfl⟩
        go_wp2_with fail
        go_ret
        exact take_close (k := n) HBlk.out HBy.out hbt hle hnl (fun a ha => by cases ha; rfl) (fun _ => rfl) (fun h => by cases h) (by omega)
end Go.Proofs.YtggmogjgaoobjaaDoor
