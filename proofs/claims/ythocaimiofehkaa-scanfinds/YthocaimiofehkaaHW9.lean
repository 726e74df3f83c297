/- The contract of the reference's Join. -/
import Derived.Test.YthocaimiofehkaaHW8
namespace Go.Proofs.Ythocaimiofehkaa.Hs
open Go.RowKit HashMath

/-- BYTES APPENDED TO A ROW OF THE CALL's OWN, wherever they come from: nil, empty or not -/
theorem wpList_append_src {w : World} {ops : Array Oper} {rest : List Oper} {o : Oper} {a : Act} {Q : Exit → Act → World → Prop} (hgd : o.guard = none) (s x : Operand)
    (ho : o.op = .call { callee := .builtin .append, args := #[s, x], argTypes := #[26, 26] }) (base : Nat)
    (v : Value) (n : Nat) (xs : List By) (hs : a.eval s = v) (hown : w.ownsRow base 5 1 v n (xs.map vb))
    (A : Option Addr) (c : Nat) (l : List By) (hx : a.eval x = .slice A l.length c) (hN : A = none → c = 0) (hA : SrcIs w A l) (hbd : n + l.length ≤ 1000000) (hbase : base ≤ w.heap.size)
    (h : ∀ v' w', w'.ownsRow base 5 1 v' (n + l.length) ((xs ++ l).map vb) → w.grownBy w' v.ownBlock → wpList Try.prog ops Q rest (a.put o.dst v') w') : wpList Try.prog ops Q (o :: rest) a w := by
  obtain ⟨i0, hi, hz0, hz1, hz2⟩ := info_parts info5
  cases A with
  | none =>
    have hl : l = [] := by
      cases l with
      | nil => rfl
      | cons y r => obtain ⟨b, o, he, _⟩ := hA (by simp); cases he
    subst hl
    obtain rfl := hN rfl
    exact wpList_append_own_none hgd s x 26 ho base 5 i0 1 Try.underlying26 hi v n (xs.map vb) hs hown hx (h v w (by simpa using hown) ⟨rfl, rfl, rfl, Nat.le_refl _, fun _ _ _ => rfl⟩)
  | some ad =>
    refine wpList_append_own w hgd s x 26 ho base 5 i0 (.int .u8 0) 1 1 Try.underlying26 hi hz0 hz1 hz2 rfl (by decide) v n (xs.map vb) hs hown ad l.length c (l.map vb) hx (by simp) ?_ ?_ (by unfold maxLen; omega) (by omega) hbase ?_
    · intro j y hj
      have h0 : 0 < l.length := by have := (List.getElem?_eq_some_iff.1 hj).1; simp at this; omega
      obtain ⟨b, o, he, hc⟩ := hA h0
      cases he
      exact hc.src j y hj
    · intro y hy; obtain ⟨z, _, rfl⟩ := List.mem_map.1 hy; rfl
    · intro v' w' h1 h2 _
      refine h v' w' ?_ h2
      rwa [List.map_append]

set_option maxHeartbeats 1000000 in
theorem join_any (A B : Option Addr) (ca cb : Nat) (a b : List By) (hl : a.length + b.length ≤ 1000000) (hNA : A = none → ca = 0) (hNB : B = none → cb = 0) (w : World) (hA : SrcIs w A a) (hB : SrcIs w B b) :
    Calls Try.prog 18 #[.slice A a.length ca, .slice B b.length cb] w fun e w' => ∃ v, e = .returned v ∧ w'.ownsRow w.heap.size 5 1 v (a.length + b.length) ((a ++ b).map vb) ∧ Below w.heap.size w w' := by
  have HA := Lib.hid hA; have HB := Lib.hid hB; have HNA := Lib.hid hNA; have HNB := Lib.hid hNB
  clear hA hB hNA hNB
  go_enter Try.func18, Try.ntmps18
  go_wp2_with (refine wpList_append_src rfl (.tmp 6) (.tmp 7) rfl w.heap.size (.slice none 0 0) 0 [] rfl (World.ownsRow_nil _ _ _ _) A ca a rfl HNA.out HA.out (by omega) (Nat.le_refl _) ?_)
  intro v1 w1 ho1 hg1
  have HO1 : Hid (w1.ownsRow w.heap.size 5 1 v1 a.length (a.map vb)) := by show World.ownsRow _ _ _ _ _ _ _; simpa using ho1
  have HB1 : Hid (Below w.heap.size w w1) := (Below.refl _ _).grown hg1 (Nat.le_refl _) (by simp [Value.ownBlock])
  clear ho1 hg1
  go_wp2_with (refine wpList_append_src rfl (.tmp 9) (.tmp 10) rfl w.heap.size v1 a.length a rfl HO1.out B cb b rfl HNB.out (HB.out.below HB1.out) hl HB1.out.size ?_)
  intro v2 w2 ho2 hg2
  have HO2 := Lib.hid ho2
  have HB2 : Hid (Below w.heap.size w w2) := HB1.out.grown hg2 HB1.out.size (fun k hk => (HO1.out.lt k hk).1)
  clear ho2 hg2
  go_wp2
  go_ret
  exact ⟨_, rfl, by rw [List.map_append]; exact HO2.out, HB2.out⟩
end Go.Proofs.Ythocaimiofehkaa.Hs
