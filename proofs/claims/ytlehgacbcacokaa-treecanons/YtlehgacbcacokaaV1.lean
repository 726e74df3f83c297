/- The contracts of slices.Clone and bytes.Clone. -/
import Derived.Test.YtlehgacbcacokaaK9
namespace Go.Proofs.Ytlehgacbcacokaa
open Go.RowKit TreeMath RealMath

theorem strs_empty (W : World) : Strs (W.alloc (.cells #[] 9)) W.heap.size (.slice (some ⟨W.heap.size, 0, none⟩) 0 0) [] := World.ownsRow_made W #[] 0 (Nat.le_refl _) (by unfold maxLen; omega) (by simp)
theorem nodes_empty (W : World) : Nodes (W.alloc (.cells #[] 27)) W.heap.size (.slice (some ⟨W.heap.size, 0, none⟩) 0 0) [] := World.ownsRow_made W #[] 0 (Nat.le_refl _) (by unfold maxLen; omega) (by simp)
set_option maxRecDepth 100000 in
set_option maxHeartbeats 2000000 in
theorem cloneS_any (A : Option Addr) (c : Nat) (ls : List (List By)) (w : World) (hA : StrsIs w A ls) (hN : A = none → c = 0) (hl : ls.length ≤ 100000) :
    Calls Try.prog 86 #[.slice A ls.length c] w fun e w' => ∃ v, e = .returned v ∧ Strs w' w.heap.size v ls ∧ Below w.heap.size w w' := by
  cases A with
  | none =>
    have hl0 : ls = [] := by
      cases ls with
      | nil => rfl
      | cons y r => obtain ⟨b, o, he, _⟩ := hA (by simp); cases he
    subst hl0
    obtain rfl := hN rfl
    have heq : (binOp .eql 22 (.slice none 0 0) (.slice none 0 0)).run Try.prog w = .ok (.bool true) w := run_eql_nil_slice w 22 9 none 0 0 0 0 Try.underlying22
    clear hA hN
    go_enter Try.func86, Try.ntmps86
    go_wp2_with fail
    go_ret
    exact ⟨_, rfl, strs_nil _ _, Below.refl _ _⟩
  | some ad =>
    have HA := Lib.hid (hA.below ((Below.refl w.heap.size w).alloc (Nat.le_refl _) (.cells #[] 9)) hA.lt)
    have heq : (binOp .eql 22 (.slice (some ad) ls.length c) (.slice none 0 0)).run Try.prog w = .ok (.bool false) w := run_eql_nil_slice w 22 9 (some ad) ls.length c 0 0 Try.underlying22
    clear hA hN
    go_enter Try.func86, Try.ntmps86
    go_wp2_with (refine wpList_append_strs_any rfl (.tmp 5) (.tmp 6) rfl w.heap.size (.slice (some ⟨w.heap.size, 0, none⟩) 0 0) [] rfl (strs_empty w) (some ad) c ls rfl (fun h => by cases h) HA.out (by simp; omega) (by simp) ?_)
    intro v' w' hn hg
    replace hn : Strs w' w.heap.size v' ls := hn
    have HN := Lib.hid hn
    have HB : Hid (Below w.heap.size w w') := ((Below.refl _ _).alloc (Nat.le_refl _) _).grown hg (by simp) (fun k hk => by simp [Value.ownBlock] at hk; omega)
    clear hn hg
    go_wp2_with fail
    go_ret
    exact ⟨_, rfl, HN.out, HB.out⟩
theorem row_empty (w : World) : (w.alloc (.cells #[] 5)).ownsRow w.heap.size 5 1 (.slice (some ⟨w.heap.size, 0, none⟩) 0 0) 0 (([] : List By).map vb) :=
  ⟨rfl, .inr ⟨w.heap.size, 0, #[], rfl, Nat.le_refl _, Blk.new w 5 #[], Nat.le_refl _, Nat.zero_le _, rfl, rfl⟩⟩
set_option maxRecDepth 100000 in
set_option maxHeartbeats 2000000 in
theorem cloneB_any (A : Option Addr) (c : Nat) (l : List By) (w : World) (hA : SrcIs w A l) (hN : A = none → c = 0) (hl : l.length ≤ 100000) :
    Calls Try.prog 87 #[.slice A l.length c] w fun e w' => ∃ v, e = .returned v ∧ w'.ownsRow w.heap.size 5 1 v l.length (l.map vb) ∧ Below w.heap.size w w' := by
  cases A with
  | none =>
    have hl0 : l = [] := by
      cases l with
      | nil => rfl
      | cons y r => obtain ⟨b, o, he, _⟩ := hA (by simp); cases he
    subst hl0
    obtain rfl := hN rfl
    have heq : (binOp .eql 24 (.slice none 0 0) (.slice none 0 0)).run Try.prog w = .ok (.bool true) w := run_eql_nil_slice w 24 5 none 0 0 0 0 Try.underlying24
    clear hA hN
    go_enter Try.func87, Try.ntmps87
    go_wp2_with fail
    go_ret
    exact ⟨_, rfl, World.ownsRow_nil _ _ _ _, Below.refl _ _⟩
  | some ad =>
    have HA := Lib.hid (hA.below ((Below.refl w.heap.size w).alloc (Nat.le_refl _) (.cells #[] 5)))
    have heq : (binOp .eql 24 (.slice (some ad) l.length c) (.slice none 0 0)).run Try.prog w = .ok (.bool false) w := run_eql_nil_slice w 24 5 (some ad) l.length c 0 0 Try.underlying24
    clear hA hN
    go_enter Try.func87, Try.ntmps87
    go_wp2_with (refine wpList_append_src rfl (.tmp 5) (.tmp 6) rfl w.heap.size (.slice (some ⟨w.heap.size, 0, none⟩) 0 0) 0 [] rfl (row_empty w) (some ad) c l rfl (fun h => by cases h) HA.out (by omega) (by simp) ?_)
    intro v' w' hn hg
    have HN : Hid (w'.ownsRow w.heap.size 5 1 v' l.length (l.map vb)) := hn
    have HB : Hid (Below w.heap.size w w') := ((Below.refl _ _).alloc (Nat.le_refl _) _).grown hg (by simp) (fun k hk => by simp [Value.ownBlock] at hk; omega)
    clear hn hg
    go_wp2_with fail
    go_ret
    exact ⟨_, rfl, HN.out, HB.out⟩
set_option maxRecDepth 100000 in
set_option maxHeartbeats 2000000 in
theorem cloneN_any (A : Option Addr) (c top : Nat) (ks : List T) (w : World) (hA : KidsAt w top A ks) (htop : top ≤ w.heap.size) (hN : A = none → c = 0) (hl : ks.length ≤ 100000) :
    Calls Try.prog 88 #[.slice A ks.length c] w fun e w' => ∃ v, e = .returned v ∧ Nodes w' w.heap.size v ks ∧ Below w.heap.size w w' := by
  cases A with
  | none =>
    have hl0 : ks = [] := by
      cases ks with
      | nil => rfl
      | cons y r => obtain ⟨b, o, he, _⟩ := hA (by simp); cases he
    subst hl0
    obtain rfl := hN rfl
    have heq : (binOp .eql 23 (.slice none 0 0) (.slice none 0 0)).run Try.prog w = .ok (.bool true) w := run_eql_nil_slice w 23 27 none 0 0 0 0 Try.underlying23
    clear hA hN
    go_enter Try.func88, Try.ntmps88
    go_wp2_with fail
    go_ret
    exact ⟨_, rfl, nodes_nil _ _, Below.refl _ _⟩
  | some ad =>
    have HA := Lib.hid (hA.below (((Below.refl w.heap.size w).alloc (Nat.le_refl _) (.cells #[] 27)).mono htop))
    have heq : (binOp .eql 23 (.slice (some ad) ks.length c) (.slice none 0 0)).run Try.prog w = .ok (.bool false) w := run_eql_nil_slice w 23 27 (some ad) ks.length c 0 0 Try.underlying23
    clear hA hN
    go_enter Try.func88, Try.ntmps88
    go_wp2_with (refine wpList_append_nodes_any rfl (.tmp 5) (.tmp 6) rfl w.heap.size (.slice (some ⟨w.heap.size, 0, none⟩) 0 0) [] rfl (nodes_empty w) (some ad) c top ks rfl (fun h => by cases h) HA.out (by simp; omega) (by simp) ?_)
    intro v' w' hn hg
    replace hn : Nodes w' w.heap.size v' ks := hn
    have HN := Lib.hid hn
    have HB : Hid (Below w.heap.size w w') := ((Below.refl _ _).alloc (Nat.le_refl _) _).grown hg (by simp) (fun k hk => by simp [Value.ownBlock] at hk; omega)
    clear hn hg
    go_wp2_with fail
    go_ret
    exact ⟨_, rfl, HN.out, HB.out⟩
end Go.Proofs.Ytlehgacbcacokaa
