/- The deferred closure of pack.Read. -/
import Derived.Test.YtlehgacbcacokaaG29
import Derived.Defers
import Derived.Recover
namespace Go.Proofs.Ytlehgacbcacokaa
open Go.RowKit TreeMath RealMath WireMath PackMath

set_option maxHeartbeats 1000000 in
set_option maxRecDepth 100000 in
theorem catch_idle (p q : Addr) (w : World) :
    CallsD Try.prog 71 #[.pointer (some p), .pointer (some q)] .returning w fun e u' w' => e = .returned (.tuple #[]) ∧ u' = .returning ∧ w = w' := by
  refine callsD_of_wpS Try.func71 rfl fun c₀ cs hu => ?_
  apply wpS_seq
  apply wpS_region
  simp [wpOpsS, go_sem, recoverD, hu, Try.ntmps71, Exit.thenS]
  refine wpS_of_wp ?_
  change Code.wp _ _ _ { tmps := #[.pointer (some p), .pointer (some q), undef, undef, undef, .nilIface, undef, undef, undef, undef, undef, undef, undef], defers := [] } w
  have hQ : ∀ a : Act, a.defers = [] → (bodyPostS Try.prog Try.f71 c₀ cs fun e u' w' => e = .returned (.tuple #[]) ∧ u' = .returning ∧ w = w') .normal a (c₀ :: cs) w := fun a ha => by
    refine ⟨ha, .returning, ?_, .tuple #[], by simp [results, Try.results71], rfl, rfl, rfl⟩
    cases c₀; simp only at hu; subst hu; rfl
  revert hQ
  generalize (bodyPostS Try.prog Try.f71 c₀ cs fun e u' w' => e = .returned (.tuple #[]) ∧ u' = .returning ∧ w = w') = Q
  intro hQ
  have HQ := Lib.hid hQ
  clear hQ
  go_wp2_with fail
  exact HQ.out _ rfl
set_option maxHeartbeats 1000000 in
set_option maxRecDepth 100000 in
theorem catch_panic (g1 g2 : Nat) (w : World) (cs1 : List Value) (hl : cs1.length = 7) (v2 : Value) (h1 : Blk w g1 27 cs1) (h2 : Blk w g2 51 [v2]) (hne : g1 ≠ g2) :
    CallsD Try.prog 71 #[.pointer (some ⟨g1, 0, none⟩), .pointer (some ⟨g2, 0, none⟩)] (.panicking [{ v := .iface 51 (.int .i64 2), recovered := false }]) w fun e u' w' =>
      e = .returned (.tuple #[]) ∧ u' = .panicking [{ v := .iface 51 (.int .i64 2), recovered := true }] ∧
      (set7 w g1 (.int .u8 0) (.slice none 0 0) (.slice none 0 0) (.slice none 0 0) (.bool false) (.float .f64 0) (.string ⟨#[]⟩)).setCell ⟨g2, 0, none⟩ (.int .i64 2) = w' := by
  refine callsD_of_wpS Try.func71 rfl fun c₀ cs hu => ?_
  apply wpS_seq
  apply wpS_region
  simp [wpOpsS, go_sem, recoverD, hu, Try.ntmps71, Exit.thenS]
  refine wpS_of_wp ?_
  change Code.wp _ _ _ { tmps := #[.pointer (some ⟨g1, 0, none⟩), .pointer (some ⟨g2, 0, none⟩), undef, undef, undef, .iface 51 (.int .i64 2), undef, undef, undef, undef, undef, undef, undef], defers := [] } w
  have HQ : Hid (∀ a : Act, a.defers = [] → (bodyPostS Try.prog Try.f71 c₀ cs fun e u' w' => e = .returned (.tuple #[]) ∧ u' = .panicking [{ v := .iface 51 (.int .i64 2), recovered := true }] ∧
      (set7 w g1 (.int .u8 0) (.slice none 0 0) (.slice none 0 0) (.slice none 0 0) (.bool false) (.float .f64 0) (.string ⟨#[]⟩)).setCell ⟨g2, 0, none⟩ (.int .i64 2) = w') .normal a ({ c₀ with mode := .panicking [{ v := .iface 51 (.int .i64 2), recovered := true }] } :: cs) ((set7 w g1 (.int .u8 0) (.slice none 0 0) (.slice none 0 0) (.slice none 0 0) (.bool false) (.float .f64 0) (.string ⟨#[]⟩)).setCell ⟨g2, 0, none⟩ (.int .i64 2))) := fun a ha =>
    ⟨ha, _, rfl, .tuple #[], by simp [results, Try.results71], rfl, rfl, rfl⟩
  revert HQ
  generalize (bodyPostS Try.prog Try.f71 c₀ cs fun e u' w' => e = .returned (.tuple #[]) ∧ u' = .panicking [{ v := .iface 51 (.int .i64 2), recovered := true }] ∧
      (set7 w g1 (.int .u8 0) (.slice none 0 0) (.slice none 0 0) (.slice none 0 0) (.bool false) (.float .f64 0) (.string ⟨#[]⟩)).setCell ⟨g2, 0, none⟩ (.int .i64 2) = w') = Q
  intro HQ
  obtain ⟨c0, c1, c2, c3, c4, c5, c6, rfl⟩ : ∃ c0 c1 c2 c3 c4 c5 c6, cs1 = [c0, c1, c2, c3, c4, c5, c6] := by
    match cs1, hl with
    | [c0, c1, c2, c3, c4, c5, c6], _ => exact ⟨_, _, _, _, _, _, _, rfl⟩
  have k0 := h1.cell 0; have k1 := h1.cell 1; have k2 := h1.cell 2; have k3 := h1.cell 3; have k4 := h1.cell 4; have k5 := h1.cell 5; have k6 := h1.cell 6
  have f0 := h1.frozen 0; have f1 := h1.frozen 1; have f2 := h1.frozen 2; have f3 := h1.frozen 3; have f4 := h1.frozen 4; have f5 := h1.frozen 5; have f6 := h1.frozen 6
  have e0 := h2.cell 0; have z0 := h2.frozen 0
  have hne' : ¬ g2 = g1 := fun e => hne e.symm
  simp only [List.getElem?_cons_zero, List.getElem?_cons_succ] at k0 k1 k2 k3 k4 k5 k6 e0
  clear h1 h2 hl
  have hta : ∀ w : World, (Instr.typeAssert (.iface 51 (.int .i64 2)) 20 51 true).run Try.prog w = .ok (.tuple #[.int .i64 2, .bool true]) w := fun _ => by kernel_rfl
  go_wp2_with fail
  exact HQ.out _ rfl
end Go.Proofs.Ytlehgacbcacokaa

/- Out of layer 4: the contracts of the writer's Bytes, of bytes.Clone and NewReader. -/
namespace Go.Proofs.Ytlehgacbcacokaa
open Go.RowKit BaseMath WireMath

theorem row_empty4 (w : World) : (w.alloc (.cells #[] 5)).ownsRow w.heap.size 5 1 (.slice (some ⟨w.heap.size, 0, none⟩) 0 0) ([] : List By).length (([] : List By).map vb) :=
  ⟨rfl, .inr ⟨w.heap.size, 0, #[], rfl, Nat.le_refl _, Blk.new w 5 #[], Nat.le_refl _, Nat.zero_le _, rfl, rfl⟩⟩
set_option maxRecDepth 100000 in
set_option maxHeartbeats 1000000 in
theorem clone_any (A : Option Addr) (c : Nat) (l : List By) (hl : l.length ≤ 1000000) (hN : A = none → c = 0) (w : World) (hA : SrcIs w A l) :
    Calls Try.prog 87 #[.slice A l.length c] w fun e w' => ∃ v, e = .returned v ∧ RowRel w 5 (l.map vb) v w' := by
  cases A with
  | none =>
    have hl : l = [] := by
      cases l with
      | nil => rfl
      | cons y r => obtain ⟨b, o, he, _⟩ := hA (by simp); cases he
    subst hl
    obtain rfl := hN rfl
    have heq : (binOp .eql 24 (.slice none 0 0) (.slice none 0 0)).run Try.prog w = .ok (.bool true) w := run_eql_nil_slice w 24 5 none 0 0 0 0 Try.underlying24
    clear hA hN
    go_enter Try.func87, Try.ntmps87
    go_wp2_with fail
    go_ret
    exact ⟨_, rfl, RowRel.none w 5⟩
  | some a =>
    have HA := Lib.hid (hA.below ((Below.refl w.heap.size w).alloc (Nat.le_refl _) (.cells #[] 5)))
    have heq : (binOp .eql 24 (.slice (some a) l.length c) (.slice none 0 0)).run Try.prog w = .ok (.bool false) w := run_eql_nil_slice w 24 5 (some a) l.length c 0 0 Try.underlying24
    clear hA hN
    go_enter Try.func87, Try.ntmps87
    go_wp2_with (refine wpList_append_x rfl (.tmp 5) (.tmp 6) rfl w.heap.size _ [] rfl (row_empty4 w) (some a) c l rfl (fun h => by cases h) HA.out (by simp; omega) (by simp) ?_)
    intro v1 w1 ho hg hk
    have HB : Hid (Below w.heap.size w w1) := ((Below.refl _ _).alloc (Nat.le_refl _) _).grown hg (by simp) (fun k hk => by simp [Value.ownBlock] at hk; omega)
    have HO : Hid (RowRel w 5 (l.map vb) v1 w1) := ⟨HB.out, by rw [List.length_map]; exact ho⟩
    clear ho hg hk
    go_wp2_with fail
    go_ret
    exact ⟨_, rfl, HO.out⟩
theorem wbytes_any (base g : Nat) (v : Value) (l : List By) (hl : l.length ≤ 1000000) (w : World) (h : WrIs w base g v l) :
    Calls Try.prog 69 #[.pointer (some ⟨g, 0, none⟩)] w fun e w' => ∃ v, e = .returned v ∧ RowRel w 5 (l.map vb) v w' := by
  have c0 := h.blk.cell 0
  simp only [List.getElem?_cons_zero] at c0
  obtain ⟨A, c, rfl, hs, hN, -, -⟩ := own_src h.own rfl
  have HS := Lib.hid hs; have HN := Lib.hid hN
  clear h hs hN
  go_enter Try.func69, Try.ntmps69
  go_wp2_with fail
  refine (clone_any A c l hl HN.out w HS.out).mono ?_
  rintro e w1 ⟨v1, rfl, hr⟩
  have HR := Lib.hid hr; clear hr
  go_wp2_with fail
  go_ret
  exact ⟨_, rfl, HR.out⟩
theorem wbytes_nil (w : World) : Calls Try.prog 69 #[.pointer none] w fun e w' => e = .returned (.slice none 0 0) ∧ w = w' := by
  go_enter Try.func69, Try.ntmps69
  go_wp2_with fail
  go_ret
  exact ⟨rfl, rfl⟩
/-- a new reader -/
def NewPost (l : List By) (w : World) (e : Ending) (w' : World) : Prop :=
  ∃ g, e = .returned (.pointer (some ⟨g, 0, none⟩)) ∧ w.heap.size ≤ g ∧ RdIs w' 111 g g ⟨l, false⟩ ∧ Below w.heap.size w w'
set_option maxRecDepth 100000 in
set_option maxHeartbeats 1000000 in
theorem reader_any (A : Option Addr) (c : Nat) (l : List By) (hl : l.length ≤ 1000000) (hN : A = none → c = 0) (w : World) (hA : SrcIs w A l) :
    Calls Try.prog 72 #[.slice A l.length c] w (NewPost l w) := by
  have HA := Lib.hid hA; have HN := Lib.hid hN
  clear hA hN
  go_enter Try.func72, Try.ntmps72
  go_wp2_with fail
  refine (clone_any A c l hl HN.out w HA.out).mono ?_
  rintro e w1 ⟨v1, rfl, hr⟩
  obtain ⟨A1, c1, rfl, hs1, hn1, hc1, hb1⟩ := hr.src
  have HB := Lib.hid hr.below
  have hsz := hr.below.size
  have HNEW : Hid (RdIs (w1.alloc (.cells #[.slice A1 l.length c1, .bool false] 111)) 111 w1.heap.size w1.heap.size ⟨l, false⟩) := by
    refine ⟨⟨A1, c1, Blk.new w1 111 _, hn1, hc1, ?_, fun _ a ha => (hb1 a ha).2⟩, Nat.le_refl _⟩
    exact hs1.below ((Below.refl _ _).alloc (Nat.le_refl _) _)
  have HB2 : Hid (Below w.heap.size w (w1.alloc (.cells #[.slice A1 l.length c1, .bool false] 111))) := HB.out.alloc hsz _
  clear hr hs1 hn1 hc1 hb1 HB
  go_wp2_with fail
  go_ret
  exact ⟨w1.heap.size, rfl, hsz, HNEW.out, HB2.out⟩
end Go.Proofs.Ytlehgacbcacokaa
