/- The reference's tables: without. -/
import Derived.Test.YtkmjknehbaofcaaR15
namespace Go.Proofs.Ytkmjknehbaofcaa
open Go.RowKit Go.Maps Go.WideShapes Go.MapKept Go.WideMaps Go.ChangeMaps BaseMath WireMath NameMath

theorem info71 : (Try.prog.info? 71).map (fun i => (i.zero, i.size, i.bytes)) = some (some (.agg #[.string ⟨#[]⟩, .int .i64 0]), 2, 24) := by kernel_rfl
def cellsI (l : List It) : List Value := l.flatMap fun x => [vs x.1, .int .i64 x.2]
theorem cellsI_snoc (l : List It) (x : It) : cellsI (l ++ [x]) = cellsI l ++ [vs x.1, .int .i64 x.2] := by unfold cellsI; simp
/-- a row of items of one's own -/
structure ItRow (w : World) (l : List It) (v : Value) (wr : World) : Prop where
  below : Below w.heap.size w wr
  own : wr.ownsRow w.heap.size 71 2 v l.length (cellsI l)
/-- AN ITEM IS APPENDED -/
theorem wpList_item {w W0 : World} {l : List It} {v : Value} {ops : Array Oper} {rest : List Oper} {o : Oper} {a : Act} {Q : Exit → Act → World → Prop}
    (hgd : o.guard = .none) (s x : Operand) (ho : o.op = .call { callee := .builtin .append, args := #[s, x], argTypes := #[26, 26] }) (r : ItRow w l v W0) (hs : a.eval s = v)
    (y : It) (hx : a.eval x = .slice (some ⟨W0.heap.size, 0, .none⟩) 1 1) (hl : l.length ≤ 100000)
    (h : ∀ v' w', ItRow w (l ++ [y]) v' w' → wpList Try.prog ops Q rest (a.put o.dst v') w') : wpList Try.prog ops Q (o :: rest) a (W0.alloc (.cells #[vs y.1, .int .i64 y.2] 71)) := by
  obtain ⟨i0, hi, hz0, hz1, hz2⟩ := info_parts info71
  have hsz := r.below.size
  have hn : ∀ j u, [vs y.1, Value.int .i64 y.2][j]? = some u → (W0.alloc (.cells #[vs y.1, .int .i64 y.2] 71)).cell? ((⟨W0.heap.size, 0, none⟩ : Addr).add j) = some u := fun j u hj => by
    rw [Addr.add_mid, Nat.zero_add, (Blk.new W0 71 #[vs y.1, .int .i64 y.2]).cell]; exact hj
  refine wpList_append_own_at _ hgd s x 26 ho w.heap.size 71 i0 (.agg #[.string ⟨#[]⟩, .int .i64 0]) 2 24 Try.underlying26 hi hz0 hz1 hz2 rfl (by decide) v l.length (cellsI l) hs (r.own.alloc _) ⟨W0.heap.size, 0, .none⟩ 1 1 [vs y.1, .int .i64 y.2] hx rfl hn (by simp [Value.oneCell']) (by unfold maxLen; omega) (by omega) (by simp; omega) ?_
  intro v' w' h2 h3 _ _
  exact h v' w' ⟨(r.below.alloc hsz _).grown h3 (by simp; omega) (fun g hg => (r.own.lt g hg).1), by rw [List.length_append, cellsI_snoc]; exact h2⟩
/-- all but a key -/
def withoutR (l : List It) (k : List By) : List It := l.filter fun x => !decide (x.1 = k)
set_option maxHeartbeats 2000000 in
set_option maxRecDepth 100000 in
theorem rwithout_any (A : Option Addr) (c : Nat) (l : List It) (k : List By) (w : World) (h : ItsAt w A l) (hl : l.length ≤ 100000) :
    Calls Try.prog 36 #[.slice A l.length c, vs k] w fun e w' => ∃ v, e = .returned v ∧ ItRow w (withoutR l k) v w' := by
  have H := Lib.hid h; clear h
  go_enter Try.func36, Try.ntmps36
  go_wp2_with fail
  go_loopw [5, 6] (fun v vi wr => ∃ i : Nat, i ≤ l.length ∧ vi = .int .i64 i ∧ Hid (ItRow w (withoutR (l.take i) k) v wr)) (fun _ vi _ => l.length - (intOf vi).toNat)
  case atStart => exact ⟨0, Nat.zero_le _, rfl, ⟨Below.refl _ _, World.ownsRow_nil _ _ _ _⟩⟩
  case round =>
    obtain ⟨i, hi, rfl, HR⟩ := hrel
    rename World => W0
    by_cases hlt : i < l.length
    · obtain ⟨b, o, rfl, hc⟩ := (H.out.below HR.out.below) (by omega)
      obtain ⟨k0, k1⟩ := hc i hlt
      have HS : Hid (withoutR (l.take (i + 1)) k = withoutR (l.take i) k ++ (if l[i].1 = k then [] else [l[i]])) := by
        show _ = _
        unfold withoutR
        rw [List.take_succ_eq_append_getElem hlt, List.filter_append]
        by_cases e : l[i].1 = k <;> simp [e]
      have HL : Hid ((withoutR (l.take i) k).length ≤ 100000) := by
        show _ ≤ _
        unfold withoutR
        have := List.length_filter_le (fun x : It => !decide (x.1 = k)) (l.take i)
        rw [List.length_take] at this; omega
      clear hc
      generalize l[i] = y at *
      obtain ⟨y1, y2⟩ := y
      dsimp only at *
      by_cases he : y1 = k
      · subst he
        have hb : (y1 == y1) = true := by rw [list_beq]; exact decide_eq_true rfl
        have HN := HR
        rw [if_pos rfl, List.append_nil] at HS
        rw [← HS.out] at HN
        go_wp2_with fail
        go_roundw
        case rel => first | exact ⟨i + 1, by omega, by go_num, HN.out⟩ | ((repeat apply Exists.intro); refine ⟨?_, rfl⟩; exact ⟨i + 1, by omega, by go_num, HN.out⟩)
        case measure => simp [intOf]; omega
      · have hb : (y1 == k) = false := by rw [list_beq]; exact decide_eq_false he
        rw [if_neg he] at HS
        go_wp2_with (refine wpList_item rfl (.tmp 20) (.tmp 25) rfl HR.out rfl (y1, y2) rfl HL.out ?_)
        intro v5 w5 hr5
        rw [← HS.out] at hr5
        have HN := Lib.hid hr5
        clear hr5 HR HS k0 k1 HL
        go_wp2_with fail
        go_roundw
        case rel => first | exact ⟨i + 1, by omega, by go_num, HN.out⟩ | ((repeat apply Exists.intro); refine ⟨?_, rfl⟩; exact ⟨i + 1, by omega, by go_num, HN.out⟩)
        case measure => simp [intOf]; omega
    · obtain rfl : i = l.length := by omega
      have HN := HR
      rw [List.take_length] at HN
      clear HR
      go_wp2_with fail
      go_ret
      exact ⟨_, rfl, HN.out⟩
end Go.Proofs.Ytkmjknehbaofcaa
